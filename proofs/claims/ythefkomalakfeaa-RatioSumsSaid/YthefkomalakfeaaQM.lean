/-
  ratio: Mul, Div: what they return. Condition: the parts are ints.
-/
import Derived.Test.YthefkomalakfeaaQO
namespace Go.Proofs.Ythefkomalakfeaa.W
open Go.RowKit Go.Proofs.Ythefkomalakfeaa.Q

set_option maxRecDepth 100000 in
set_option maxHeartbeats 3200000 in
theorem mul_any (an ad bn bd : Int) (ha1 : I64 an) (ha2 : I64 ad) (hb1 : I64 bn) (hb2 : I64 bd) (w : World) : Calls Try.prog 14 #[raV an ad, raV bn bd] w fun e w' => e = .returned (resV (mulR an ad bn bd)) ∧ Nw w w' := by
  have HB := Lib.hid (blk3 w 23 #[.int .i64 an, .int .i64 ad] #[.int .i64 bn, .int .i64 bd] #[.int .i64 0, .int .i64 0])
  have hva := fun w1 => valid_any an ad ha1 ha2 w1
  have hvb := fun w1 => valid_any bn bd hb1 hb2 w1
  by_cases ha : Vld an ad
  · rw [decide_eq_true ha] at hva
    by_cases hb : Vld bn bd
    · rw [decide_eq_true hb] at hvb
      have hr := mulR_way ha hb
      have m1 := fun w1 => magnitude_any an ha1 w1
      have m2 := fun w1 => magnitude_any bn hb1 w1
      obtain ⟨a1, a2⟩ := vld_n ha
      obtain ⟨a3, a4⟩ := vld_d ha
      obtain ⟨b1, b2⟩ := vld_n hb
      obtain ⟨b3, b4⟩ := vld_d hb
      have v1 : IntKind.u64.wrap ad = (ad.natAbs : Int) := by rw [IntKind.wrap_u64]; omega
      have v2 : IntKind.u64.wrap bd = (bd.natAbs : Int) := by rw [IntKind.wrap_u64]; omega
      have g1 := fun w1 => gcd_any an.natAbs bd.natAbs (by unfold U64; omega) (by unfold U64; omega) w1
      have g2 := fun w1 => gcd_any bn.natAbs ad.natAbs (by unfold U64; omega) (by unfold U64; omega) w1
      have z1 : ¬ Nat.gcd an.natAbs bd.natAbs = 0 := Nat.ne_of_gt (Nat.gcd_pos_of_pos_right _ (by omega))
      have z2 : ¬ Nat.gcd bn.natAbs ad.natAbs = 0 := Nat.ne_of_gt (Nat.gcd_pos_of_pos_right _ (by omega))
      have d1 := divU' an.natAbs (Nat.gcd an.natAbs bd.natAbs) (by omega)
      have d2 := divU' bn.natAbs (Nat.gcd bn.natAbs ad.natAbs) (by omega)
      have d3 := divU' ad.natAbs (Nat.gcd bn.natAbs ad.natAbs) (by omega)
      have d4 := divU' bd.natAbs (Nat.gcd an.natAbs bd.natAbs) (by omega)
      have p1 := fun w1 => mul64_any _ _ (dv_lt an.natAbs (Nat.gcd an.natAbs bd.natAbs) (by omega)) (dv_lt bn.natAbs (Nat.gcd bn.natAbs ad.natAbs) (by omega)) w1
      have p2 := fun w1 => mul64_any _ _ (dv_lt ad.natAbs (Nat.gcd bn.natAbs ad.natAbs) (by omega)) (dv_lt bd.natAbs (Nat.gcd an.natAbs bd.natAbs) (by omega)) w1
      obtain ⟨s1, es1⟩ : ∃ b, decide (an < 0) = b := ⟨_, rfl⟩
      obtain ⟨s2, es2⟩ : ∃ b, decide (bn < 0) = b := ⟨_, rfl⟩
      rw [es1, es2] at hr
      generalize Nat.gcd an.natAbs bd.natAbs = g at *
      generalize Nat.gcd bn.natAbs ad.natAbs = h at *
      generalize an.natAbs / g = x1 at *
      generalize bn.natAbs / h = x2 at *
      generalize ad.natAbs / h = y1 at *
      generalize bd.natAbs / g = y2 at *
      generalize x1 * x2 = X at *
      generalize y1 * y2 = Y at *
      generalize mulR an ad bn bd = r at *
      obtain ⟨X1, hX1⟩ : ∃ n, X / 18446744073709551616 = n := ⟨_, rfl⟩
      obtain ⟨X0, hX0⟩ : ∃ n, X % 18446744073709551616 = n := ⟨_, rfl⟩
      obtain ⟨Y1, hY1⟩ : ∃ n, Y / 18446744073709551616 = n := ⟨_, rfl⟩
      obtain ⟨Y0, hY0⟩ : ∃ n, Y % 18446744073709551616 = n := ⟨_, rfl⟩
      rw [hX1, hX0] at p1
      rw [hY1, hY0] at p2
      have hlow : ∀ w1, Calls Try.prog 44 #[.bool (!(s1 == s2)), .int .u64 X0, .int .u64 Y0] w1 fun e w' => e = .returned (resV (lowR (s1 != s2) X0 Y0)) ∧ Nw w1 w' := fun w1 => lowest_any (s1 != s2) X0 Y0 (by unfold U64; omega) (by unfold U64; omega) w1
      have hA : X1 = 0 → Y1 = 0 → r = lowR (s1 != s2) X0 Y0 := fun h1 h2 => by rw [hr, show X = X0 by omega, show Y = Y0 by omega]
      have hC : ¬ (X1 = 0 ∧ Y1 = 0) → r = (0, 0, 2) := fun h => by rw [hr]; exact low_big _ _ _ (by omega)
      have HA := Lib.hid hA
      have HC := Lib.hid hC
      clear a1 a2 a3 a4 b1 b2 b3 b4 ha1 ha2 hb1 hb2 hr hX1 hX0 hY1 hY0 hA hC
      go_enter Try.func14, Try.ntmps14
      go_wp2_with fail
      with_reducible refine (hva _).mono ?_
      rintro e w1 ⟨rfl, hk1⟩
      obtain ⟨r0, r1, r2, r3⟩ := (HB.out.2.1.kp hk1 id).two
      have HK1 := Lib.hid hk1
      clear hk1
      go_wp2_with fail
      with_reducible refine (hvb _).mono ?_
      rintro e w2 ⟨rfl, hk2⟩
      have HK2 := Lib.hid (HK1.out.tr hk2)
      clear hk2 r0 r1 r2 r3 hva hvb
      obtain ⟨q0, q1, q2, q3⟩ := (HB.out.1.kp HK2.out id).two
      obtain ⟨r0, r1, r2, r3⟩ := (HB.out.2.1.kp HK2.out id).two
      go_wp2_with fail
      go_quiet ((go_at_call 41; exact Calls.quiet_of_same ((m1 _).mono fun _ _ h => ⟨h.1, h.2.symm⟩)))
      generalize hw3 : World.drewN w2 _ = w3
      have HK3 := Lib.hid (HK2.out.tr (show Nw w2 w3 by rw [← hw3]; exact nw_drewN _ _))
      clear hw3 q0 q1 q2 q3 r0 r1 r2 r3
      obtain ⟨r0, r1, r2, r3⟩ := (HB.out.2.1.kp HK3.out id).two
      go_wp2_with fail
      go_quiet ((go_at_call 41; exact Calls.quiet_of_same ((m2 _).mono fun _ _ h => ⟨h.1, h.2.symm⟩)))
      generalize hw4 : World.drewN w3 _ = w4
      have HK4 := Lib.hid (HK3.out.tr (show Nw w3 w4 by rw [← hw4]; exact nw_drewN _ _))
      clear hw4 r0 r1 r2 r3
      go_wp2_with fail
      with_reducible refine (g1 _).mono ?_
      rintro e w5 ⟨rfl, k5, hw5⟩
      have HK5 := Lib.hid (HK4.out.tr (show Nw w4 w5 by rw [hw5]; exact nw_drewN _ _))
      clear hw5
      go_wp2_with fail
      with_reducible refine (g2 _).mono ?_
      rintro e w6 ⟨rfl, k6, hw6⟩
      have HK6 := Lib.hid (HK5.out.tr (show Nw w5 w6 by rw [hw6]; exact nw_drewN _ _))
      clear hw6
      go_wp2_with fail
      go_quiet ((go_at_call 43; exact Calls.quiet_of_same ((p1 _).mono fun _ _ h => ⟨h.1, h.2.symm⟩)))
      generalize hw7 : World.drewN w6 _ = w7
      have HK7 := Lib.hid (HK6.out.tr (show Nw w6 w7 by rw [← hw7]; exact nw_drewN _ _))
      clear hw7 m1 m2 g1 g2 p1
      go_wp2_with fail
      go_quiet ((go_at_call 43; exact Calls.quiet_of_same ((p2 _).mono fun _ _ h => ⟨h.1, h.2.symm⟩)))
      generalize hw8 : World.drewN w7 _ = w8
      have HK8 := Lib.hid (HK7.out.tr (show Nw w7 w8 by rw [← hw8]; exact nw_drewN _ _))
      have HN8 := Lib.hid ((((nw_alloc w _).alloc _).alloc _).tr HK8.out)
      clear hw8 p2
      obtain ⟨q0, q1, q2, q3⟩ := (HB.out.1.kp HK8.out id).two
      obtain ⟨r0, r1, r2, r3⟩ := (HB.out.2.1.kp HK8.out id).two
      obtain ⟨t0, t1, t2, t3⟩ := (HB.out.2.2.kp HK8.out id).two
      by_cases hx : X1 = 0
      · subst hx
        by_cases hy : Y1 = 0
        · subst hy
          go_wp2_with fail
          refine (hlow _).mono ?_
          rintro e w9 ⟨rfl, hk9⟩
          obtain ⟨t0, t1, t2, t3⟩ := (HB.out.2.2.kp (HK8.out.tr hk9) id).two
          go_wp2
          exact bodyPost_ret (v := resV (lowR (s1 != s2) X0 Y0)) (by simp [results, Try.results14, go_sem, t0, t1]) rfl ⟨by rw [HA.out (by simp) (by simp)], (HN8.out.tr hk9).new (by omega) _ _ |>.new (by omega) _ _⟩
        · have ey : ((Y1 : Int) != 0) = true := by simp [hy]
          have HD := Lib.hid (HC.out fun h => hy h.2)
          go_wp2_with fail
          exact bodyPost_ret (v := resV (0, 0, 2)) (by simp [results, Try.results14, go_sem, t0, t1]) rfl ⟨by rw [HD.out], HN8.out.new (by omega) _ _ |>.new (by omega) _ _⟩
      · have ex : ((X1 : Int) != 0) = true := by simp [hx]
        have HD := Lib.hid (HC.out fun h => hx h.1)
        go_wp2_with fail
        exact bodyPost_ret (v := resV (0, 0, 2)) (by simp [results, Try.results14, go_sem, t0, t1]) rfl ⟨by rw [HD.out], HN8.out.new (by omega) _ _ |>.new (by omega) _ _⟩
    · rw [decide_eq_false hb] at hvb
      rw [mulR_bad fun h => hb h.2]
      clear hb ha
      go_enter Try.func14, Try.ntmps14
      go_wp2_with fail
      with_reducible refine (hva _).mono ?_
      rintro e w1 ⟨rfl, hk1⟩
      obtain ⟨r0, r1, r2, r3⟩ := (HB.out.2.1.kp hk1 id).two
      have HK1 := Lib.hid hk1
      clear hk1
      go_wp2_with fail
      with_reducible refine (hvb _).mono ?_
      rintro e w2 ⟨rfl, hk2⟩
      have HK2 := Lib.hid (HK1.out.tr hk2)
      clear hk2
      obtain ⟨t0, t1, t2, t3⟩ := (HB.out.2.2.kp HK2.out id).two
      go_wp2
      exact bodyPost_ret (v := resV (0, 0, 1)) (by simp [results, Try.results14, go_sem, t0, t1]) rfl ⟨rfl, ((((nw_alloc w _).alloc _).alloc _).tr HK2.out).new (by omega) _ _ |>.new (by omega) _ _⟩
  · rw [decide_eq_false ha] at hva
    rw [mulR_bad fun h => ha h.1]
    clear ha
    go_enter Try.func14, Try.ntmps14
    go_wp2_with fail
    with_reducible refine (hva _).mono ?_
    rintro e w1 ⟨rfl, hk1⟩
    have HK1 := Lib.hid hk1
    clear hk1
    obtain ⟨t0, t1, t2, t3⟩ := (HB.out.2.2.kp HK1.out id).two
    go_wp2
    exact bodyPost_ret (v := resV (0, 0, 1)) (by simp [results, Try.results14, go_sem, t0, t1]) rfl ⟨rfl, ((((nw_alloc w _).alloc _).alloc _).tr HK1.out).new (by omega) _ _ |>.new (by omega) _ _⟩

theorem divR_way (an ad bn bd : Int) : divR an ad bn bd = if Vld bn bd ∧ bn ≠ 0 then (if bn < 0 then mulR an ad (-bd) (-bn) else mulR an ad bd bn) else (0, 0, 1) := by
  unfold divR
  by_cases h0 : bn = 0
  · rw [if_pos h0, if_neg (fun h => h.2 h0)]
  · rw [if_neg h0]
    by_cases hb : Vld bn bd
    · rw [if_pos ⟨hb, h0⟩]
      obtain ⟨b1, b2⟩ := vld_n hb
      obtain ⟨b3, b4⟩ := vld_d hb
      obtain ⟨c1, c2, c3⟩ := good_div hb
      rw [good_rat hb]
      have key : ∀ n d : Int, Vld n d → ((Rat.divInt bn bd)⁻¹).num = n → (((Rat.divInt bn bd)⁻¹).den : Int) = d → both (· / ·) (val an ad) (some (Rat.divInt bn bd)) = mulR an ad n d := by
        intro n d hv h1 h2
        unfold mulR
        obtain ⟨q, e1, e2, e3, e4⟩ := val_eq hv
        have : q = (Rat.divInt bn bd)⁻¹ := Rat.ext (e2.trans h1.symm) (by omega)
        rw [e1, this]
        cases val an ad
        · rfl
        · show out (_ / _) = out (_ * _)
          rw [Rat.div_def]
      have hg : Nat.gcd bd.natAbs bn.natAbs = 1 := by rw [Nat.gcd_comm]; exact hb.2.2.2
      split
      · rename_i hn
        refine key _ _ ((vld_iff _ _).2 ⟨by omega, by omega, by omega, by omega, by rw [Int.natAbs_neg, Int.natAbs_neg]; exact hg⟩) ?_ ?_
        · rw [Rat.num_inv, c1, c2, Int.sign_eq_neg_one_of_neg hn]; omega
        · rw [Rat.den_inv, c1, if_neg h0]; omega
      · rename_i hn
        refine key _ _ ((vld_iff _ _).2 ⟨by omega, by omega, by omega, by omega, hg⟩) ?_ ?_
        · rw [Rat.num_inv, c1, c2, Int.sign_eq_one_of_pos (by omega)]; omega
        · rw [Rat.den_inv, c1, if_neg h0]; omega
    · rw [if_neg (fun h => hb h.1), val_good hb]
      cases val an ad <;> rfl

set_option maxHeartbeats 1600000 in
theorem div_any (an ad bn bd : Int) (ha1 : I64 an) (ha2 : I64 ad) (hb1 : I64 bn) (hb2 : I64 bd) (w : World) : Calls Try.prog 16 #[raV an ad, raV bn bd] w fun e w' => e = .returned (resV (divR an ad bn bd)) ∧ Nw w w' := by
  have HB := Lib.hid (blk3 w 23 #[.int .i64 an, .int .i64 ad] #[.int .i64 bn, .int .i64 bd] #[.int .i64 0, .int .i64 0])
  have hvb := fun w1 => valid_any bn bd hb1 hb2 w1
  have hr := divR_way an ad bn bd
  by_cases hb : Vld bn bd
  · rw [decide_eq_true hb] at hvb
    by_cases h0 : bn = 0
    · subst h0
      rw [if_neg (fun h => h.2 rfl)] at hr
      rw [hr]
      clear hr hb
      go_enter Try.func16, Try.ntmps16
      go_wp2_with fail
      with_reducible refine (hvb _).mono ?_
      rintro e w1 ⟨rfl, hk1⟩
      have HK1 := Lib.hid hk1
      clear hk1
      obtain ⟨r0, r1, r2, r3⟩ := (HB.out.2.1.kp HK1.out id).two
      obtain ⟨t0, t1, t2, t3⟩ := (HB.out.2.2.kp HK1.out id).two
      go_wp2
      exact bodyPost_ret (v := resV (0, 0, 1)) (by simp [results, Try.results16, go_sem, t0, t1]) rfl ⟨rfl, ((((nw_alloc w _).alloc _).alloc _).tr HK1.out).new (by omega) _ _ |>.new (by omega) _ _⟩
    · rw [if_pos ⟨hb, h0⟩] at hr
      obtain ⟨b1, b2⟩ := vld_n hb
      obtain ⟨b3, b4⟩ := vld_d hb
      have hm1 := fun w1 => mul_any an ad (-bd) (-bn) ha1 ha2 ⟨by omega, by omega⟩ ⟨by omega, by omega⟩ w1
      have hm2 := fun w1 => mul_any an ad bd bn ha1 ha2 ⟨by omega, by omega⟩ ⟨by omega, by omega⟩ w1
      have e0 : (bn == 0) = false := by simp [h0]
      have e1 : IntKind.i64.wrap (-bn) = -bn := by rw [IntKind.wrap_i64]; omega
      have e2 : IntKind.i64.wrap (-bd) = -bd := by rw [IntKind.wrap_i64]; omega
      clear b1 b2 b3 b4 h0 hb
      by_cases hn : bn < 0
      · have e3 : decide (bn < 0) = true := decide_eq_true hn
        rw [if_pos hn] at hr
        rw [hr]
        generalize mulR an ad (-bd) (-bn) = r at *
        clear hr hn hm2
        go_enter Try.func16, Try.ntmps16
        go_wp2_with fail
        with_reducible refine (hvb _).mono ?_
        rintro e w1 ⟨rfl, hk1⟩
        have HK1 := Lib.hid hk1
        clear hk1
        obtain ⟨r0, r1, r2, r3⟩ := (HB.out.2.1.kp HK1.out id).two
        obtain ⟨s0, s1, s2, s3⟩ := (HB.out.2.1.kp (HK1.out.alloc (.cells #[.int .i64 bd, .int .i64 bn] 23)) id).two
        obtain ⟨q0, q1, q2, q3⟩ := (HB.out.1.kp (HK1.out.alloc (.cells #[.int .i64 (-bd), .int .i64 (-bn)] 23)) id).two
        go_wp2_with fail
        with_reducible refine (hm1 _).mono ?_
        rintro e w2 ⟨rfl, hk2⟩
        have HK2 := Lib.hid ((HK1.out.alloc (.cells #[.int .i64 (-bd), .int .i64 (-bn)] 23)).tr hk2)
        clear hk2 q0 q1 q2 q3 r0 r1 r2 r3 s0 s1 s2 s3
        obtain ⟨t0, t1, t2, t3⟩ := (HB.out.2.2.kp HK2.out id).two
        go_wp2
        exact bodyPost_ret (v := resV r) (by simp [results, Try.results16, go_sem, t0, t1]) rfl ⟨rfl, ((((nw_alloc w _).alloc _).alloc _).tr HK2.out).new (by omega) _ _ |>.new (by omega) _ _⟩
      · have e3 : decide (bn < 0) = false := decide_eq_false hn
        rw [if_neg hn] at hr
        rw [hr]
        generalize mulR an ad bd bn = r at *
        clear hr hn hm1
        go_enter Try.func16, Try.ntmps16
        go_wp2_with fail
        with_reducible refine (hvb _).mono ?_
        rintro e w1 ⟨rfl, hk1⟩
        have HK1 := Lib.hid hk1
        clear hk1
        obtain ⟨r0, r1, r2, r3⟩ := (HB.out.2.1.kp HK1.out id).two
        obtain ⟨s0, s1, s2, s3⟩ := (HB.out.2.1.kp (HK1.out.alloc (.cells #[.int .i64 bd, .int .i64 bn] 23)) id).two
        obtain ⟨q0, q1, q2, q3⟩ := (HB.out.1.kp (HK1.out.alloc (.cells #[.int .i64 bd, .int .i64 bn] 23)) id).two
        go_wp2_with fail
        with_reducible refine (hm2 _).mono ?_
        rintro e w2 ⟨rfl, hk2⟩
        have HK2 := Lib.hid ((HK1.out.alloc (.cells #[.int .i64 bd, .int .i64 bn] 23)).tr hk2)
        clear hk2 q0 q1 q2 q3 r0 r1 r2 r3 s0 s1 s2 s3
        obtain ⟨t0, t1, t2, t3⟩ := (HB.out.2.2.kp HK2.out id).two
        go_wp2
        exact bodyPost_ret (v := resV r) (by simp [results, Try.results16, go_sem, t0, t1]) rfl ⟨rfl, ((((nw_alloc w _).alloc _).alloc _).tr HK2.out).new (by omega) _ _ |>.new (by omega) _ _⟩
  · rw [decide_eq_false hb] at hvb
    rw [if_neg (fun h => hb h.1)] at hr
    rw [hr]
    clear hr hb
    go_enter Try.func16, Try.ntmps16
    go_wp2_with fail
    with_reducible refine (hvb _).mono ?_
    rintro e w1 ⟨rfl, hk1⟩
    have HK1 := Lib.hid hk1
    clear hk1
    obtain ⟨t0, t1, t2, t3⟩ := (HB.out.2.2.kp HK1.out id).two
    go_wp2
    exact bodyPost_ret (v := resV (0, 0, 1)) (by simp [results, Try.results16, go_sem, t0, t1]) rfl ⟨rfl, ((((nw_alloc w _).alloc _).alloc _).tr HK1.out).new (by omega) _ _ |>.new (by omega) _ _⟩
end Go.Proofs.Ythefkomalakfeaa.W
