/-
  The reference's Of, Add: what they return. Condition: the parts are ints.
-/
import Derived.Test.YthefkomalakfeaaRNn
namespace Go.Proofs.Ythefkomalakfeaa.W
open Go.RowKit Go.Proofs.Ythefkomalakfeaa.Q

theorem both_bad {f : Rat → Rat → Rat} {an ad bn bd : Int} (h : ¬ (Vld an ad ∧ Vld bn bd)) : both f (val an ad) (val bn bd) = (0, 0, 1) := by
  unfold both
  by_cases ha : Vld an ad
  · rw [val_good (fun hb => h ⟨ha, hb⟩)]
    split
    · rename_i h2; cases h2
    · rfl
  · rw [val_good ha]
theorem both_good {f : Rat → Rat → Rat} {an ad bn bd : Int} (ha : Vld an ad) (hb : Vld bn bd) : both f (val an ad) (val bn bd) = out (f (Rat.divInt an ad) (Rat.divInt bn bd)) := by
  rw [good_rat ha, good_rat hb]
  rfl
theorem den_abs {n d : Int} (h : Vld n d) : (Rat.divInt n d).den = d.natAbs ∧ (Rat.divInt n d).num = n ∧ ((d.natAbs : Nat) : Int) = d := by
  obtain ⟨h1, h2, _⟩ := good_div h
  have := h.1
  exact ⟨by omega, h1, by omega⟩
theorem mul_pos_abs {a b : Int} (ha : 1 ≤ a) (hb : 1 ≤ b) : 1 ≤ a * b ∧ (a * b).natAbs = a.natAbs * b.natAbs := by
  refine ⟨?_, Int.natAbs_mul a b⟩
  have := Int.mul_pos (show 0 < a by omega) (show 0 < b by omega)
  omega
theorem add_parts {an ad bn bd : Int} (ha : Vld an ad) (hb : Vld bn bd) : addR an ad bn bd = out (Rat.divInt (an * bd + bn * ad) (ad * bd)) := by
  unfold addR
  rw [both_good ha hb]
  obtain ⟨a1, a2, a3⟩ := den_abs ha
  obtain ⟨b1, b2, b3⟩ := den_abs hb
  obtain ⟨p1, p2⟩ := mul_pos_abs ha.1 hb.1
  rw [Rat.add_def', div_mk (an * bd + bn * ad), if_neg (by omega), a1, a2, b1, b2, a3, b3, p2]
theorem mul_parts {an ad bn bd : Int} (ha : Vld an ad) (hb : Vld bn bd) : mulR an ad bn bd = out (Rat.divInt (an * bn) (ad * bd)) := by
  unfold mulR
  rw [both_good ha hb]
  obtain ⟨a1, a2, a3⟩ := den_abs ha
  obtain ⟨b1, b2, b3⟩ := den_abs hb
  obtain ⟨p1, p2⟩ := mul_pos_abs ha.1 hb.1
  rw [Rat.mul_def', div_mk (an * bn), if_neg (by omega), a1, a2, b1, b2, p2]
theorem small_mul {a b : Int} (ha : -1073741824 ≤ a ∧ a ≤ 1073741824) (hb : -1073741824 ≤ b ∧ b ≤ 1073741824) : -1152921504606846976 ≤ a * b ∧ a * b ≤ 1152921504606846976 := by
  have h := Nat.mul_le_mul (show a.natAbs ≤ 1073741824 by omega) (show b.natAbs ≤ 1073741824 by omega)
  rw [← Int.natAbs_mul] at h
  omega

theorem plus_size (a b : Rat) : (a + b).num.natAbs ≤ a.num.natAbs * b.den + b.num.natAbs * a.den ∧ (a + b).den ≤ a.den * b.den := by
  have hd : a.den * b.den ≠ 0 := Nat.ne_of_gt (Nat.mul_pos a.den_pos b.den_pos)
  obtain ⟨m1, m2, _⟩ := mk_way (a.num * b.den + b.num * a.den) (a.den * b.den) hd
  rw [← Rat.add_def'] at m1 m2
  rw [m1, m2, ← (num_times a b).1, ← (num_times b a).1]
  exact ⟨Nat.le_trans (Nat.div_le_self _ _) (by omega), Nat.div_le_self _ _⟩

set_option maxRecDepth 100000 in
set_option maxHeartbeats 3200000 in
theorem refAdd_any (an ad bn bd : Int) (ha1 : I64 an) (ha2 : I64 ad) (hb1 : I64 bn) (hb2 : I64 bd) (w : World) : Calls Try.prog 11 #[raV an ad, raV bn bd] w fun e w' => e = .returned (resV (addR an ad bn bd)) ∧ Nw w w' := by
  have HB := Lib.hid (blk3 w 23 #[.int .i64 an, .int .i64 ad] #[.int .i64 bn, .int .i64 bd] #[.int .i64 0, .int .i64 0])
  have HK0 := Lib.hid (((nw_alloc w (.cells #[.int .i64 an, .int .i64 ad] 23)).alloc (.cells #[.int .i64 bn, .int .i64 bd] 23)).alloc (.cells #[.int .i64 0, .int .i64 0] 23))
  have hva := fun w1 => refValid_any an ad ha1 ha2 w1
  have hvb := fun w1 => refValid_any bn bd hb1 hb2 w1
  have hsm := fun w1 => small_any an ad bn bd w1
  by_cases ha : Vld an ad
  · rw [decide_eq_true ha] at hva
    by_cases hb : Vld bn bd
    · rw [decide_eq_true hb] at hvb
      by_cases hs : Sml an ad bn bd
      · rw [decide_eq_true hs] at hsm
        have hr := add_parts ha hb
        obtain ⟨s1, s2, s3, s4, s5, s6⟩ := hs
        have hp := (mul_pos_abs ha.1 hb.1).1
        have m1 := small_mul (a := an) (b := bd) ⟨s5, s3⟩ ⟨by have := hb.1; omega, s2⟩
        have m2 := small_mul (a := bn) (b := ad) ⟨s6, s4⟩ ⟨by have := ha.1; omega, s1⟩
        have m3 := small_mul (a := ad) (b := bd) ⟨by have := ha.1; omega, s1⟩ ⟨by have := hb.1; omega, s2⟩
        have e1 : IntKind.i64.wrap (an * bd) = an * bd := by rw [IntKind.wrap_i64]; omega
        have e2 : IntKind.i64.wrap (bn * ad) = bn * ad := by rw [IntKind.wrap_i64]; omega
        have e3 : IntKind.i64.wrap (ad * bd) = ad * bd := by rw [IntKind.wrap_i64]; omega
        have e4 : IntKind.i64.wrap (an * bd + bn * ad) = an * bd + bn * ad := by rw [IntKind.wrap_i64]; omega
        have hc := fun w1 => reduced_any (an * bd + bn * ad) (ad * bd) (by omega) (by omega) w1
        rw [← hr] at hc
        generalize addR an ad bn bd = r at *
        clear hr s1 s2 s3 s4 s5 s6 hp m1 m2 m3 ha hb ha1 ha2 hb1 hb2
        go_enter Try.func11, Try.ntmps11
        go_wp2_with fail
        with_reducible refine (hva _).mono ?_
        rintro e w1 ⟨rfl, hk1⟩
        obtain ⟨r0, r1, r2, r3⟩ := (HB.out.2.1.kp hk1 id).two
        have HK1 := Lib.hid hk1
        clear hk1
        go_wp2_with fail
        with_reducible refine (hvb _).mono ?_
        rintro e w2 ⟨rfl, hk2⟩
        have HK2 := Lib.hid (HK1.out.tr hk2)
        clear hk2 r0 r1 r2 r3 hva hvb
        obtain ⟨q0, q1, q2, q3⟩ := (HB.out.1.kp HK2.out id).two
        obtain ⟨r0, r1, r2, r3⟩ := (HB.out.2.1.kp HK2.out id).two
        go_wp2_with fail
        with_reducible refine (hsm _).mono ?_
        rintro e w3 ⟨rfl, hk3⟩
        have HK3 := Lib.hid (HK2.out.tr hk3)
        clear hk3 r0 r1 r2 r3 q0 q1 q2 q3 hsm
        obtain ⟨q0, q1, q2, q3⟩ := (HB.out.1.kp HK3.out id).two
        obtain ⟨r0, r1, r2, r3⟩ := (HB.out.2.1.kp HK3.out id).two
        go_wp2_with fail
        with_reducible refine (hc _).mono ?_
        rintro e w4 ⟨rfl, hk4⟩
        have HK4 := Lib.hid (HK3.out.tr hk4)
        clear hk4
        obtain ⟨t0, t1, t2, t3⟩ := (HB.out.2.2.kp HK4.out id).two
        go_wp2
        refine bodyPost_ret (v := resV r) (by simp [results, Try.results11, go_sem, t0, t1]) rfl ⟨rfl, ?_⟩
        exact ((HK0.out.tr HK4.out).new (by omega) _ _).new (by omega) _ _
      · rw [decide_eq_false hs] at hsm
        have hr : addR an ad bn bd = out (Rat.divInt an ad + Rat.divInt bn bd) := both_good ha hb
        have c1 := fun w1 => wide_rat an ad ha w1
        have c2 := fun w1 => wide_rat bn bd hb w1
        obtain ⟨fa, fb⟩ := (good_div ha).2.2
        obtain ⟨fc, fd⟩ := (good_div hb).2.2
        rw [top_eq] at fa fb fc fd
        have hF := few_parts fa fc fb fd
        have c3 := fun v u w1 h1 h2 => plus_rat (Rat.divInt an ad) (Rat.divInt bn bd) v u w1 h1 h2 hF
        have hF2 : FewD (3 * ((Rat.divInt an ad + Rat.divInt bn bd).num.natAbs + (Rat.divInt an ad + Rat.divInt bn bd).den) + 2) := FewD.mono hF (by have := plus_size (Rat.divInt an ad) (Rat.divInt bn bd); omega)
        have c4 := fun v w1 h1 => narrow_rat _ v w1 h1 hF2
        rw [hr]
        clear hr hF hF2 fa fb fc fd ha hb hs ha1 ha2 hb1 hb2
        generalize Rat.divInt an ad = p at *
        generalize Rat.divInt bn bd = q at *
        obtain ⟨r, hrr⟩ : ∃ r, out (p + q) = r := ⟨_, rfl⟩
        rw [hrr] at c4 ⊢
        clear hrr
        go_enter Try.func11, Try.ntmps11
        go_wp2_with fail
        with_reducible refine (hva _).mono ?_
        rintro e w1 ⟨rfl, hk1⟩
        obtain ⟨r0, r1, r2, r3⟩ := (HB.out.2.1.kp hk1 id).two
        have HK1 := Lib.hid hk1
        clear hk1
        go_wp2_with fail
        with_reducible refine (hvb _).mono ?_
        rintro e w2 ⟨rfl, hk2⟩
        have HK2 := Lib.hid (HK1.out.tr hk2)
        clear hk2 r0 r1 r2 r3 hva hvb
        obtain ⟨q0, q1, q2, q3⟩ := (HB.out.1.kp HK2.out id).two
        obtain ⟨r0, r1, r2, r3⟩ := (HB.out.2.1.kp HK2.out id).two
        go_wp2_with fail
        with_reducible refine (hsm _).mono ?_
        rintro e w3 ⟨rfl, hk3⟩
        have HK3 := Lib.hid (HK2.out.tr hk3)
        clear hk3 r0 r1 r2 r3 q0 q1 q2 q3 hsm
        obtain ⟨q0, q1, q2, q3⟩ := (HB.out.1.kp HK3.out id).two
        obtain ⟨r0, r1, r2, r3⟩ := (HB.out.2.1.kp HK3.out id).two
        have l0 := Nat.lt_of_lt_of_le HB.out.1.lt HK3.out.size
        have l1 := Nat.lt_of_lt_of_le HB.out.2.1.lt HK3.out.size
        have hP : ∀ w' : World, Nw w3 w' → w'.cell? (⟨w.heap.size, 0, none⟩ : Addr) = some (.int .i64 an) ∧ w'.cell? (⟨w.heap.size, 1, none⟩ : Addr) = some (.int .i64 ad) ∧ w'.cell? (⟨w.heap.size + 1, 0, none⟩ : Addr) = some (.int .i64 bn) ∧ w'.cell? (⟨w.heap.size + 1, 1, none⟩ : Addr) = some (.int .i64 bd) := fun w' h => by
          obtain ⟨a, b, _, _⟩ := (HB.out.1.kp (HK3.out.tr h) id).two
          obtain ⟨c, d, _, _⟩ := (HB.out.2.1.kp (HK3.out.tr h) id).two
          exact ⟨a, b, c, d⟩
        have hQ : ∀ w' : World, Nw w3 w' → ∀ x y : Value, ((w'.setCell ⟨w.heap.size + 1 + 1, 0, none⟩ x).setCell ⟨w.heap.size + 1 + 1, 1, none⟩ y).cell? (⟨w.heap.size, 0, none⟩ : Addr) = some (.int .i64 an) ∧ ((w'.setCell ⟨w.heap.size + 1 + 1, 0, none⟩ x).setCell ⟨w.heap.size + 1 + 1, 1, none⟩ y).cell? (⟨w.heap.size, 1, none⟩ : Addr) = some (.int .i64 ad) ∧ ((w'.setCell ⟨w.heap.size + 1 + 1, 0, none⟩ x).setCell ⟨w.heap.size + 1 + 1, 1, none⟩ y).cell? (⟨w.heap.size + 1, 0, none⟩ : Addr) = some (.int .i64 bn) ∧ ((w'.setCell ⟨w.heap.size + 1 + 1, 0, none⟩ x).setCell ⟨w.heap.size + 1 + 1, 1, none⟩ y).cell? (⟨w.heap.size + 1, 1, none⟩ : Addr) = some (.int .i64 bd) := fun w' h x y => by
          obtain ⟨a, b, c, d⟩ := hP w' h
          have k0 := Nat.lt_of_lt_of_le l0 h.size
          have k1 := Nat.lt_of_lt_of_le l1 h.size
          exact ⟨(kcell w' x y k0 (by omega)).trans a, (kcell w' x y k0 (by omega)).trans b, (kcell w' x y k1 (by omega)).trans c, (kcell w' x y k1 (by omega)).trans d⟩
        have HQ := Lib.hid hQ
        clear hQ
        have HP := Lib.hid hP
        clear hP l0 l1
        go_wp2_with fail
        go_region_held3 (fun w' : World => w'.cell? (⟨w.heap.size, 0, none⟩ : Addr) = some (.int .i64 an) ∧ w'.cell? (⟨w.heap.size, 1, none⟩ : Addr) = some (.int .i64 ad) ∧ w'.cell? (⟨w.heap.size + 1, 0, none⟩ : Addr) = some (.int .i64 bn) ∧ w'.cell? (⟨w.heap.size + 1, 1, none⟩ : Addr) = some (.int .i64 bd))
          (first | exact HP.out _ (Kp.refl _ _) | exact HP.out _ (Kp.drew (Kp.refl _ _)) | exact HP.out _ hk | exact HQ.out _ hk _ _ | fail)
          (first
            | (go_at_call 40; ((with_reducible refine (c1 _).mono ?_); rintro e w4 ⟨v1, rfl, hj1, hk4⟩; have hk : Nw w3 w4 := (Kp.drew (Kp.refl _ _)).tr hk4))
            | (go_at_call 40; ((with_reducible refine (c2 _).mono ?_); rintro e w5 ⟨v2, rfl, hj2, hk5⟩; have hk : Nw w3 w5 := hk.tr hk5; have hj1 := hj1.nw hk5))
            | (go_at_call 39; ((with_reducible refine (c3 _ _ _ hj1 hj2).mono ?_); rintro e w6 ⟨v3, rfl, hj3, hk6⟩; have hk : Nw w3 w6 := hk.tr hk6))
            | (go_at_call 38; ((with_reducible refine (c4 _ _ hj3).mono ?_); rintro e w7 ⟨rfl, hk7⟩; have hk : Nw w3 w7 := hk.tr hk7; obtain ⟨t0, t1, t2, t3⟩ := (HB.out.2.2.kp (HK3.out.tr hk) id).two)))
        go_wp2
        refine bodyPost_ret (v := resV r) (by simp [results, Try.results11, go_sem, t0, t1]) rfl ⟨rfl, ?_⟩
        exact ((HK0.out.tr (HK3.out.tr hk)).new (by omega) _ _).new (by omega) _ _
    · rw [decide_eq_false hb] at hvb
      rw [show addR an ad bn bd = (0, 0, 1) from both_bad (fun h => hb h.2)]
      clear ha hb ha1 ha2 hb1 hb2
      go_enter Try.func11, Try.ntmps11
      go_wp2_with fail
      with_reducible refine (hva _).mono ?_
      rintro e w1 ⟨rfl, hk1⟩
      obtain ⟨r0, r1, r2, r3⟩ := (HB.out.2.1.kp hk1 id).two
      have HK1 := Lib.hid hk1
      clear hk1
      go_wp2_with fail
      with_reducible refine (hvb _).mono ?_
      rintro e w2 ⟨rfl, hk2⟩
      have HK2 := Lib.hid (HK1.out.tr hk2)
      clear hk2 r0 r1 r2 r3 hva hvb
      obtain ⟨q0, q1, q2, q3⟩ := (HB.out.1.kp HK2.out id).two
      obtain ⟨r0, r1, r2, r3⟩ := (HB.out.2.1.kp HK2.out id).two
      obtain ⟨t0, t1, t2, t3⟩ := (HB.out.2.2.kp HK2.out id).two
      go_wp2
      exact bodyPost_ret (v := resV (0, 0, 1)) (by simp [results, Try.results11, go_sem, t0, t1]) rfl ⟨rfl, ((HK0.out.tr HK2.out).new (by omega) _ _).new (by omega) _ _⟩
  · rw [decide_eq_false ha] at hva
    rw [show addR an ad bn bd = (0, 0, 1) from both_bad (fun h => ha h.1)]
    clear ha ha1 ha2 hb1 hb2
    go_enter Try.func11, Try.ntmps11
    go_wp2_with fail
    with_reducible refine (hva _).mono ?_
    rintro e w1 ⟨rfl, hk1⟩
    obtain ⟨r0, r1, r2, r3⟩ := (HB.out.2.1.kp hk1 id).two
    have HK1 := Lib.hid hk1
    clear hk1
    obtain ⟨t0, t1, t2, t3⟩ := (HB.out.2.2.kp HK1.out id).two
    go_wp2
    exact bodyPost_ret (v := resV (0, 0, 1)) (by simp [results, Try.results11, go_sem, t0, t1]) rfl ⟨rfl, ((HK0.out.tr HK1.out).new (by omega) _ _).new (by omega) _ _⟩

end Go.Proofs.Ythefkomalakfeaa.W
