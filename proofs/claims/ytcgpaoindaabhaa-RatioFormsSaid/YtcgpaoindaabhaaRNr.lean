/-
  The reference's Cmp: what it returns. Condition: the parts are ints.
-/
import Derived.Test.YtcgpaoindaabhaaRNo
namespace Go.Proofs.Ytcgpaoindaabhaa.W
open Go.RowKit Go.Proofs.Ytcgpaoindaabhaa.Q

theorem sgn_mk (n : Int) (d : Nat) (hd : d ≠ 0) : sgn (mkRat n d).num = sgn n := by
  obtain ⟨h1, h2, h3⟩ := mk_way n d hd
  have hg : Nat.gcd n.natAbs d ∣ n.natAbs := Nat.gcd_dvd_left _ _
  have h0 : (mkRat n d).num = 0 ↔ n = 0 := by
    constructor
    · intro h
      rw [h] at h1
      rcases Nat.eq_zero_or_pos n.natAbs with h4 | h4
      · omega
      · have := Nat.div_pos (Nat.le_of_dvd h4 hg) (Nat.gcd_pos_of_pos_left d h4)
        omega
    · intro h
      subst h
      simp only [Int.natAbs_zero, Nat.zero_div] at h1
      omega
  unfold sgn
  by_cases a : n < 0
  · rw [if_pos a, if_pos (h3.2 a)]
  · rw [if_neg a, if_neg (fun h => a (h3.1 h))]
    by_cases b : n = 0
    · rw [if_pos b, if_pos (h0.2 b)]
    · rw [if_neg b, if_neg (fun h => b (h0.1 h))]
theorem cmp_rat {an ad bn bd : Int} (ha : Vld an ad) (hb : Vld bn bd) : cmpR an ad bn bd = sgn (Rat.divInt an ad + Rat.divInt (-bn) bd).num := by
  have hb' : Vld (-bn) bd := vld_neg.2 hb
  obtain ⟨a1, a2, a3⟩ := den_abs ha
  obtain ⟨b1, b2, b3⟩ := den_abs hb'
  rw [show cmpR an ad bn bd = sgn (an * bd - bn * ad) from if_pos ⟨ha, hb⟩, Rat.add_def', sgn_mk _ _ (Nat.ne_of_gt (Nat.mul_pos (Rat.den_pos _) (Rat.den_pos _))), a1, a2, b1, b2, a3, b3, Int.neg_mul, Int.sub_eq_add_neg]

set_option maxRecDepth 100000 in
set_option maxHeartbeats 3200000 in
theorem refCmp_any (an ad bn bd : Int) (ha1 : I64 an) (ha2 : I64 ad) (hb1 : I64 bn) (hb2 : I64 bd) (w : World) : Calls Try.prog 26 #[raV an ad, raV bn bd] w fun e w' => e = .returned (.int .i64 (cmpR an ad bn bd)) ∧ Nw w w' := by
  have hB := blk2 w 23 #[.int .i64 an, .int .i64 ad] #[.int .i64 bn, .int .i64 bd]
  have HB := Lib.hid (And.intro hB.1 (And.intro hB.2 trivial))
  have HK0 := Lib.hid ((nw_alloc w (.cells #[.int .i64 an, .int .i64 ad] 23)).alloc (.cells #[.int .i64 bn, .int .i64 bd] 23))
  clear hB
  have hva := fun w1 => refValid_any an ad ha1 ha2 w1
  have hvb := fun w1 => refValid_any bn bd hb1 hb2 w1
  have hsm := fun w1 => small_any an ad bn bd w1
  by_cases ha : Vld an ad
  · rw [decide_eq_true ha] at hva
    by_cases hb : Vld bn bd
    · rw [decide_eq_true hb] at hvb
      by_cases hs : Sml an ad bn bd
      · rw [decide_eq_true hs] at hsm
        have hr : cmpR an ad bn bd = sgn (an * bd - bn * ad) := if_pos ⟨ha, hb⟩
        obtain ⟨s1, s2, s3, s4, s5, s6⟩ := hs
        have m1 := small_mul (a := an) (b := bd) ⟨s5, s3⟩ ⟨by have := hb.1; omega, s2⟩
        have m2 := small_mul (a := bn) (b := ad) ⟨s6, s4⟩ ⟨by have := ha.1; omega, s1⟩
        have e1 : IntKind.i64.wrap (an * bd) = an * bd := by rw [IntKind.wrap_i64]; omega
        have e2 : IntKind.i64.wrap (bn * ad) = bn * ad := by rw [IntKind.wrap_i64]; omega
        have e4 : IntKind.i64.wrap (an * bd - bn * ad) = an * bd - bn * ad := by rw [IntKind.wrap_i64]; omega
        have hc := fun w1 => refSign_any (an * bd - bn * ad) 1 ⟨by omega, by omega⟩ ⟨by omega, by omega⟩ w1
        rw [show signR (an * bd - bn * ad) 1 = sgn (an * bd - bn * ad) from if_pos ((vld_iff _ _).2 ⟨by omega, by omega, by omega, by omega, Nat.gcd_one_right _⟩), ← hr] at hc
        generalize cmpR an ad bn bd = r at *
        clear hr s1 s2 s3 s4 s5 s6 m1 m2 ha hb ha1 ha2 hb1 hb2
        go_enter Try.func26, Try.ntmps26
        go_wp2_with fail
        with_reducible refine (hva _).mono ?_
        rintro e w1 ⟨rfl, hk1⟩
        obtain ⟨r0, r1, r2, r3⟩ := (HB.out.2.1.kp hk1 id).two
        have HK1 := Lib.hid hk1
        clear hk1
        go_wp2_with fail
        with_reducible refine (hvb _).mono ?_
        rintro e w2 ⟨rfl, hk2⟩
        have HK2 := Lib.hid (HK1.out.tr hk2)
        clear hk2 r0 r1 r2 r3 hva hvb
        obtain ⟨q0, q1, q2, q3⟩ := (HB.out.1.kp HK2.out id).two
        obtain ⟨r0, r1, r2, r3⟩ := (HB.out.2.1.kp HK2.out id).two
        go_wp2_with fail
        with_reducible refine (hsm _).mono ?_
        rintro e w3 ⟨rfl, hk3⟩
        have HK3 := Lib.hid (HK2.out.tr hk3)
        clear hk3 r0 r1 r2 r3 q0 q1 q2 q3 hsm
        obtain ⟨q0, q1, q2, q3⟩ := (HB.out.1.kp HK3.out id).two
        obtain ⟨r0, r1, r2, r3⟩ := (HB.out.2.1.kp HK3.out id).two
        go_wp2_with fail
        with_reducible refine (hc _).mono ?_
        rintro e w4 ⟨rfl, hk4⟩
        go_wp2
        go_ret
        exact ⟨rfl, (HK0.out.tr HK3.out).tr hk4⟩
      · rw [decide_eq_false hs] at hsm
        have hr := cmp_rat ha hb
        have hb9 : Vld (-bn) bd := vld_neg.2 hb
        obtain ⟨b1, b2⟩ := vld_n hb
        have e1 : IntKind.i64.wrap (-bn) = -bn := by rw [IntKind.wrap_i64]; omega
        have c1 := fun w1 => wide_rat an ad ha w1
        have c2 := fun w1 => wide_rat (-bn) bd hb9 w1
        obtain ⟨fa, fb⟩ := (good_div ha).2.2
        obtain ⟨fc, fd⟩ := (good_div hb9).2.2
        rw [top_eq] at fa fb fc fd
        have hF := few_parts fa fc fb fd
        have c3 := fun v u w1 h1 h2 => plus_rat (Rat.divInt an ad) (Rat.divInt (-bn) bd) v u w1 h1 h2 hF
        rw [hr]
        clear hr hF fa fb fc fd ha hb hb9 hs ha1 ha2 hb1 hb2 b1 b2
        generalize Rat.divInt an ad = p at *
        generalize Rat.divInt (-bn) bd = q at *
        generalize p + q = s at *
        obtain ⟨bp, hbp⟩ : ∃ b, decide (p.num < 0) = b := ⟨_, rfl⟩
        obtain ⟨bq, hbq⟩ : ∃ b, decide (q.num < 0) = b := ⟨_, rfl⟩
        have c1 : ∀ w1, Calls Try.prog 40 #[raV an ad] w1 fun e w' => ∃ v', e = .returned v' ∧ BF w' v' bp p.num.natAbs p.den ∧ Nw w1 w' := by rw [← hbp]; exact c1
        have c2 : ∀ w1, Calls Try.prog 40 #[raV (-bn) bd] w1 fun e w' => ∃ v', e = .returned v' ∧ BF w' v' bq q.num.natAbs q.den ∧ Nw w1 w' := by rw [← hbq]; exact c2
        have c3 : ∀ v u w1, BF w1 v bp p.num.natAbs p.den → BF w1 u bq q.num.natAbs q.den → Calls Try.prog 39 #[v, u] w1 fun e w' => ∃ v', e = .returned v' ∧ BR w' v' s ∧ Nw w1 w' := by rw [← hbp, ← hbq]; exact c3
        clear hbp hbq
        go_enter Try.func26, Try.ntmps26
        go_wp2_with fail
        with_reducible refine (hva _).mono ?_
        rintro e w1 ⟨rfl, hk1⟩
        obtain ⟨r0, r1, r2, r3⟩ := (HB.out.2.1.kp hk1 id).two
        have HK1 := Lib.hid hk1
        clear hk1
        go_wp2_with fail
        with_reducible refine (hvb _).mono ?_
        rintro e w2 ⟨rfl, hk2⟩
        have HK2 := Lib.hid (HK1.out.tr hk2)
        clear hk2 r0 r1 r2 r3 hva hvb
        obtain ⟨q0, q1, q2, q3⟩ := (HB.out.1.kp HK2.out id).two
        obtain ⟨r0, r1, r2, r3⟩ := (HB.out.2.1.kp HK2.out id).two
        go_wp2_with fail
        with_reducible refine (hsm _).mono ?_
        rintro e w3 ⟨rfl, hk3⟩
        have HK3 := Lib.hid (HK2.out.tr hk3)
        clear hk3 r0 r1 r2 r3 q0 q1 q2 q3 hsm
        obtain ⟨q0, q1, q2, q3⟩ := (HB.out.1.kp HK3.out id).two
        obtain ⟨r0, r1, r2, r3⟩ := (HB.out.2.1.kp HK3.out id).two
        go_wp2_with fail
        with_reducible refine (c1 _).mono ?_
        rintro e w4 ⟨v1, rfl, hj1, hk4⟩
        have HK4 := Lib.hid (HK3.out.tr hk4)
        clear hk4 c1 q0 q1 q2 q3 r0 r1 r2 r3
        obtain ⟨V1, n1, k1, W1, m1, l1, rfl, g1, g2⟩ := hj1
        have hx : Nw w4 (w4.alloc (.cells #[.bool bp, .slice V1 n1 k1, .slice W1 m1 l1] 45)) := nw_alloc w4 _
        have HBX := Lib.hid (Blk.new w4 45 #[.bool bp, .slice V1 n1 k1, .slice W1 m1 l1])
        have HJ1 := Lib.hid (And.intro (g1.nw hx) (g2.nw hx))
        obtain ⟨r0, r1, r2, r3⟩ := (HB.out.2.1.kp (HK4.out.tr hx) id).two
        have HK4 := Lib.hid (HK4.out.tr hx)
        clear g1 g2 hx
        go_wp2_with fail
        with_reducible refine (c2 _).mono ?_
        rintro e w5 ⟨v2, rfl, hj2, hk5⟩
        obtain ⟨V2, n2, k2, W2, m2, l2, rfl, g1, g2⟩ := hj2
        have hy : Nw w5 (w5.alloc (.cells #[.bool bq, .slice V2 n2 k2, .slice W2 m2 l2] 45)) := nw_alloc w5 _
        have HBX := Lib.hid (HBX.out.kp (hk5.tr hy) id)
        have HBY := Lib.hid (Blk.new w5 45 #[.bool bq, .slice V2 n2 k2, .slice W2 m2 l2])
        have HJ1 := Lib.hid (And.intro (HJ1.out.1.nw (hk5.tr hy)) (HJ1.out.2.nw (hk5.tr hy)))
        have HJ2 := Lib.hid (And.intro (g1.nw hy) (g2.nw hy))
        have HK5 := Lib.hid ((HK4.out.tr hk5).tr hy)
        obtain ⟨x0, x1, x2, x3, x4, x5⟩ := Blk.three HBX.out
        obtain ⟨y0, y1, y2, y3, y4, y5⟩ := Blk.three HBY.out
        clear g1 g2 hy hk5 r0 r1 r2 r3 c2
        go_wp2_with fail
        refine (c3 _ _ _ ⟨V1, n1, k1, W1, m1, l1, rfl, HJ1.out.1, HJ1.out.2⟩ ⟨V2, n2, k2, W2, m2, l2, rfl, HJ2.out.1, HJ2.out.2⟩).mono ?_
        rintro e w6 ⟨v3, rfl, hj3, hk6⟩
        obtain ⟨V3, n3, k3, W3, m3, l3, rfl, g1, g2⟩ := hj3
        have HK6 := Lib.hid (HK5.out.tr hk6)
        obtain ⟨a9, b9, c9, he, hz⟩ := js_len g1
        injection he with h1 h2 h3
        subst h1 h2 h3
        have HKz := Lib.hid (HK6.out.alloc (.cells #[.bool (decide (s.num < 0)), .slice V3 n3 k3, .slice W3 m3 l3] 45))
        clear hk6 c3 g1 g2 x0 x1 x2 x3 x4 x5 y0 y1 y2 y3 y4 y5
        by_cases h0 : s.num = 0
        · have hn0 : n3 = 0 := hz.2 (by omega)
          subst hn0
          have HS := Lib.hid (show sgn s.num = 0 by unfold sgn; rw [if_neg (by omega), if_pos h0])
          have hd0 : decide (s.num < 0) = false := decide_eq_false (by omega)
          rw [hd0] at HKz ⊢
          clear h0 hz hd0
          go_wp2
          go_ret
          exact ⟨by rw [HS.out]; rfl, HK0.out.tr HKz.out⟩
        · have hn0 : ¬ n3 = 0 := fun h => h0 (by have := hz.1 h; omega)
          have e9 : ((n3 : Int) == 0) = false := by simp [hn0]
          clear hz
          by_cases h1 : s.num < 0
          · have HS := Lib.hid (show sgn s.num = -1 from if_pos h1)
            rw [decide_eq_true h1] at HKz ⊢
            clear h0 h1 hn0
            go_wp2
            go_ret
            exact ⟨by rw [HS.out]; rfl, HK0.out.tr HKz.out⟩
          · have HS := Lib.hid (show sgn s.num = 1 by unfold sgn; rw [if_neg h1, if_neg h0])
            rw [decide_eq_false h1] at HKz ⊢
            clear h0 h1 hn0
            go_wp2
            go_ret
            exact ⟨by rw [HS.out]; rfl, HK0.out.tr HKz.out⟩
    · rw [decide_eq_false hb] at hvb
      rw [show cmpR an ad bn bd = 0 from if_neg (fun h => hb h.2)]
      clear ha hb ha1 ha2 hb1 hb2
      go_enter Try.func26, Try.ntmps26
      go_wp2_with fail
      with_reducible refine (hva _).mono ?_
      rintro e w1 ⟨rfl, hk1⟩
      obtain ⟨r0, r1, r2, r3⟩ := (HB.out.2.1.kp hk1 id).two
      have HK1 := Lib.hid hk1
      clear hk1
      go_wp2_with fail
      with_reducible refine (hvb _).mono ?_
      rintro e w2 ⟨rfl, hk2⟩
      have HK2 := Lib.hid (HK1.out.tr hk2)
      clear hk2 r0 r1 r2 r3 hva hvb
      obtain ⟨q0, q1, q2, q3⟩ := (HB.out.1.kp HK2.out id).two
      obtain ⟨r0, r1, r2, r3⟩ := (HB.out.2.1.kp HK2.out id).two
      go_wp2
      go_ret
      exact ⟨rfl, HK0.out.tr HK2.out⟩
  · rw [decide_eq_false ha] at hva
    rw [show cmpR an ad bn bd = 0 from if_neg (fun h => ha h.1)]
    clear ha ha1 ha2 hb1 hb2
    go_enter Try.func26, Try.ntmps26
    go_wp2_with fail
    with_reducible refine (hva _).mono ?_
    rintro e w1 ⟨rfl, hk1⟩
    obtain ⟨r0, r1, r2, r3⟩ := (HB.out.2.1.kp hk1 id).two
    have HK1 := Lib.hid hk1
    clear hk1
    go_wp2
    go_ret
    exact ⟨rfl, HK0.out.tr HK1.out⟩
end Go.Proofs.Ytcgpaoindaabhaa.W
