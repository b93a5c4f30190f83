/-
  The reference's Div: what it returns. Condition: the parts are ints.
-/
import Derived.Test.YthefkomalakfeaaRNs
import Derived.Test.YthefkomalakfeaaQM
namespace Go.Proofs.Ythefkomalakfeaa.W
open Go.RowKit Go.Proofs.Ythefkomalakfeaa.Q

theorem div_bad {an ad bn bd : Int} (h : ¬ (Vld an ad ∧ Vld bn bd ∧ bn ≠ 0)) : divR an ad bn bd = (0, 0, 1) := by
  rw [divR_way]
  split
  · rename_i hb
    have ha : ¬ Vld an ad := fun ha => h ⟨ha, hb.1, hb.2⟩
    split
    · exact both_bad (fun k => ha k.1)
    · exact both_bad (fun k => ha k.1)
  · rfl

set_option maxRecDepth 100000 in
set_option maxHeartbeats 3200000 in
theorem refDiv_any (an ad bn bd : Int) (ha1 : I64 an) (ha2 : I64 ad) (hb1 : I64 bn) (hb2 : I64 bd) (w : World) : Calls Try.prog 17 #[raV an ad, raV bn bd] w fun e w' => e = .returned (resV (divR an ad bn bd)) ∧ Nw w w' := by
  have HB := Lib.hid (blk3 w 23 #[.int .i64 an, .int .i64 ad] #[.int .i64 bn, .int .i64 bd] #[.int .i64 0, .int .i64 0])
  have HK0 := Lib.hid (((nw_alloc w (.cells #[.int .i64 an, .int .i64 ad] 23)).alloc (.cells #[.int .i64 bn, .int .i64 bd] 23)).alloc (.cells #[.int .i64 0, .int .i64 0] 23))
  have hva := fun w1 => refValid_any an ad ha1 ha2 w1
  have hvb := fun w1 => refValid_any bn bd hb1 hb2 w1
  by_cases ha : Vld an ad
  · rw [decide_eq_true ha] at hva
    by_cases hb : Vld bn bd
    · rw [decide_eq_true hb] at hvb
      by_cases h0 : bn = 0
      · rw [show divR an ad bn bd = (0, 0, 1) from div_bad (fun h => h.2.2 h0)]
        subst h0
        clear ha hb ha1 ha2 hb1 hb2
        go_enter Try.func17, Try.ntmps17
        go_wp2_with fail
        with_reducible refine (hva _).mono ?_
        rintro e w1 ⟨rfl, hk1⟩
        obtain ⟨r0, r1, r2, r3⟩ := (HB.out.2.1.kp hk1 id).two
        have HK1 := Lib.hid hk1
        clear hk1
        go_wp2_with fail
        with_reducible refine (hvb _).mono ?_
        rintro e w2 ⟨rfl, hk2⟩
        have HK2 := Lib.hid (HK1.out.tr hk2)
        clear hk2 r0 r1 r2 r3 hva hvb
        obtain ⟨q0, q1, q2, q3⟩ := (HB.out.1.kp HK2.out id).two
        obtain ⟨r0, r1, r2, r3⟩ := (HB.out.2.1.kp HK2.out id).two
        obtain ⟨t0, t1, t2, t3⟩ := (HB.out.2.2.kp HK2.out id).two
        go_wp2
        exact bodyPost_ret (v := resV (0, 0, 1)) (by simp [results, Try.results17, go_sem, t0, t1]) rfl ⟨rfl, ((HK0.out.tr HK2.out).new (by omega) _ _).new (by omega) _ _⟩
      · have hr := divR_way an ad bn bd
        rw [if_pos ⟨hb, h0⟩] at hr
        obtain ⟨b1, b2⟩ := vld_n hb
        obtain ⟨b3, b4⟩ := vld_d hb
        have hm1 := fun w1 => refMul_any an ad (-bd) (-bn) ha1 ha2 ⟨by omega, by omega⟩ ⟨by omega, by omega⟩ w1
        have hm2 := fun w1 => refMul_any an ad bd bn ha1 ha2 ⟨by omega, by omega⟩ ⟨by omega, by omega⟩ w1
        have e0 : (bn == 0) = false := by simp [h0]
        have e1 : IntKind.i64.wrap (-bn) = -bn := by rw [IntKind.wrap_i64]; omega
        have e2 : IntKind.i64.wrap (-bd) = -bd := by rw [IntKind.wrap_i64]; omega
        clear b1 b2 b3 b4 h0 hb ha ha1 ha2 hb1 hb2
        by_cases hn : bn < 0
        · have e3 : decide (bn < 0) = true := decide_eq_true hn
          rw [if_pos hn] at hr
          rw [hr]
          generalize mulR an ad (-bd) (-bn) = r at *
          clear hr hn hm2
          go_enter Try.func17, Try.ntmps17
          go_wp2_with fail
          with_reducible refine (hva _).mono ?_
          rintro e w1 ⟨rfl, hk1⟩
          obtain ⟨r0, r1, r2, r3⟩ := (HB.out.2.1.kp hk1 id).two
          have HK1 := Lib.hid hk1
          clear hk1
          go_wp2_with fail
          with_reducible refine (hvb _).mono ?_
          rintro e w2 ⟨rfl, hk2⟩
          have HK2 := Lib.hid (HK1.out.tr hk2)
          clear hk2 r0 r1 r2 r3 hva hvb
          obtain ⟨q0, q1, q2, q3⟩ := (HB.out.1.kp HK2.out id).two
          obtain ⟨r0, r1, r2, r3⟩ := (HB.out.2.1.kp HK2.out id).two
          obtain ⟨s0, s1, s2, s3⟩ := (HB.out.2.1.kp (HK2.out.alloc (.cells #[.int .i64 0, .int .i64 0] 23)) id).two
          obtain ⟨p0, p1, p2, p3⟩ := (HB.out.1.kp (HK2.out.alloc (.cells #[.int .i64 (-bd), .int .i64 (-bn)] 23)) id).two
          go_wp2_with fail
          with_reducible refine (hm1 _).mono ?_
          rintro e w3 ⟨rfl, hk3⟩
          have HK3 := Lib.hid (show Nw _ w3 from by first | exact HK2.out.tr hk3 | exact (HK2.out.alloc _).tr hk3)
          clear hk3 q0 q1 q2 q3 r0 r1 r2 r3 s0 s1 s2 s3 p0 p1 p2 p3
          obtain ⟨t0, t1, t2, t3⟩ := (HB.out.2.2.kp HK3.out id).two
          go_wp2
          refine bodyPost_ret (v := resV r) (by simp [results, Try.results17, go_sem, t0, t1]) rfl ⟨rfl, ?_⟩
          exact ((HK0.out.tr HK3.out).new (by omega) _ _).new (by omega) _ _
        · have e3 : decide (bn < 0) = false := decide_eq_false hn
          rw [if_neg hn] at hr
          rw [hr]
          generalize mulR an ad bd bn = r at *
          clear hr hn hm1
          go_enter Try.func17, Try.ntmps17
          go_wp2_with fail
          with_reducible refine (hva _).mono ?_
          rintro e w1 ⟨rfl, hk1⟩
          obtain ⟨r0, r1, r2, r3⟩ := (HB.out.2.1.kp hk1 id).two
          have HK1 := Lib.hid hk1
          clear hk1
          go_wp2_with fail
          with_reducible refine (hvb _).mono ?_
          rintro e w2 ⟨rfl, hk2⟩
          have HK2 := Lib.hid (HK1.out.tr hk2)
          clear hk2 r0 r1 r2 r3 hva hvb
          obtain ⟨q0, q1, q2, q3⟩ := (HB.out.1.kp HK2.out id).two
          obtain ⟨r0, r1, r2, r3⟩ := (HB.out.2.1.kp HK2.out id).two
          obtain ⟨s0, s1, s2, s3⟩ := (HB.out.2.1.kp (HK2.out.alloc (.cells #[.int .i64 0, .int .i64 0] 23)) id).two
          obtain ⟨p0, p1, p2, p3⟩ := (HB.out.1.kp (HK2.out.alloc (.cells #[.int .i64 bd, .int .i64 bn] 23)) id).two
          go_wp2_with fail
          with_reducible refine (hm2 _).mono ?_
          rintro e w3 ⟨rfl, hk3⟩
          have HK3 := Lib.hid (show Nw _ w3 from by first | exact HK2.out.tr hk3 | exact (HK2.out.alloc _).tr hk3)
          clear hk3 q0 q1 q2 q3 r0 r1 r2 r3 s0 s1 s2 s3 p0 p1 p2 p3
          obtain ⟨t0, t1, t2, t3⟩ := (HB.out.2.2.kp HK3.out id).two
          go_wp2
          refine bodyPost_ret (v := resV r) (by simp [results, Try.results17, go_sem, t0, t1]) rfl ⟨rfl, ?_⟩
          exact ((HK0.out.tr HK3.out).new (by omega) _ _).new (by omega) _ _
    · rw [decide_eq_false hb] at hvb
      rw [show divR an ad bn bd = (0, 0, 1) from div_bad (fun h => hb h.2.1)]
      clear ha hb ha1 ha2 hb1 hb2
      go_enter Try.func17, Try.ntmps17
      go_wp2_with fail
      with_reducible refine (hva _).mono ?_
      rintro e w1 ⟨rfl, hk1⟩
      obtain ⟨r0, r1, r2, r3⟩ := (HB.out.2.1.kp hk1 id).two
      have HK1 := Lib.hid hk1
      clear hk1
      go_wp2_with fail
      with_reducible refine (hvb _).mono ?_
      rintro e w2 ⟨rfl, hk2⟩
      have HK2 := Lib.hid (HK1.out.tr hk2)
      clear hk2 r0 r1 r2 r3 hva hvb
      obtain ⟨q0, q1, q2, q3⟩ := (HB.out.1.kp HK2.out id).two
      obtain ⟨r0, r1, r2, r3⟩ := (HB.out.2.1.kp HK2.out id).two
      obtain ⟨t0, t1, t2, t3⟩ := (HB.out.2.2.kp HK2.out id).two
      go_wp2
      exact bodyPost_ret (v := resV (0, 0, 1)) (by simp [results, Try.results17, go_sem, t0, t1]) rfl ⟨rfl, ((HK0.out.tr HK2.out).new (by omega) _ _).new (by omega) _ _⟩
  · rw [decide_eq_false ha] at hva
    rw [show divR an ad bn bd = (0, 0, 1) from div_bad (fun h => ha h.1)]
    clear ha ha1 ha2 hb1 hb2
    go_enter Try.func17, Try.ntmps17
    go_wp2_with fail
    with_reducible refine (hva _).mono ?_
    rintro e w1 ⟨rfl, hk1⟩
    obtain ⟨r0, r1, r2, r3⟩ := (HB.out.2.1.kp hk1 id).two
    have HK1 := Lib.hid hk1
    clear hk1
    obtain ⟨t0, t1, t2, t3⟩ := (HB.out.2.2.kp HK1.out id).two
    go_wp2
    exact bodyPost_ret (v := resV (0, 0, 1)) (by simp [results, Try.results17, go_sem, t0, t1]) rfl ⟨rfl, ((HK0.out.tr HK1.out).new (by omega) _ _).new (by omega) _ _⟩
end Go.Proofs.Ythefkomalakfeaa.W
