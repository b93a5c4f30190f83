/-
  The reference's lowest, number, narrow: what they return. Condition: few digits; the denominator is not 0.
-/
import Derived.Test.YthefkomalakfeaaRNi
namespace Go.Proofs.Ythefkomalakfeaa.W
open Go.RowKit Go.Proofs.Ythefkomalakfeaa.Q

set_option maxRecDepth 100000 in
set_option maxHeartbeats 3200000 in
theorem refLowest_any (s : Bool) (N D : Nat) (v : Value) (w : World) (hv : BF w v s N D) (hD : 0 < D) (hF : FewD (3 * (N + D) + 2)) :
    Calls Try.prog 52 #[v] w fun e w' => ∃ v', e = .returned v' ∧ BF w' v' (s && decide (0 < N / Nat.gcd N D)) (N / Nat.gcd N D) (D / Nat.gcd N D) ∧ Nw w w' := by
  obtain ⟨A, n, c, A2, n2, c2, rfl, hN, hDD⟩ := hv
  have hg := Nat.gcd_pos_of_pos_right N hD
  have hgl := Nat.gcd_le_right N hD
  have c1 := fun w1 h1 h2 => natGcd_any N D (.slice A n c) (.slice A2 n2 c2) w1 h1 h2 hF
  obtain ⟨g, hgg⟩ : ∃ g, Nat.gcd N D = g := ⟨_, rfl⟩
  rw [hgg] at c1 hg hgl ⊢
  have c2' := fun vg w1 h1 h2 => natDiv_any N g (.slice A n c) vg w1 h1 h2 (FewD.mono hF (by omega)) hg
  have c3 := fun vg w1 h1 h2 => natDiv_any D g (.slice A2 n2 c2) vg w1 h1 h2 (FewD.mono hF (by omega)) hg
  have hB := blk2 w 45 #[.bool s, .slice A n c, .slice A2 n2 c2] #[.bool false, .slice none 0 0, .slice none 0 0]
  have HK0 := Lib.hid ((nw_alloc w (.cells #[.bool s, .slice A n c, .slice A2 n2 c2] 45)).alloc (.cells #[.bool false, .slice none 0 0, .slice none 0 0] 45))
  have HB := Lib.hid hB
  have HN := Lib.hid (hN.nw HK0.out)
  have HD := Lib.hid (hDD.nw HK0.out)
  generalize N / g = Q1 at *
  generalize D / g = Q2 at *
  generalize N % g = R1 at *
  generalize D % g = R2 at *
  obtain ⟨b, hbq⟩ : ∃ b, decide (0 < Q1) = b := ⟨_, rfl⟩
  rw [hbq]
  have HBQ := Lib.hid hbq
  clear hB hN hDD hgg hg hgl hD hF hbq
  go_enter Try.func52, Try.ntmps52
  go_wp2_with fail
  refine (c1 _ HN.out HD.out).mono ?_
  rintro e w1 ⟨vg, rfl, hjg, hk1⟩
  have HG := Lib.hid hjg
  have HK1 := Lib.hid hk1
  clear hjg hk1 c1
  obtain ⟨p0, p1, p2, _⟩ := Blk.three (HB.out.1.kp HK1.out id)
  go_wp2_with fail
  refine (c2' _ _ (HN.out.nw HK1.out) HG.out).mono ?_
  rintro e w2 ⟨v1, vr1, rfl, hj1, _, hk2⟩
  obtain ⟨n1', n1, c1', rfl, hz⟩ := js_len hj1
  have HJ1 := Lib.hid hj1
  have HK2 := Lib.hid (HK1.out.tr hk2)
  have HG2 := Lib.hid (HG.out.nw hk2)
  have HZ := Lib.hid hz
  clear hj1 hk2 c2' p0 p1 p2 hz
  obtain ⟨p0, p1, p2, _⟩ := Blk.three (HB.out.1.kp HK2.out id)
  go_wp2_with fail
  refine (c3 _ _ (HD.out.nw HK2.out) HG2.out).mono ?_
  rintro e w3 ⟨v2, vr2, rfl, hj2, _, hk3⟩
  obtain ⟨A4, n4, c4, rfl⟩ := hj2.shape
  have HJ2 := Lib.hid hj2
  have HK3 := Lib.hid (HK2.out.tr hk3)
  have HJ3 := Lib.hid (HJ1.out.nw hk3)
  clear hj2 hk3 c3 p0 p1 p2
  obtain ⟨p0, p1, p2, _⟩ := Blk.three (HB.out.1.kp HK3.out id)
  obtain ⟨t0, t1, t2, t3, t4, t5⟩ := Blk.three (HB.out.2.kp HK3.out id)
  have hb' : decide (0 < n1) = b := by
    rw [← HBQ.out, decide_eq_decide]
    have := HZ.out
    omega
  have hb : decide ((n1 : Int) > 0) = b := by rw [← hb', decide_eq_decide]; omega
  cases s
  · go_wp2_with fail
    refine bodyPost_ret (v := .agg #[.bool false, .slice n1' n1 c1', .slice A4 n4 c4]) (by simp [results, Try.results52, go_sem, t0, t1, t2]) rfl ⟨_, rfl, ⟨n1', n1, c1', A4, n4, c4, rfl, HJ3.out.three_ HB.out.2 HK3.out _ _ _ (by decide), HJ2.out.three_ HB.out.2 HK3.out _ _ _ (by decide)⟩, ?_⟩
    exact (((HK0.out.tr HK3.out).new (by omega) _ _).new (by omega) _ _).new (by omega) _ _
  · go_wp2_with fail
    refine bodyPost_ret (v := .agg #[.bool b, .slice n1' n1 c1', .slice A4 n4 c4]) (by simp [results, Try.results52, go_sem, t0, t1, t2]) rfl ⟨_, rfl, ⟨n1', n1, c1', A4, n4, c4, rfl, HJ3.out.three_ HB.out.2 HK3.out _ _ _ (by decide), HJ2.out.three_ HB.out.2 HK3.out _ _ _ (by decide)⟩, ?_⟩
    exact (((HK0.out.tr HK3.out).new (by omega) _ _).new (by omega) _ _).new (by omega) _ _

set_option maxRecDepth 100000 in
set_option maxHeartbeats 3200000 in
theorem number_any (N : Nat) (v : Value) (w : World) (hv : Js w v N) (hF : FewD N) :
    Calls Try.prog 53 #[v] w fun e w' => e = .returned (.tuple #[.int .i64 ((if N ≤ 4611686018427387904 then N else 0 : Nat) : Int), .bool (decide (N ≤ 4611686018427387904))]) ∧ Nw w w' := by
  have c1 := fun w1 => nat_any 4611686018427387904 (by unfold U64; omega) w1
  have hFt : FewD 4611686018427387904 := dfew_of (m := 5) (by rw [b15_eq]; omega) (by omega)
  have c2 := fun vt w1 h1 h2 => natCmp_any N 4611686018427387904 v vt w1 h1 h2 hF hFt
  have HV := Lib.hid hv
  have HF := Lib.hid hF
  clear hFt hv hF
  by_cases h : N ≤ 4611686018427387904
  · rw [if_pos h, decide_eq_true h]
    have es : decide (sgn ((N : Int) - 4611686018427387904) > 0) = false := decide_eq_false (by unfold sgn; split <;> (try split) <;> omega)
    obtain ⟨sg, hsg⟩ : ∃ z, sgn ((N : Int) - 4611686018427387904) = z := ⟨_, rfl⟩
    have c2 : ∀ vt w1, Js w1 v N → Js w1 vt 4611686018427387904 → Calls Try.prog 55 #[v, vt] w1 fun e w' => e = .returned (.int .i64 (sgn ((N : Int) - 4611686018427387904))) ∧ Nw w1 w' := c2
    rw [hsg] at es c2
    obtain ⟨l, ⟨hl, A, c, rfl, hnc, hcm, hcell⟩, hd, hc, rfl, _⟩ := HV.out
    have hlen := dfew_len hc HF.out
    obtain ⟨n, hn⟩ : ∃ n, l.length = n := ⟨_, rfl⟩
    rw [hn] at hlen hcell HV c2 ⊢
    have e0 : IntKind.i64.wrap ((n : Int) - 1) = (n : Int) - 1 := by rw [IntKind.wrap_i64]; omega
    have HC := Lib.hid hcell
    have HD := Lib.hid (And.intro hd (And.intro hn (And.intro hlen h)))
    clear hl hnc hcm hcell hd hc hn hlen hsg h
    go_enter Try.func53, Try.ntmps53
    go_wp2_with fail
    refine (c1 _).mono ?_
    rintro e w1 ⟨vt, rfl, hjt, hk1⟩
    have HJ := Lib.hid hjt
    have HK1 := Lib.hid hk1
    clear hjt hk1 c1
    go_wp2_with fail
    refine (c2 _ _ (HV.out.nw HK1.out) HJ.out).mono ?_
    rintro e w2 ⟨rfl, hk2⟩
    have HK2 := Lib.hid (HK1.out.tr hk2)
    clear hk2 c2
    go_wp2_with fail
    clear e0 es
    go_loopw [4, 5] (fun a i wr => ∃ q k : Nat, a = .int .i64 q ∧ i = .int .i64 ((k : Int) - 1) ∧ k ≤ n ∧ q = dnum (l.drop k) ∧ Nw w wr) (fun _ i _ => (intOf i + 1).toNat)
    case atStart => exact ⟨0, n, rfl, rfl, Nat.le_refl n, by rw [List.drop_eq_nil_of_le (by rw [HD.out.2.1]; exact Nat.le_refl _)]; rfl, HK2.out⟩
    case round =>
      obtain ⟨q, k, rfl, rfl, hk, hq, hnw⟩ := hrel
      have HQ := Lib.hid hq
      have HK := Lib.hid hnw
      clear hq hnw
      rcases Nat.eq_zero_or_pos k with h0 | h0
      · subst h0
        go_wp2
        go_ret2
        have h := HQ.out
        rw [List.drop_zero] at h
        exact ⟨by rw [h]; rfl, HK.out⟩
      · obtain ⟨j, hj⟩ : ∃ j, k = j + 1 := ⟨k - 1, by omega⟩
        have hkj : (k : Int) - 1 = j := by omega
        rw [hkj]
        have e1 : decide ((j : Int) ≥ 0) = true := decide_eq_true (by omega)
        have i3 : (0 : Int) ≤ (j : Int) := by omega
        have i4 : (j : Int) < (n : Int) := by omega
        have e2 : IntKind.i64.wrap ((j : Int) - 1) = (j : Int) - 1 := by rw [IntKind.wrap_i64]; have := HD.out.2.2.1; omega
        obtain ⟨g, o, rfl, hb, hcl⟩ := HC.out (by omega)
        obtain ⟨x, hx⟩ : ∃ x, l[j]? = some x := ⟨l[j]'(by rw [HD.out.2.1]; omega), List.getElem?_eq_getElem _⟩
        have q0 := (HK.out.cell (p := ⟨g, o + j, none⟩) hb id).trans (hcl j (.int .i64 x) (by rw [dgV_at, hx]; rfl))
        have hstep : q * 32768 + x = dnum (l.drop j) := by rw [dnum_drop hx, b15_eq, HQ.out, hj]; omega
        have hle : dnum (l.drop j) ≤ 4611686018427387904 := by
          have h := dnum_split l j (by rw [HD.out.2.1]; omega)
          have h2 := Nat.mul_le_mul (b15_pos j) (Nat.le_refl (dnum (l.drop j)))
          have h3 := HD.out.2.2.2
          omega
        have m1 : IntKind.i64.wrap ((q : Int) * 32768) = ((q * 32768 : Nat) : Int) := by rw [show (q : Int) * 32768 = ((q * 32768 : Nat) : Int) by omega]; exact wrapI _ (by omega)
        obtain ⟨p, hp⟩ : ∃ p, q * 32768 = p := ⟨_, rfl⟩
        rw [hp] at m1 hstep
        obtain ⟨q', hq'⟩ : ∃ q', dnum (l.drop j) = q' := ⟨_, rfl⟩
        rw [hq'] at hstep hle
        have m2 : IntKind.i64.wrap ((p : Int) + x) = (q' : Int) := by rw [← Int.natCast_add, hstep]; exact wrapI _ (by omega)
        have HQ' := Lib.hid hq'
        clear hcl hstep hle hp hq' hx
        go_wp2_with fail
        go_roundw
        case rel => exact ⟨q', j, rfl, rfl, by omega, HQ'.out.symm, HK.out⟩
        case measure => simp [intOf]
  · rw [if_neg h, decide_eq_false h]
    have es : decide (sgn ((N : Int) - 4611686018427387904) > 0) = true := decide_eq_true (by unfold sgn; split <;> (try split) <;> omega)
    obtain ⟨sg, hsg⟩ : ∃ z, sgn ((N : Int) - 4611686018427387904) = z := ⟨_, rfl⟩
    have c2 : ∀ vt w1, Js w1 v N → Js w1 vt 4611686018427387904 → Calls Try.prog 55 #[v, vt] w1 fun e w' => e = .returned (.int .i64 (sgn ((N : Int) - 4611686018427387904))) ∧ Nw w1 w' := c2
    rw [hsg] at es c2
    clear hsg h
    go_enter Try.func53, Try.ntmps53
    go_wp2_with fail
    refine (c1 _).mono ?_
    rintro e w1 ⟨vt, rfl, hjt, hk1⟩
    have HJ := Lib.hid hjt
    have HK1 := Lib.hid hk1
    clear hjt hk1 c1
    go_wp2_with fail
    refine (c2 _ _ (HV.out.nw HK1.out) HJ.out).mono ?_
    rintro e w2 ⟨rfl, hk2⟩
    go_wp2
    go_ret2
    exact ⟨rfl, HK1.out.tr hk2⟩
end Go.Proofs.Ythefkomalakfeaa.W
