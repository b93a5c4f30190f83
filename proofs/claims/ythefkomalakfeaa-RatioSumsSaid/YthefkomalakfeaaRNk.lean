/-
  The reference's narrow, plus: what they return. Condition: few digits; denominators are not 0.
-/
import Derived.Test.YthefkomalakfeaaRNj
namespace Go.Proofs.Ythefkomalakfeaa.W
open Go.RowKit Go.Proofs.Ythefkomalakfeaa.Q

set_option maxRecDepth 100000 in
set_option maxHeartbeats 3200000 in
theorem narrow_any (s : Bool) (N D : Nat) (v : Value) (w : World) (hv : BF w v s N D) (hD : 0 < D) (hF : FewD (3 * (N + D) + 2)) :
    Calls Try.prog 38 #[v] w fun e w' => e = .returned (resV (lowR s (N / Nat.gcd N D) (D / Nat.gcd N D))) ∧ Nw w w' := by
  have c0 := fun w1 h1 => refLowest_any s N D v w1 h1 hD hF
  have hn1 := Nat.div_le_self N (Nat.gcd N D)
  have hd1 := Nat.div_le_self D (Nat.gcd N D)
  have c1 := fun vn w1 h1 => number_any (N / Nat.gcd N D) vn w1 h1 (FewD.mono hF (by omega))
  have c2 := fun vd w1 h1 => number_any (D / Nat.gcd N D) vd w1 h1 (FewD.mono hF (by omega))
  generalize N / Nat.gcd N D = P at *
  generalize D / Nat.gcd N D = R at *
  obtain ⟨x1, hx1⟩ : ∃ x, (if P ≤ 4611686018427387904 then P else 0) = x := ⟨_, rfl⟩
  obtain ⟨y1, hy1⟩ : ∃ y, decide (P ≤ 4611686018427387904) = y := ⟨_, rfl⟩
  obtain ⟨x2, hx2⟩ : ∃ x, (if R ≤ 4611686018427387904 then R else 0) = x := ⟨_, rfl⟩
  obtain ⟨y2, hy2⟩ : ∃ y, decide (R ≤ 4611686018427387904) = y := ⟨_, rfl⟩
  rw [hx1, hy1] at c1
  rw [hx2, hy2] at c2
  have HXY := Lib.hid (And.intro hx1 (And.intro hy1 (And.intro hx2 hy2)))
  have HV := Lib.hid hv
  obtain ⟨A, n, c, A2, n2, c2', rfl, hN, hDD⟩ := hv
  have hB := blk2' w 45 23 #[.bool s, .slice A n c, .slice A2 n2 c2'] #[.int .i64 0, .int .i64 0]
  have HK0 := Lib.hid ((nw_alloc w (.cells #[.bool s, .slice A n c, .slice A2 n2 c2'] 45)).alloc (.cells #[.int .i64 0, .int .i64 0] 23))
  have HB := Lib.hid hB
  have hlow : lowR s P R = (if P ≤ 4611686018427387904 ∧ R ≤ 4611686018427387904 then (if s then -(P : Int) else P, (R : Int), 0) else (0, 0, 2) : Trp) := rfl
  have HL := Lib.hid hlow
  obtain ⟨r, hr⟩ : ∃ r, lowR s P R = r := ⟨_, rfl⟩
  rw [hr]
  have HR := Lib.hid hr
  clear hB hN hDD hn1 hd1 hD hF hlow hr hx1 hy1 hx2 hy2
  go_enter Try.func38, Try.ntmps38
  go_wp2_with fail
  refine (c0 _ (HV.out.nw HK0.out)).mono ?_
  rintro e w1 ⟨v1, rfl, ⟨A3, n3, c3, A4, n4, c4, rfl, hj1, hj2⟩, hk1⟩
  obtain ⟨b, hb⟩ : ∃ b, (s && decide (0 < P)) = b := ⟨_, rfl⟩
  rw [hb]
  have HBB := Lib.hid hb
  have hblk := Blk.new w1 45 #[.bool b, .slice A3 n3 c3, .slice A4 n4 c4]
  have HBL := Lib.hid hblk
  have HJ1 := Lib.hid (hj1.nw (nw_alloc w1 (.cells #[.bool b, .slice A3 n3 c3, .slice A4 n4 c4] 45)))
  have HJ2 := Lib.hid (hj2.nw (nw_alloc w1 (.cells #[.bool b, .slice A3 n3 c3, .slice A4 n4 c4] 45)))
  have HK1 := Lib.hid (hk1.alloc (.cells #[.bool b, .slice A3 n3 c3, .slice A4 n4 c4] 45))
  clear hb hblk hj1 hj2 hk1 c0
  go_wp2_with fail
  refine (c1 _ _ HJ1.out).mono ?_
  rintro e w2 ⟨rfl, hk2⟩
  have HK2 := Lib.hid hk2
  clear hk2 c1
  obtain ⟨p0, p1, p2, _⟩ := Blk.three (HBL.out.kp HK2.out id)
  go_wp2_with fail
  refine (c2 _ _ (HJ2.out.nw HK2.out)).mono ?_
  rintro e w3 ⟨rfl, hk3⟩
  have HK3 := Lib.hid (HK2.out.tr hk3)
  clear hk3 c2 p0 p1 p2
  obtain ⟨p0, p1, p2, _⟩ := Blk.three (HBL.out.kp HK3.out id)
  have HK := Lib.hid (HK1.out.tr HK3.out)
  obtain ⟨t0, t1, t2, t3⟩ := (HB.out.2.kp HK.out id).two
  cases y1
  · have hrr : r = (0, 0, 2) := by
      have h1 := of_decide_eq_false HXY.out.2.1
      rw [← HR.out, HL.out, if_neg (fun h => h1 h.1)]
    have HRR := Lib.hid hrr
    clear hrr
    go_wp2_with fail
    refine bodyPost_ret (v := resV (0, 0, 2)) (by simp [results, Try.results38, go_sem, t0, t1]) rfl ⟨by rw [HRR.out], ?_⟩
    exact ((HK0.out.tr HK.out).new (by omega) _ _).new (by omega) _ _
  · cases y2
    · have hrr : r = (0, 0, 2) := by
        have h1 := of_decide_eq_false HXY.out.2.2.2
        rw [← HR.out, HL.out, if_neg (fun h => h1 h.2)]
      have HRR := Lib.hid hrr
      clear hrr
      go_wp2_with fail
      refine bodyPost_ret (v := resV (0, 0, 2)) (by simp [results, Try.results38, go_sem, t0, t1]) rfl ⟨by rw [HRR.out], ?_⟩
      exact ((HK0.out.tr HK.out).new (by omega) _ _).new (by omega) _ _
    · have h1 := of_decide_eq_true HXY.out.2.1
      have h2 := of_decide_eq_true HXY.out.2.2.2
      have hx1 := HXY.out.1
      have hx2 := HXY.out.2.2.1
      rw [if_pos h1] at hx1
      rw [if_pos h2] at hx2
      subst hx1 hx2
      have hrr : r = (if s then -(P : Int) else P, (R : Int), 0) := by rw [← HR.out, HL.out, if_pos ⟨h1, h2⟩]
      have e1 : IntKind.i64.wrap (-(P : Int)) = -(P : Int) := by rw [IntKind.wrap_i64]; omega
      have hbb := HBB.out
      cases b
      · have hrr2 : r = ((P : Int), (R : Int), 0) := by
          rw [hrr]
          cases s
          · rfl
          · simp at hbb
            subst hbb
            rfl
        have HRR := Lib.hid hrr2
        clear hrr hrr2 hbb h1 h2
        go_wp2_with fail
        refine bodyPost_ret (v := resV ((P : Int), (R : Int), 0)) (by simp [results, Try.results38, go_sem, t0, t1]) rfl ⟨by rw [HRR.out], ?_⟩
        exact ((HK0.out.tr HK.out).new (by omega) _ _).new (by omega) _ _
      · have hrr2 : r = (-(P : Int), (R : Int), 0) := by
          rw [hrr]
          cases s
          · simp at hbb
          · rfl
        have HRR := Lib.hid hrr2
        clear hrr hrr2 hbb h1 h2
        go_wp2_with fail
        refine bodyPost_ret (v := resV (-(P : Int), (R : Int), 0)) (by simp [results, Try.results38, go_sem, t0, t1]) rfl ⟨by rw [HRR.out], ?_⟩
        exact ((HK0.out.tr HK.out).new (by omega) _ _).new (by omega) _ _
end Go.Proofs.Ythefkomalakfeaa.W
