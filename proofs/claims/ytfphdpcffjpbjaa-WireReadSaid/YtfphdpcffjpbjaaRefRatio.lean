/-
  fretsawref01.(*Reader).Ratio: the call takes the step of the plain function. Conditions: what is read are bytes; the reader's block is known.
-/
import Derived.Test.YtfphdpcffjpbjaaRefVec
namespace Go.Proofs.Ytfphdpcffjpbjaa.W
open Go.RowKit Go.Proofs.Ytfphdpcffjpbjaa.Pl

set_option maxRecDepth 100000 in
set_option maxHeartbeats 800000 in
theorem refRatio_any (R : Nat) (v : Value) (l : List Int) (k : Nat) (f : Bool) (w : World) (h : RefR w R v l k f) (hb : By l) (hvb : ∀ g, v.ownBlock = some g → g < w.heap.size) :
    Calls Try.prog 50 #[.pointer (some ⟨R, 0, none⟩)] w (RDec IsVec (rd (0, 0) sVec) w R v l k f) := by
  obtain ⟨c0, c1, c2, d0, d1, d2⟩ := h.cells
  obtain ⟨x, L1, f1, hs1⟩ : ∃ x L1 f1, rd 0 sInt (l.drop k) f = (x, L1, f1) := ⟨_, _, _, rfl⟩
  obtain ⟨y, L2, f2, hs2⟩ : ∃ y L2 f2, rd 0 sInt L1 f1 = (y, L2, f2) := ⟨_, _, _, rfl⟩
  have hkl := h.2.2.2.1
  have hRw := block_lt h.1
  have h0 := h.alloc (.cells #[.int .i64 0, .int .i64 0] 74)
  have HS1 := Lib.hid hs1
  have HS2 := Lib.hid hs2
  have HVB := Lib.hid hvb
  go_enter Try.func50, Try.ntmps50
  go_wp2_with fail
  refine (refInt_any R v l k f _ h0 hb).mono ?_
  rintro e w1 ⟨u1, k1, rfl, hv1, hr1, hk1, hg1⟩
  rw [HS1.out] at hv1 hr1 hk1
  obtain rfl : u1 = .int .i64 x := hv1
  have HK1 := Lib.hid hk1
  have hz1 := hg1.size
  simp only [World.alloc, Array.size_push] at hz1
  clear hk1 hs1
  go_wp2_with fail
  refine (refInt_any R v l k1 f1 _ (hr1.alloc _) hb).mono ?_
  rintro e w2 ⟨u2, k2, rfl, hv2, hr2, hk2, hg2⟩
  rw [HK1.out, HS2.out] at hv2 hr2 hk2
  obtain rfl : u2 = .int .i64 y := hv2
  have HK2 := Lib.hid hk2
  have hz2 := hg2.size
  simp only [World.alloc, Array.size_push] at hz2
  have hB1 := kept_new hg2 (by omega)
  have hB0 := (hg2.block w.heap.size (by simp; omega) (by intro e; injection e with e; omega)).trans ((Below.heap_alloc w1 _ w.heap.size (by omega)).trans (kept_new hg1 hRw))
  obtain ⟨q0, q1, q2, q3⟩ := two_cell hB1
  obtain ⟨p0, p1, p2, p3⟩ := two_cell hB0
  obtain ⟨e0, e1, e2, e3, e4, e5⟩ := hr2.cells
  have hgw2 : w.grownBy w2 (some R) := by
    refine ⟨hg2.os.trans hg1.os, hg2.tape.trans hg1.tape, hg2.output.trans hg1.output, by omega, fun j hj hne => ?_⟩
    exact (hg2.block j (by simp; omega) hne).trans ((Below.heap_alloc w1 _ j (by omega)).trans ((hg1.block j (by simp; omega) hne).trans (Below.heap_alloc w _ j hj)))
  have hlt1 : w.heap.size < w1.heap.size := by omega
  have hne1 : w1.heap.size ≠ R := by omega
  have hne0 : w.heap.size ≠ R := by omega
  have hne2 : w1.heap.size ≠ w.heap.size := by omega
  have hfar1 : ∀ g, v.ownBlock = some g → g ≠ w1.heap.size := fun g hg => by have := HVB.out g hg; omega
  have hfar0 : ∀ g, v.ownBlock = some g → g ≠ w.heap.size := fun g hg => by have := HVB.out g hg; omega
  have HB0 := Lib.hid hB0
  have HF1 := Lib.hid hfar1
  have HF0 := Lib.hid hfar0
  clear hk2 hB0 hB1 hfar1 hfar0 hvb
  cases f2 with
  | true =>
    have hd := Lib.hid (vec_fail HS1.out HS2.out)
    go_wp2_with fail
    refine (refFail_any R v l k2 k true _ (hr2.far (b := w1.heap.size) (j := 1) (u := .int .i64 y) hne1 HF1.out) hkl).mono ?_
    rintro e w3 ⟨rfl, hr3, hg3⟩
    have hB3 := (hg3.block w.heap.size (by simp [World.setCell]; omega) (by intro e; injection e with e; omega)).trans ((Below.heap_setCell w2 ⟨w1.heap.size, 1, none⟩ _ w.heap.size (by simp only; omega)).trans HB0.out)
    obtain ⟨s0, s1, s2, s3⟩ := two_cell hB3
    have hg := (grown_new (j := 1) (u := .int .i64 y) hgw2 (Nat.le_of_lt hlt1)).trans hg3
    clear hB3 hg3
    go_wp2
    refine bodyPost_ret (v := .agg #[.int .i64 0, .int .i64 0]) (by simp [results, Try.results50, go_sem, s0, s1]) rfl ?_
    exact rdec_fail ((hr3.far hne0 HF0.out).far hne0 HF0.out) (grown_new (grown_new hg (Nat.le_refl _)) (Nat.le_refl _)) hd.out rfl
  | false =>
    have hd := Lib.hid (vec_good HS1.out HS2.out)
    go_wp2
    refine bodyPost_ret (v := .agg #[.int .i64 x, .int .i64 y]) (by simp [results, Try.results50, go_sem, p0, p1]) rfl ?_
    exact rdec_good (((hr2.far hne1 HF1.out).far hne0 HF0.out).far hne0 HF0.out) (grown_new (grown_new (grown_new hgw2 (Nat.le_of_lt hlt1)) (Nat.le_refl _)) (Nat.le_refl _)) hd.out HK2.out rfl
end Go.Proofs.Ytfphdpcffjpbjaa.W
