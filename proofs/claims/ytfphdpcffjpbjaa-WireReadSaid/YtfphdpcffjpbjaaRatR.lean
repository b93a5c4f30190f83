/-
  wire.read at ratios, (*wire.Reader).Ratio: what the call returns and leaves. Conditions: what is left are bytes; the reader's block is known.
-/
import Derived.Test.YtfphdpcffjpbjaaShapeR
namespace Go.Proofs.Ytfphdpcffjpbjaa.W
open Go.RowKit Go.Proofs.Ytfphdpcffjpbjaa.Pl

set_option maxRecDepth 100000 in
set_option maxHeartbeats 400000 in
theorem ratio_dec (C g : Nat) (l : List Int) (f : Bool) (w : World) (h : Rec w 107 C g l f) (hb : By l) :
    Calls Try.prog 78 #[.pointer (some ⟨C, 0, none⟩)] w (Dec 107 IsVec sVec w C g l f) := by
  obtain ⟨x, l1, f1, hs1⟩ : ∃ x l1 f1, sInt l f = (x, l1, f1) := ⟨_, _, _, rfl⟩
  obtain ⟨y, l2, f2, hs2⟩ : ∃ y l2 f2, sInt l1 f1 = (y, l2, f2) := ⟨_, _, _, rfl⟩
  have hs : sVec l f = ((x, y), l2, f2) := by unfold sVec; rw [hs1]; simp only; rw [hs2]
  have hb1 : By l1 := by have := suf_sInt.by_ (f := f) hb; rw [hs1] at this; exact this
  have hgl : l2 ≠ [] → g < w.heap.size := fun hn => by
    obtain ⟨_, _, hrr, _⟩ := id h
    refine hrr.lt_ ?_
    have := suf_sVec.ne (l := l) (f := f)
    rw [hs] at this
    exact this hn
  have hC := h.lt
  have h0 := h.below ((Below.refl _ _).alloc (Nat.le_refl _) (.cells #[.int .i64 0, .int .i64 0] 74))
  have HS1 := Lib.hid hs1
  have HS2 := Lib.hid hs2
  have HS := Lib.hid hs
  have HG := Lib.hid hgl
  clear hs1 hs2 hs hgl
  go_enter Try.func78, Try.ntmps78
  go_wp2_with fail
  refine (integer_dec C g l f _ h0 hb).mono ?_
  rintro e w1 ⟨v1, rfl, hv1, hrec1, hgr1⟩
  rw [HS1.out] at hv1 hrec1
  obtain rfl : v1 = .int .i64 x := hv1
  go_wp2_with fail
  refine (integer_dec C g l1 f1 _ hrec1 hb1).mono ?_
  rintro e w2 ⟨v2, rfl, hv2, hrec2, hgr2⟩
  rw [HS2.out] at hv2 hrec2
  obtain rfl : v2 = .int .i64 y := hv2
  have hgr := hgr1.trans hgr2
  have hV := kept_new hgr hC
  obtain ⟨q0, q1, q2, q3⟩ := two_cell hV
  clear hV
  go_wp2
  refine bodyPost_ret (v := .agg #[.int .i64 x, .int .i64 y]) (by simp [results, Try.results78, go_sem, q0, q1]) rfl ?_
  exact dec_late h hgr hrec2 HS.out ((grown_setCell _ _ _ _).trans (grown_setCell _ _ _ _)) HG.out rfl

set_option maxRecDepth 100000 in
set_option maxHeartbeats 1000000 in
theorem readRatio_any (R g : Nat) (l : List Int) (f : Bool) (W : World) (h : Rec W 79 R g l f) (hb : By l) :
    Calls Try.prog 77 #[.pointer (some ⟨R, 0, none⟩), .func (.func 78) #[] #[]] W (Dec 79 IsVec (rd (0, 0) sVec) W R g l f) := by
  have h0 := h
  obtain ⟨rest, h1, hr, h5⟩ := h
  obtain ⟨A, c, rfl, hlc, hcm, _⟩ := id hr
  obtain ⟨k0, k1, k2, k3⟩ := two_cell h1
  have hRl := h0.lt
  have hgl0 : l ≠ [] → g < W.heap.size := hr.lt_
  cases f with
  | true =>
    have hp : Dec 79 IsVec (rd (0, 0) sVec) W R g l true (.returned (.agg #[.int .i64 0, .int .i64 0])) W := read_failed h0 rfl
    have hp2 := dec_after (X := W.heap.size) (w2 := (W.alloc (.cells #[.int .i64 0, .int .i64 0] 74)).alloc (.cells #[.int .i64 0, .int .i64 0] 74)) hp
      ((World.grownBy_alloc W _ _).trans (World.grownBy_alloc _ _ _)) (Nat.le_refl _) hRl hgl0 (fun v x hv => hv)
    clear h1 hr hp
    go_enter Try.func77, Try.ntmps77
    go_wp2
    refine bodyPost_ret (v := .agg #[.int .i64 0, .int .i64 0]) (by simp [results, Try.results77, go_sem]) rfl ?_
    exact hp2
  | false =>
    have hr2 := hr.keep (w' := (W.alloc (.cells #[.int .i64 0, .int .i64 0] 74)).alloc (.cells #[.int .i64 0, .int .i64 0] 74)) (fun _ hlt => (Below.heap_alloc _ _ _ (by simp; omega)).trans (Below.heap_alloc _ _ _ hlt))
    have hC := Rec.new (T := 107) (f := false) hr2 hr2.lt_
    have hW2 : ((W.alloc (.cells #[.int .i64 0, .int .i64 0] 74)).alloc (.cells #[.int .i64 0, .int .i64 0] 74)).heap.size = W.heap.size + 1 + 1 := by simp
    rw [hW2] at hC
    have hR2 := rec_al (rec_al h0 (.cells #[.int .i64 0, .int .i64 0] 74)) (.cells #[.int .i64 0, .int .i64 0] 74)
    have hR' := rec_al hR2 (.cells #[.slice A l.length c, .bool false] 107)
    have hne : R ≠ W.heap.size + 1 + 1 := by omega
    have HW2 := Lib.hid hW2
    clear h1 hr h5 hW2
    have hgl1 : (sVec l false).2.1 ≠ [] → g < W.heap.size := fun hn => hgl0 (suf_sVec.ne hn)
    have HGL := Lib.hid hgl1
    have HG0 := Lib.hid hgl0
    clear hgl1 hgl0
    cases hs : (sVec l false).2.2 with
    | true =>
      have HS := Lib.hid hs
      clear hs
      go_enter Try.func77, Try.ntmps77
      go_wp2_with fail
      refine (ratio_dec (W.heap.size + 1 + 1) g l false _ hC hb).mono ?_
      rintro e w2 ⟨v2, rfl, hv2, hrec, hgr⟩
      obtain rfl : v2 = .agg #[.int .i64 (sVec l false).1.1, .int .i64 (sVec l false).1.2] := hv2
      rw [HS.out] at hrec
      have hgr3 := hgr.trans (World.grownBy_alloc w2 (.cells #[.int .i64 (sVec l false).1.1, .int .i64 (sVec l false).1.2] 74) (some (W.heap.size + 1 + 1)))
      have hrec3 := rec_al hrec (.cells #[.int .i64 (sVec l false).1.1, .int .i64 (sVec l false).1.2] 74)
      obtain ⟨rest1, rest2, ⟨q0, q1, q2, q3⟩, ⟨q4, q5⟩, hr3⟩ := behind hR' hrec3 hgr3 hne
      have b0 := two_cell (kept_at (b := W.heap.size) (o := .cells #[.int .i64 0, .int .i64 0] 74) (by
        rw [Below.heap_alloc _ _ _ (by simp; omega), Below.heap_alloc _ _ _ (by simp)]
        exact heap_alloc_new W _) hgr3 (by omega))
      have b1 := two_cell (kept_at (b := W.heap.size + 1) (o := .cells #[.int .i64 0, .int .i64 0] 74) (by
        rw [Below.heap_alloc _ _ _ (by simp)]
        have := heap_alloc_new (W.alloc (.cells #[.int .i64 0, .int .i64 0] 74)) (.cells #[.int .i64 0, .int .i64 0] 74)
        simpa using this) hgr3 (by omega))
      obtain ⟨e0, e1, e2, e3⟩ := b0
      obtain ⟨z0, z1, z2, z3⟩ := b1
      have hsz := hgr.size
      simp at hsz
      have HREC := Lib.hid hrec3
      have HR3 := Lib.hid hr3
      clear hrec hrec3 hr3 hC hR' hgr
      go_wp2
      refine bodyPost_ret (v := .agg #[.int .i64 0, .int .i64 0]) (by simp [results, Try.results77, go_sem, e0, e1]) rfl ?_
      have hd := dec_al (dec_al (read_bad (Rv := IsVec) (z := ((0 : Int), (0 : Int))) hR2 (by rw [HW2.out]; exact hgr3) HS.out (fun _ => rfl)))
      refine dec_after (X := W.heap.size) hd ((grown_setCell _ _ _ _).trans (grown_setCell _ _ _ _)) (Nat.le_refl _) hRl ?_ (fun v x hv => hv)
      rw [rd_bad HS.out]
      exact HG0.out
    | false =>
      have HS := Lib.hid hs
      clear hs
      go_enter Try.func77, Try.ntmps77
      go_wp2_with fail
      refine (ratio_dec (W.heap.size + 1 + 1) g l false _ hC hb).mono ?_
      rintro e w2 ⟨v2, rfl, hv2, hrec, hgr⟩
      obtain rfl : v2 = .agg #[.int .i64 (sVec l false).1.1, .int .i64 (sVec l false).1.2] := hv2
      rw [HS.out] at hrec
      have hgr3 := hgr.trans (World.grownBy_alloc w2 (.cells #[.int .i64 (sVec l false).1.1, .int .i64 (sVec l false).1.2] 74) (some (W.heap.size + 1 + 1)))
      have hrec3 := rec_al hrec (.cells #[.int .i64 (sVec l false).1.1, .int .i64 (sVec l false).1.2] 74)
      obtain ⟨rest1, rest2, ⟨q0, q1, q2, q3⟩, ⟨q4, q5⟩, hr3⟩ := behind hR' hrec3 hgr3 hne
      have b0 := two_cell (kept_at (b := W.heap.size) (o := .cells #[.int .i64 0, .int .i64 0] 74) (by
        rw [Below.heap_alloc _ _ _ (by simp; omega), Below.heap_alloc _ _ _ (by simp)]
        exact heap_alloc_new W _) hgr3 (by omega))
      have b1 := two_cell (kept_at (b := W.heap.size + 1) (o := .cells #[.int .i64 0, .int .i64 0] 74) (by
        rw [Below.heap_alloc _ _ _ (by simp)]
        have := heap_alloc_new (W.alloc (.cells #[.int .i64 0, .int .i64 0] 74)) (.cells #[.int .i64 0, .int .i64 0] 74)
        simpa using this) hgr3 (by omega))
      obtain ⟨e0, e1, e2, e3⟩ := b0
      obtain ⟨z0, z1, z2, z3⟩ := b1
      have hsz := hgr.size
      simp at hsz
      obtain ⟨A3, c3, rfl, _⟩ := id hr3
      have HREC := Lib.hid hrec3
      have HR3 := Lib.hid hr3
      clear hrec hrec3 hr3 hC hR' hgr
      go_wp2
      refine bodyPost_ret (v := .agg #[.int .i64 (sVec l false).1.1, .int .i64 (sVec l false).1.2]) (by simp [results, Try.results77, go_sem, e0, e1]) rfl ?_
      have hd := dec_al (dec_al (read_good (Rv := IsVec) (z := ((0 : Int), (0 : Int))) hR2 (by rw [HW2.out]; exact hgr3) HS.out HR3.out rfl suf_sVec.ne))
      refine dec_after (X := W.heap.size) hd ((grown_setCell _ _ _ _).trans (grown_setCell _ _ _ _)) (Nat.le_refl _) hRl ?_ (fun v x hv => hv)
      rw [rd_good HS.out]
      exact HGL.out

set_option maxRecDepth 100000 in
set_option maxHeartbeats 400000 in
theorem rRatio_any (R g : Nat) (l : List Int) (f : Bool) (w : World) (h : Rec w 79 R g l f) (hb : By l) :
    Calls Try.prog 39 #[.pointer (some ⟨R, 0, none⟩)] w (Dec 79 IsVec (rd (0, 0) sVec) w R g l f) := by
  have hRl := h.lt
  have hgl0 : l ≠ [] → g < w.heap.size := fun hn => by
    obtain ⟨_, _, hrr, _⟩ := id h
    exact hrr.lt_ hn
  have hgl : (rd ((0 : Int), (0 : Int)) sVec l f).2.1 ≠ [] → g < w.heap.size := by
    unfold rd
    split
    · exact hgl0
    · split
      · exact hgl0
      · exact fun hn => hgl0 (suf_sVec.ne hn)
  have HGL := Lib.hid hgl
  clear hgl hgl0
  have h1 := rec_al h (.cells #[.int .i64 0, .int .i64 0] 74)
  go_enter Try.func39, Try.ntmps39
  go_wp2_with fail
  refine (readRatio_any R g l f _ h1 hb).mono ?_
  rintro e w2 hd
  obtain ⟨v2, rfl, hv2, hrec, hgr⟩ := id hd
  obtain rfl : v2 = .agg #[.int .i64 (rd ((0 : Int), (0 : Int)) sVec l f).1.1, .int .i64 (rd ((0 : Int), (0 : Int)) sVec l f).1.2] := hv2
  obtain ⟨e0, e1, e2, e3⟩ := two_cell (kept_at (heap_alloc_new w _) hgr (by omega))
  have HD := Lib.hid hd
  clear hd hrec hgr h1
  go_wp2
  refine bodyPost_ret (v := .agg #[.int .i64 (rd ((0 : Int), (0 : Int)) sVec l f).1.1, .int .i64 (rd ((0 : Int), (0 : Int)) sVec l f).1.2]) (by simp [results, Try.results39, go_sem, e0, e1]) rfl ?_
  exact dec_after (X := w.heap.size) (dec_al HD.out) ((grown_setCell _ _ _ _).trans (grown_setCell _ _ _ _)) (Nat.le_refl _) hRl HGL.out (fun v x hv => hv)
end Go.Proofs.Ytfphdpcffjpbjaa.W
