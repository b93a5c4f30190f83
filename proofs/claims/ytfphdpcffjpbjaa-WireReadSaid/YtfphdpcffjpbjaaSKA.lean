/-
  fretsawlaw01.same: kinds 0 to 4. Conditions: what is read are bytes, at most 900; both readers' blocks are known, and have the same bytes left.
-/
import Derived.Test.YtfphdpcffjpbjaaSK
namespace Go.Proofs.Ytfphdpcffjpbjaa.W
open Go.RowKit Go.Proofs.Ytfphdpcffjpbjaa.Pl

set_option maxRecDepth 100000 in
set_option maxHeartbeats 1600000 in
theorem same_k0 {B P R g : Nat} {v : Value} {l : List Int} {k : Nat} {f : Bool} {w : World} (lo hi : Int) (h : SH B P R g v l k f w) :
    Calls Try.prog 11 #[.pointer (some ⟨P, 0, none⟩), .pointer (some ⟨R, 0, none⟩), .agg #[.int .i64 0, .int .i64 lo, .int .i64 hi]] w (SPost B P R g v l w) := by
  obtain ⟨x, L1, f1, hs⟩ : ∃ x L1 f1, rd (0 : Int) sInt (l.drop k) f = (x, L1, f1) := ⟨_, _, _, rfl⟩
  have HS := Lib.hid hs
  have hw0 := h.alloc (.cells #[.int .i64 0, .int .i64 lo, .int .i64 hi] 32)
  have hb := h.by_
  have b0 : Below B w (w.alloc (.cells #[.int .i64 0, .int .i64 lo, .int .i64 hi] 32)) := (Below.refl _ _).alloc h.bw_ _
  clear hs
  have hw := hw0
  clear hw0
  go_enter Try.func11, Try.ntmps11
  go_wp2_with (first
      | (go_at_call 36; ((with_reducible refine (rInt_any P g (l.drop k) f _ hw.rec_ hw.bys).mono ?_); rintro e w1 ⟨v1, rfl, hv1, hrec1, hg1⟩; rw [HS.out] at hv1 hrec1; (obtain rfl : v1 = .int .i64 x := hv1); have hm := hw.mid hg1; have hvl := hw.vlt hg1; have HR1 := Lib.hid hrec1; clear hrec1))
      | (go_at_call 41; ((with_reducible refine (refInt_any R v l k f _ hm hb).mono ?_); rintro e w2 ⟨v2, k2, rfl, hv2, hr2, hk2, hg2⟩; rw [HS.out] at hv2 hr2 hk2; (obtain rfl : v2 = .int .i64 x := hv2); have HR2 := Lib.hid hr2; have HK2 := Lib.hid hk2; have HG2 := Lib.hid hg2; clear hr2 hk2 hg2)))
  go_ret
  have hfin := hw.step HR1.out hg1 HR2.out HK2.out HG2.out
  exact ⟨rfl, ⟨k2, f1, hfin.1⟩, b0.trans hfin.2⟩

set_option maxRecDepth 100000 in
set_option maxHeartbeats 1600000 in
theorem same_k1 {B P R g : Nat} {v : Value} {l : List Int} {k : Nat} {f : Bool} {w : World} (lo hi : Int) (h : SH B P R g v l k f w) :
    Calls Try.prog 11 #[.pointer (some ⟨P, 0, none⟩), .pointer (some ⟨R, 0, none⟩), .agg #[.int .i64 1, .int .i64 lo, .int .i64 hi]] w (SPost B P R g v l w) := by
  obtain ⟨x, L1, f1, hs⟩ : ∃ x L1 f1, rd (0 : Int) (sBounded lo hi) (l.drop k) f = (x, L1, f1) := ⟨_, _, _, rfl⟩
  have HS := Lib.hid hs
  have hw0 := h.alloc (.cells #[.int .i64 1, .int .i64 lo, .int .i64 hi] 32)
  have hb := h.by_
  have b0 : Below B w (w.alloc (.cells #[.int .i64 1, .int .i64 lo, .int .i64 hi] 32)) := (Below.refl _ _).alloc h.bw_ _
  clear hs
  have hw := hw0.drew
  have hne1 : w.heap.size ≠ P := by have := h.rec_.lt; omega
  have hne2 : w.heap.size ≠ R := by have := block_lt h.ref_.1; omega
  clear hw0
  go_enter Try.func11, Try.ntmps11
  go_wp2_with fail
  go_region_held3 (fun w' : World => w'.cell? (⟨w.heap.size, 1, none⟩ : Addr) = some (Value.int .i64 lo) ∧ w'.cell? (⟨w.heap.size, 2, none⟩ : Addr) = some (Value.int .i64 hi)) (first | go_keep | exact ⟨kb1, kb2⟩ | exact ⟨lb1, lb2⟩)
    (first
      | (go_at_call 26; ((with_reducible refine (rBounded_any P g lo hi (l.drop k) f _ hw.rec_ hw.bys).mono ?_); rintro e w1 ⟨v1, rfl, hv1, hrec1, hg1⟩; rw [HS.out] at hv1 hrec1; (obtain rfl : v1 = .int .i64 x := hv1); have hm := hw.mid hg1; have hvl := hw.vlt hg1; have HR1 := Lib.hid hrec1; have kb1 := keep_box (b := w.heap.size) (i := 1) (u := .int .i64 lo) (w := (w.alloc (.cells #[.int .i64 1, .int .i64 lo, .int .i64 hi] 32)).drew) (by simp) hg1 hne1; have kb2 := keep_box (b := w.heap.size) (i := 2) (u := .int .i64 hi) (w := (w.alloc (.cells #[.int .i64 1, .int .i64 lo, .int .i64 hi] 32)).drew) (by simp) hg1 hne1; clear hrec1))
      | (go_at_call 42; ((with_reducible refine (refBounded_any R v l k f lo hi _ hm hb).mono ?_); rintro e w2 ⟨v2, k2, rfl, hv2, hr2, hk2, hg2⟩; rw [HS.out] at hv2 hr2 hk2; (obtain rfl : v2 = .int .i64 x := hv2); have lb1 := keep_box kb1 hg2 hne2; have lb2 := keep_box kb2 hg2 hne2; have HR2 := Lib.hid hr2; have HK2 := Lib.hid hk2; have HG2 := Lib.hid hg2; clear hr2 hk2 hg2)))
  go_wp2
  go_ret
  have hfin := hw.step HR1.out hg1 HR2.out HK2.out HG2.out
  exact ⟨rfl, ⟨k2, f1, hfin.1⟩, (b0.drew).trans hfin.2⟩

set_option maxRecDepth 100000 in
set_option maxHeartbeats 1600000 in
theorem same_k2 {B P R g : Nat} {v : Value} {l : List Int} {k : Nat} {f : Bool} {w : World} (lo hi : Int) (h : SH B P R g v l k f w) :
    Calls Try.prog 11 #[.pointer (some ⟨P, 0, none⟩), .pointer (some ⟨R, 0, none⟩), .agg #[.int .i64 2, .int .i64 lo, .int .i64 hi]] w (SPost B P R g v l w) := by
  obtain ⟨x, L1, f1, hs⟩ : ∃ x L1 f1, rd false sBool (l.drop k) f = (x, L1, f1) := ⟨_, _, _, rfl⟩
  have HS := Lib.hid hs
  have hw0 := h.alloc (.cells #[.int .i64 2, .int .i64 lo, .int .i64 hi] 32)
  have hb := h.by_
  have b0 : Below B w (w.alloc (.cells #[.int .i64 2, .int .i64 lo, .int .i64 hi] 32)) := (Below.refl _ _).alloc h.bw_ _
  clear hs
  have hw := hw0
  clear hw0
  go_enter Try.func11, Try.ntmps11
  go_wp2_with (first
      | (go_at_call 27; ((with_reducible refine (rBool_any P g (l.drop k) f _ hw.rec_ hw.bys).mono ?_); rintro e w1 ⟨v1, rfl, hv1, hrec1, hg1⟩; rw [HS.out] at hv1 hrec1; (obtain rfl : v1 = .bool x := hv1); have hm := hw.mid hg1; have hvl := hw.vlt hg1; have HR1 := Lib.hid hrec1; clear hrec1))
      | (go_at_call 43; ((with_reducible refine (refBool_any R v l k f _ hm hb).mono ?_); rintro e w2 ⟨v2, k2, rfl, hv2, hr2, hk2, hg2⟩; rw [HS.out] at hv2 hr2 hk2; (obtain rfl : v2 = .bool x := hv2); have HR2 := Lib.hid hr2; have HK2 := Lib.hid hk2; have HG2 := Lib.hid hg2; clear hr2 hk2 hg2)))
  go_ret
  have hfin := hw.step HR1.out hg1 HR2.out HK2.out HG2.out
  exact ⟨rfl, ⟨k2, f1, hfin.1⟩, b0.trans hfin.2⟩

set_option maxRecDepth 100000 in
set_option maxHeartbeats 1600000 in
theorem same_k3 {B P R g : Nat} {v : Value} {l : List Int} {k : Nat} {f : Bool} {w : World} (lo hi : Int) (h : SH B P R g v l k f w) :
    Calls Try.prog 11 #[.pointer (some ⟨P, 0, none⟩), .pointer (some ⟨R, 0, none⟩), .agg #[.int .i64 3, .int .i64 lo, .int .i64 hi]] w (SPost B P R g v l w) := by
  obtain ⟨x, L1, f1, hs⟩ : ∃ x L1 f1, rd ([] : List Int) (sBytes hi) (l.drop k) f = (x, L1, f1) := ⟨_, _, _, rfl⟩
  have HS := Lib.hid hs
  have hw0 := h.alloc (.cells #[.int .i64 3, .int .i64 lo, .int .i64 hi] 32)
  have hb := h.by_
  have b0 : Below B w (w.alloc (.cells #[.int .i64 3, .int .i64 lo, .int .i64 hi] 32)) := (Below.refl _ _).alloc h.bw_ _
  clear hs
  have hw := hw0.drew
  have hne1 : w.heap.size ≠ P := by have := h.rec_.lt; omega
  have hne2 : w.heap.size ≠ R := by have := block_lt h.ref_.1; omega
  clear hw0
  go_enter Try.func11, Try.ntmps11
  go_wp2_with fail
  go_region_held3 (fun w' : World => w'.cell? (⟨w.heap.size, 1, none⟩ : Addr) = some (Value.int .i64 lo) ∧ w'.cell? (⟨w.heap.size, 2, none⟩ : Addr) = some (Value.int .i64 hi)) (first | go_keep | exact ⟨kb1, kb2⟩ | exact ⟨lb1, lb2⟩)
    (first
      | (go_at_call 28; ((with_reducible refine (rText_any P g hi (l.drop k) f _ hw.rec_ hw.bys).mono ?_); rintro e w1 ⟨v1, rfl, hv1, hrec1, hg1⟩; rw [HS.out] at hv1 hrec1; (obtain rfl : v1 = .string (strOfNums x) := hv1); have hm := hw.mid hg1; have hvl := hw.vlt hg1; have HR1 := Lib.hid hrec1; have kb1 := keep_box (b := w.heap.size) (i := 1) (u := .int .i64 lo) (w := (w.alloc (.cells #[.int .i64 3, .int .i64 lo, .int .i64 hi] 32)).drew) (by simp) hg1 hne1; have kb2 := keep_box (b := w.heap.size) (i := 2) (u := .int .i64 hi) (w := (w.alloc (.cells #[.int .i64 3, .int .i64 lo, .int .i64 hi] 32)).drew) (by simp) hg1 hne1; clear hrec1))
      | (go_at_call 44; ((with_reducible refine (refText_any R v l k f hi _ hm hb hw.cap_ hw.lenl).mono ?_); rintro e w2 ⟨v2, k2, rfl, hv2, hr2, hk2, hg2⟩; rw [HS.out] at hv2 hr2 hk2; (obtain rfl : v2 = .string (strOfNums x) := hv2); have lb1 := keep_box kb1 hg2 hne2; have lb2 := keep_box kb2 hg2 hne2; have HR2 := Lib.hid hr2; have HK2 := Lib.hid hk2; have HG2 := Lib.hid hg2; clear hr2 hk2 hg2)))
  go_wp2
  go_ret
  have hfin := hw.step HR1.out hg1 HR2.out HK2.out HG2.out
  exact ⟨rfl, ⟨k2, f1, hfin.1⟩, (b0.drew).trans hfin.2⟩

set_option maxRecDepth 100000 in
set_option maxHeartbeats 1600000 in
theorem same_k4 {B P R g : Nat} {v : Value} {l : List Int} {k : Nat} {f : Bool} {w : World} (lo hi : Int) (h : SH B P R g v l k f w) :
    Calls Try.prog 11 #[.pointer (some ⟨P, 0, none⟩), .pointer (some ⟨R, 0, none⟩), .agg #[.int .i64 4, .int .i64 lo, .int .i64 hi]] w (SPost B P R g v l w) := by
  obtain ⟨x, L1, f1, hs⟩ : ∃ x L1 f1, rd ([] : List Int) (sBytes hi) (l.drop k) f = (x, L1, f1) := ⟨_, _, _, rfl⟩
  have HS := Lib.hid hs
  have hw0 := h.alloc (.cells #[.int .i64 4, .int .i64 lo, .int .i64 hi] 32)
  have hb := h.by_
  have b0 : Below B w (w.alloc (.cells #[.int .i64 4, .int .i64 lo, .int .i64 hi] 32)) := (Below.refl _ _).alloc h.bw_ _
  have hxb : By x := by
    have h3 := rd_fst (z := ([] : List Int)) (s := sBytes hi) By By.nil (l.drop k) f (by
      unfold sBytes
      split
      · exact By.nil
      · exact ((suf_sBounded 0 hi).by_ h.bys).take _)
    rw [hs] at h3
    exact h3
  clear hs
  have hw := hw0.drew
  have hne1 : w.heap.size ≠ P := by have := h.rec_.lt; omega
  have hne2 : w.heap.size ≠ R := by have := block_lt h.ref_.1; omega
  clear hw0
  go_enter Try.func11, Try.ntmps11
  go_wp2_with fail
  go_region_held3 (fun w' : World => w'.cell? (⟨w.heap.size, 1, none⟩ : Addr) = some (Value.int .i64 lo) ∧ w'.cell? (⟨w.heap.size, 2, none⟩ : Addr) = some (Value.int .i64 hi)) (first | go_keep | exact ⟨kb1, kb2⟩ | exact ⟨lb1, lb2⟩ | exact ⟨keep_below lb1 hb3, keep_below lb2 hb3⟩)
    (first
      | (go_at_call 29; ((with_reducible refine (rBytes_any P g hi (l.drop k) f _ hw.rec_ hw.bys hw.lens).mono ?_); rintro e w1 ⟨v1, rfl, hv1, hrec1, hg1⟩; rw [HS.out] at hv1 hrec1; (obtain ⟨A1, q1, rfl⟩ := (OwnB.src hv1).shape); have HV1 := Lib.hid hv1; clear hv1; have hm := hw.mid hg1; have hvl := hw.vlt hg1; have HR1 := Lib.hid hrec1; have kb1 := keep_box (b := w.heap.size) (i := 1) (u := .int .i64 lo) (w := (w.alloc (.cells #[.int .i64 4, .int .i64 lo, .int .i64 hi] 32)).drew) (by simp) hg1 hne1; have kb2 := keep_box (b := w.heap.size) (i := 2) (u := .int .i64 hi) (w := (w.alloc (.cells #[.int .i64 4, .int .i64 lo, .int .i64 hi] 32)).drew) (by simp) hg1 hne1; clear hrec1))
      | (go_at_call 45; ((with_reducible refine (refBytes_any R v l k f hi _ hm hb hw.cap_ hw.lenl).mono ?_); rintro e w2 ⟨v2, k2, rfl, hv2, hr2, hk2, hg2⟩; rw [HS.out] at hv2 hr2 hk2; (obtain ⟨A2, q2, rfl⟩ := (OwnB.src hv2).shape); have own1 : OwnB w2 _ _ x := own_row HV1.out hg2 (by have := block_lt h.ref_.1; simp; omega); have own2 : OwnB w2 _ _ x := hv2; clear hv2; have lb1 := keep_box kb1 hg2 hne2; have lb2 := keep_box kb2 hg2 hne2; have HR2 := Lib.hid hr2; have HK2 := Lib.hid hk2; have HG2 := Lib.hid hg2; clear hr2 hk2 hg2))
      | (go_at_call 33; ((with_reducible refine (same_true _ _ x _ own1.src own2.src hxb).mono ?_); rintro e w3 ⟨rfl, rfl⟩)))
  go_wp2
  go_ret
  have hfin := hw.step HR1.out hg1 HR2.out HK2.out HG2.out
  exact ⟨rfl, ⟨k2, f1, hfin.1⟩, (b0.drew).trans hfin.2⟩

end Go.Proofs.Ytfphdpcffjpbjaa.W
