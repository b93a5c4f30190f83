/-
  fretsawlaw01.same: kinds 5 to 9. Conditions: what is read are bytes, at most 900; both readers' blocks are known, and have the same bytes left.
-/
import Derived.Test.YtfphdpcffjpbjaaSK
namespace Go.Proofs.Ytfphdpcffjpbjaa.W
open Go.RowKit Go.Proofs.Ytfphdpcffjpbjaa.Pl

set_option maxRecDepth 100000 in
set_option maxHeartbeats 1600000 in
theorem same_k5 {B P R g : Nat} {v : Value} {l : List Int} {k : Nat} {f : Bool} {w : World} (lo hi : Int) (h : SH B P R g v l k f w) (hhi : hi ≤ 9223372036854775807) :
    Calls Try.prog 11 #[.pointer (some ⟨P, 0, none⟩), .pointer (some ⟨R, 0, none⟩), .agg #[.int .i64 5, .int .i64 lo, .int .i64 hi]] w (SPost B P R g v l w) := by
  obtain ⟨x, L1, f1, hs⟩ : ∃ x L1 f1, rd ([] : List Int) (sList hi sInt) (l.drop k) f = (x, L1, f1) := ⟨_, _, _, rfl⟩
  have HS := Lib.hid hs
  have hw0 := h.alloc (.cells #[.int .i64 5, .int .i64 lo, .int .i64 hi] 32)
  have hb := h.by_
  have b0 : Below B w (w.alloc (.cells #[.int .i64 5, .int .i64 lo, .int .i64 hi] 32)) := (Below.refl _ _).alloc h.bw_ _
  have hxl : x.length ≤ 4611686018427387904 := by
    have h1 := sList_len eats_sInt hi (l.drop k) false
    have h2 := h.lens
    have h3 := rd_fst (z := ([] : List Int)) (s := sList hi sInt) (fun y => y.length ≤ 4611686018427387904) (by simp) (l.drop k) f (by omega)
    rw [hs] at h3
    exact h3
  clear hs
  have hw := hw0.drew
  have hne1 : w.heap.size ≠ P := by have := h.rec_.lt; omega
  have hne2 : w.heap.size ≠ R := by have := block_lt h.ref_.1; omega
  clear hw0
  go_enter Try.func11, Try.ntmps11
  go_wp2_with fail
  go_region_held3 (fun w' : World => w'.cell? (⟨w.heap.size, 1, none⟩ : Addr) = some (Value.int .i64 lo) ∧ w'.cell? (⟨w.heap.size, 2, none⟩ : Addr) = some (Value.int .i64 hi)) (first | go_keep | exact ⟨kb1, kb2⟩ | exact ⟨lb1, lb2⟩ | exact ⟨keep_below lb1 hb3, keep_below lb2 hb3⟩)
    (first
      | (go_at_call 25; ((with_reducible refine (rInts_any P g hi (l.drop k) f _ hw.rec_ hw.bys hw.lens hhi).mono ?_); rintro e w1 ⟨v1, rfl, hv1, hrec1, hg1⟩; rw [HS.out] at hv1 hrec1; (obtain ⟨A1, q1, rfl⟩ := (own_src hv1).shape); have HV1 := Lib.hid hv1; clear hv1; have hm := hw.mid hg1; have hvl := hw.vlt hg1; have HR1 := Lib.hid hrec1; have kb1 := keep_box (b := w.heap.size) (i := 1) (u := .int .i64 lo) (w := (w.alloc (.cells #[.int .i64 5, .int .i64 lo, .int .i64 hi] 32)).drew) (by simp) hg1 hne1; have kb2 := keep_box (b := w.heap.size) (i := 2) (u := .int .i64 hi) (w := (w.alloc (.cells #[.int .i64 5, .int .i64 lo, .int .i64 hi] 32)).drew) (by simp) hg1 hne1; clear hrec1))
      | (go_at_call 46; ((with_reducible refine (refInts_any R v l k f hi _ hm hb hw.lenl hhi hvl).mono ?_); rintro e w2 ⟨v2, k2, rfl, hv2, hr2, hk2, hg2⟩; rw [HS.out] at hv2 hr2 hk2; (obtain ⟨A2, q2, rfl⟩ := (own_src hv2).shape); have own1 : SrcI w2 _ x := own_src (own_row HV1.out hg2 (by have := block_lt h.ref_.1; simp; omega)); have own2 : SrcI w2 _ x := own_src hv2; clear hv2; have lb1 := keep_box kb1 hg2 hne2; have lb2 := keep_box kb2 hg2 hne2; have HR2 := Lib.hid hr2; have HK2 := Lib.hid hk2; have HG2 := Lib.hid hg2; clear hr2 hk2 hg2))
      | (go_at_call 24; ((with_reducible refine (sameI_any _ _ x x _ own1 own2 hxl hxl).mono ?_); rintro e w3 ⟨rfl, n3, rfl⟩; have hb3 := below_drewN (Below.refl w2.heap.size w2) n3; rw [show eqI x x = true from decide_eq_true rfl])))
  go_wp2
  go_ret
  have hfin := hw.step HR1.out hg1 HR2.out HK2.out HG2.out
  exact ⟨rfl, ⟨k2, f1, hfin.1.more (below_drewN (Below.refl _ _) n3)⟩, below_drewN ((b0.drew).trans hfin.2) n3⟩

set_option maxRecDepth 100000 in
set_option maxHeartbeats 1600000 in
theorem same_k6 {B P R g : Nat} {v : Value} {l : List Int} {k : Nat} {f : Bool} {w : World} (lo hi : Int) (h : SH B P R g v l k f w) :
    Calls Try.prog 11 #[.pointer (some ⟨P, 0, none⟩), .pointer (some ⟨R, 0, none⟩), .agg #[.int .i64 6, .int .i64 lo, .int .i64 hi]] w (SPost B P R g v l w) := by
  obtain ⟨x, L1, f1, hs⟩ : ∃ x L1 f1, rd ((0 : Int), (0 : Int)) sVec (l.drop k) f = (x, L1, f1) := ⟨_, _, _, rfl⟩
  have HS := Lib.hid hs
  have hw0 := h.alloc (.cells #[.int .i64 6, .int .i64 lo, .int .i64 hi] 32)
  have hb := h.by_
  have b0 : Below B w (w.alloc (.cells #[.int .i64 6, .int .i64 lo, .int .i64 hi] 32)) := (Below.refl _ _).alloc h.bw_ _
  clear hs
  have hw := hw0
  clear hw0
  go_enter Try.func11, Try.ntmps11
  go_wp2_with (first
      | (go_at_call 38; ((with_reducible refine (rVec_any P g (l.drop k) f _ hw.rec_ hw.bys).mono ?_); rintro e w1 ⟨v1, rfl, hv1, hrec1, hg1⟩; rw [HS.out] at hv1 hrec1; (obtain rfl : v1 = .agg #[.int .i64 x.1, .int .i64 x.2] := hv1); have hm := hw.mid hg1; have hvl := hw.vlt hg1; have HR1 := Lib.hid hrec1; clear hrec1))
      | (go_at_call 47; ((with_reducible refine (refVec_any R v l k f _ hm hb hvl).mono ?_); rintro e w2 ⟨v2, k2, rfl, hv2, hr2, hk2, hg2⟩; rw [HS.out] at hv2 hr2 hk2; (obtain rfl : v2 = .agg #[.int .i64 x.1, .int .i64 x.2] := hv2); have HR2 := Lib.hid hr2; have HK2 := Lib.hid hk2; have HG2 := Lib.hid hg2; clear hr2 hk2 hg2)))
  go_ret
  have hfin := hw.step HR1.out hg1 HR2.out HK2.out HG2.out
  exact ⟨rfl, ⟨k2, f1, hfin.1⟩, b0.trans hfin.2⟩

set_option maxRecDepth 100000 in
set_option maxHeartbeats 1600000 in
theorem same_k7 {B P R g : Nat} {v : Value} {l : List Int} {k : Nat} {f : Bool} {w : World} (lo hi : Int) (h : SH B P R g v l k f w) (hhi : hi ≤ 9223372036854775807) :
    Calls Try.prog 11 #[.pointer (some ⟨P, 0, none⟩), .pointer (some ⟨R, 0, none⟩), .agg #[.int .i64 7, .int .i64 lo, .int .i64 hi]] w (SPost B P R g v l w) := by
  obtain ⟨x, L1, f1, hs⟩ : ∃ x L1 f1, rd ([] : List (Int × Int)) (sList hi sVec) (l.drop k) f = (x, L1, f1) := ⟨_, _, _, rfl⟩
  have HS := Lib.hid hs
  have hw0 := h.alloc (.cells #[.int .i64 7, .int .i64 lo, .int .i64 hi] 32)
  have hb := h.by_
  have b0 : Below B w (w.alloc (.cells #[.int .i64 7, .int .i64 lo, .int .i64 hi] 32)) := (Below.refl _ _).alloc h.bw_ _
  have hxl : x.length ≤ 4611686018427387904 := by
    have h1 := sList_len eats_sVec hi (l.drop k) false
    have h2 := h.lens
    have h3 := rd_fst (z := ([] : List (Int × Int))) (s := sList hi sVec) (fun y => y.length ≤ 4611686018427387904) (by simp) (l.drop k) f (by omega)
    rw [hs] at h3
    exact h3
  clear hs
  have hw := hw0.drew
  have hne1 : w.heap.size ≠ P := by have := h.rec_.lt; omega
  have hne2 : w.heap.size ≠ R := by have := block_lt h.ref_.1; omega
  clear hw0
  go_enter Try.func11, Try.ntmps11
  go_wp2_with fail
  go_region_held3 (fun w' : World => w'.cell? (⟨w.heap.size, 1, none⟩ : Addr) = some (Value.int .i64 lo) ∧ w'.cell? (⟨w.heap.size, 2, none⟩ : Addr) = some (Value.int .i64 hi)) (first | go_keep | exact ⟨kb1, kb2⟩ | exact ⟨lb1, lb2⟩ | exact ⟨keep_below lb1 hb3, keep_below lb2 hb3⟩)
    (first
      | (go_at_call 31; ((with_reducible refine (rRing_any P g hi (l.drop k) f _ hw.rec_ hw.bys hw.lens hhi).mono ?_); rintro e w1 ⟨v1, rfl, hv1, hrec1, hg1⟩; rw [HS.out] at hv1 hrec1; (obtain ⟨A1, q1, rfl⟩ := (own_src hv1).shape); have HV1 := Lib.hid hv1; clear hv1; have hm := hw.mid hg1; have hvl := hw.vlt hg1; have HR1 := Lib.hid hrec1; have kb1 := keep_box (b := w.heap.size) (i := 1) (u := .int .i64 lo) (w := (w.alloc (.cells #[.int .i64 7, .int .i64 lo, .int .i64 hi] 32)).drew) (by simp) hg1 hne1; have kb2 := keep_box (b := w.heap.size) (i := 2) (u := .int .i64 hi) (w := (w.alloc (.cells #[.int .i64 7, .int .i64 lo, .int .i64 hi] 32)).drew) (by simp) hg1 hne1; clear hrec1))
      | (go_at_call 48; ((with_reducible refine (refRing_any R v l k f hi _ hm hb hw.lenl hhi hvl).mono ?_); rintro e w2 ⟨v2, k2, rfl, hv2, hr2, hk2, hg2⟩; rw [HS.out] at hv2 hr2 hk2; (obtain ⟨A2, q2, rfl⟩ := (own_src hv2).shape); have own1 : SrcV w2 _ x := own_src (own_row HV1.out hg2 (by have := block_lt h.ref_.1; simp; omega)); have own2 : SrcV w2 _ x := own_src hv2; clear hv2; have lb1 := keep_box kb1 hg2 hne2; have lb2 := keep_box kb2 hg2 hne2; have HR2 := Lib.hid hr2; have HK2 := Lib.hid hk2; have HG2 := Lib.hid hg2; clear hr2 hk2 hg2))
      | (go_at_call 30; ((with_reducible refine (sameV_any _ _ x x _ own1 own2 hxl hxl).mono ?_); rintro e w3 ⟨rfl, n3, rfl⟩; have hb3 := below_drewN (Below.refl w2.heap.size w2) n3; rw [show eqV x x = true from decide_eq_true rfl])))
  go_wp2
  go_ret
  have hfin := hw.step HR1.out hg1 HR2.out HK2.out HG2.out
  exact ⟨rfl, ⟨k2, f1, hfin.1.more (below_drewN (Below.refl _ _) n3)⟩, below_drewN ((b0.drew).trans hfin.2) n3⟩

set_option maxRecDepth 100000 in
set_option maxHeartbeats 1600000 in
theorem same_k8 {B P R g : Nat} {v : Value} {l : List Int} {k : Nat} {f : Bool} {w : World} (lo hi : Int) (h : SH B P R g v l k f w) :
    Calls Try.prog 11 #[.pointer (some ⟨P, 0, none⟩), .pointer (some ⟨R, 0, none⟩), .agg #[.int .i64 8, .int .i64 lo, .int .i64 hi]] w (SPost B P R g v l w) := by
  obtain ⟨x, L1, f1, hs⟩ : ∃ x L1 f1, rd (([], []) : Shp) sShape (l.drop k) f = (x, L1, f1) := ⟨_, _, _, rfl⟩
  have HS := Lib.hid hs
  have hw0 := h.alloc (.cells #[.int .i64 8, .int .i64 lo, .int .i64 hi] 32)
  have hb := h.by_
  have b0 : Below B w (w.alloc (.cells #[.int .i64 8, .int .i64 lo, .int .i64 hi] 32)) := (Below.refl _ _).alloc h.bw_ _
  have hxl : x.1.length ≤ 1000 ∧ x.2.length ≤ 1000 ∧ ∀ r ∈ x.2, r.length ≤ 1000 := by
    have h1 := shape_len (l.drop k) false (by have := h.len_; rw [List.length_drop]; omega)
    have h3 := rd_fst (z := (([], []) : Shp)) (s := sShape) (fun y => y.1.length ≤ 1000 ∧ y.2.length ≤ 1000 ∧ ∀ r ∈ y.2, r.length ≤ 1000) (by simp) (l.drop k) f h1
    rw [hs] at h3
    exact h3
  obtain ⟨x1, x2, x3⟩ := hxl
  clear hs
  have hw := hw0
  clear hw0
  go_enter Try.func11, Try.ntmps11
  go_wp2_with (first
      | (go_at_call 32; ((with_reducible refine (rShape_any P g (l.drop k) f _ hw.rec_ hw.bys hw.lens).mono ?_); rintro e w1 ⟨v1, rfl, hv1, hrec1, hg1⟩; rw [HS.out] at hv1 hrec1; (obtain ⟨oo, ho, rfl, hv11, hv12⟩ := id hv1); have HV1 := Lib.hid hv1; clear hv1; have hm := hw.mid hg1; have hvl := hw.vlt hg1; have HR1 := Lib.hid hrec1; clear hrec1))
      | (go_at_call 49; ((with_reducible refine (refShape_any R v l k f _ hm hb hw.lenl hvl).mono ?_); rintro e w2 ⟨v2, k2, rfl, hv2, hr2, hk2, hg2⟩; rw [HS.out] at hv2 hr2 hk2; (obtain ⟨oo2, ho2, rfl, hv21, hv22⟩ := id hv2); have HV2 := Lib.hid (IsShape.row HV1.out hg2 (by have := block_lt h.ref_.1; simp; omega)); clear hv2; have HR2 := Lib.hid hr2; have HK2 := Lib.hid hk2; have HG2 := Lib.hid hg2; clear hr2 hk2 hg2))
      | (go_at_call 37; ((refine (sameS_any oo ho oo2 ho2 x x _ ?_ ?_ (own_src hv21) (ownR_src hv22) x1 x2 x3 x1 x2 x3).mono ?_); (obtain ⟨_, _, e1, e2, _⟩ := HV2.out; injection e1 with e1; simp at e1; rw [e1.1]; exact own_src e2); (obtain ⟨_, _, e1, _, e2⟩ := HV2.out; injection e1 with e1; simp at e1; rw [e1.2]; exact ownR_src e2); rintro e w3 ⟨rfl, hb3⟩; rw [show eqS x x = true from decide_eq_true rfl])))
  go_ret
  have hfin := hw.step HR1.out hg1 HR2.out HK2.out HG2.out
  exact ⟨rfl, ⟨k2, f1, hfin.1.more hb3⟩, (b0.trans hfin.2).trans (hb3.mono hfin.1.bw_)⟩

set_option maxRecDepth 100000 in
set_option maxHeartbeats 1600000 in
theorem same_k9 {B P R g : Nat} {v : Value} {l : List Int} {k : Nat} {f : Bool} {w : World} (kd : Int) (lo hi : Int) (h : SH B P R g v l k f w) (n0 : (kd == 0) = false) (n1 : (kd == 1) = false) (n2 : (kd == 2) = false) (n3 : (kd == 3) = false) (n4 : (kd == 4) = false) (n5 : (kd == 5) = false) (n6 : (kd == 6) = false) (n7 : (kd == 7) = false) (n8 : (kd == 8) = false) :
    Calls Try.prog 11 #[.pointer (some ⟨P, 0, none⟩), .pointer (some ⟨R, 0, none⟩), .agg #[.int .i64 kd, .int .i64 lo, .int .i64 hi]] w (SPost B P R g v l w) := by
  obtain ⟨x, L1, f1, hs⟩ : ∃ x L1 f1, rd ((0 : Int), (0 : Int)) sVec (l.drop k) f = (x, L1, f1) := ⟨_, _, _, rfl⟩
  have HS := Lib.hid hs
  have hw0 := h.alloc (.cells #[.int .i64 kd, .int .i64 lo, .int .i64 hi] 32)
  have hb := h.by_
  have b0 : Below B w (w.alloc (.cells #[.int .i64 kd, .int .i64 lo, .int .i64 hi] 32)) := (Below.refl _ _).alloc h.bw_ _
  clear hs
  have hw := hw0
  clear hw0
  go_enter Try.func11, Try.ntmps11
  go_wp2_with (first
      | (go_at_call 39; ((with_reducible refine (rRatio_any P g (l.drop k) f _ hw.rec_ hw.bys).mono ?_); rintro e w1 ⟨v1, rfl, hv1, hrec1, hg1⟩; rw [HS.out] at hv1 hrec1; (obtain rfl : v1 = .agg #[.int .i64 x.1, .int .i64 x.2] := hv1); have hm := hw.mid hg1; have hvl := hw.vlt hg1; have HR1 := Lib.hid hrec1; clear hrec1))
      | (go_at_call 50; ((with_reducible refine (refRatio_any R v l k f _ hm hb hvl).mono ?_); rintro e w2 ⟨v2, k2, rfl, hv2, hr2, hk2, hg2⟩; rw [HS.out] at hv2 hr2 hk2; (obtain rfl : v2 = .agg #[.int .i64 x.1, .int .i64 x.2] := hv2); have HR2 := Lib.hid hr2; have HK2 := Lib.hid hk2; have HG2 := Lib.hid hg2; clear hr2 hk2 hg2)))
  go_ret
  have hfin := hw.step HR1.out hg1 HR2.out HK2.out HG2.out
  exact ⟨rfl, ⟨k2, f1, hfin.1⟩, b0.trans hfin.2⟩

end Go.Proofs.Ytfphdpcffjpbjaa.W
