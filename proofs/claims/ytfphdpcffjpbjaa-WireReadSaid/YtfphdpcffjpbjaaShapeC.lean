/-
  (*wire.cursor).shape and (*wire.Reader).Shape: a shape is read: its outer ring and its holes. Conditions: what is left are bytes, at most 2^40; the reader's block is known.
-/
import Derived.Test.YtfphdpcffjpbjaaListR
import Derived.Test.YtfphdpcffjpbjaaReadInt
namespace Go.Proofs.Ytfphdpcffjpbjaa.W
open Go.RowKit Go.Proofs.Ytfphdpcffjpbjaa.Pl

abbrev Shp := List (Int × Int) × List (List (Int × Int))
def sShape : Step Shp := fun l f => (((sRing l f).1, (sList 6 sRing (sRing l f).2.1 (sRing l f).2.2).1), (sList 6 sRing (sRing l f).2.1 (sRing l f).2.2).2.1, (sList 6 sRing (sRing l f).2.1 (sRing l f).2.2).2.2)
theorem suf_sShape : Suf sShape := fun l f => suf_trans suf_sRing (suf_sL 6 suf_sRing) l f _
def IsShape (B : Nat) (w : World) (v : Value) (s : Shp) : Prop := ∃ o h, v = .agg #[o, h] ∧ OwnV w B o s.1 ∧ OwnR w B h s.2
theorem IsShape.row {w w' : World} {B C : Nat} {v : Value} {s : Shp} (h : IsShape B w v s) (hg : w.grownBy w' (some C)) (hC : C < B) : IsShape B w' v s := by
  obtain ⟨o, hh, rfl, h1, h2⟩ := h
  exact ⟨o, hh, rfl, own_row h1 hg hC, h2.row hg hC⟩
theorem IsShape.less {w : World} {B B' : Nat} {v : Value} {s : Shp} (h : IsShape B w v s) (hB : B' ≤ B) : IsShape B' w v s := by
  obtain ⟨o, hh, rfl, h1, h2⟩ := h
  exact ⟨o, hh, rfl, own_less h1 hB, h2.less hB⟩
theorem IsShape.below {w w' : World} {B : Nat} {v : Value} {s : Shp} (h : IsShape B w v s) (hb : Below w.heap.size w w') : IsShape B w' v s := by
  obtain ⟨o, hh, rfl, h1, h2⟩ := h
  exact ⟨o, hh, rfl, own_below h1 hb, h2.below hb⟩

theorem OwnR.shape {w : World} {B : Nat} {v : Value} {rs : List (List (Int × Int))} (h : OwnR w B v rs) : ∃ A c, v = .slice A rs.length c := by
  obtain ⟨vals, h1, _⟩ := h
  exact (own_src h1).shape

set_option maxRecDepth 100000 in
set_option maxHeartbeats 800000 in
theorem shape_dec (C g : Nat) (l : List Int) (f : Bool) (w : World) (h : Rec w 107 C g l f) (hb : By l) (hl : l.length ≤ 1099511627776) :
    Calls Try.prog 72 #[.pointer (some ⟨C, 0, none⟩)] w (Dec 107 (IsShape w.heap.size) sShape w C g l f) := by
  obtain ⟨x, l1, f1, hs1⟩ : ∃ x l1 f1, sRing l f = (x, l1, f1) := ⟨_, _, _, rfl⟩
  obtain ⟨y, l2, f2, hs2⟩ : ∃ y l2 f2, sList 6 sRing l1 f1 = (y, l2, f2) := ⟨_, _, _, rfl⟩
  have hs : sShape l f = ((x, y), l2, f2) := by unfold sShape; rw [hs1]; simp only; rw [hs2]
  have hb1 : By l1 := by have := suf_sRing.by_ (f := f) hb; rw [hs1] at this; exact this
  have hl1 : l1.length ≤ 1099511627776 := by
    have h1 : l1.length ≤ l.length := by have := suf_le suf_sRing l f; rw [hs1] at this; exact this
    omega
  have hgl : l2 ≠ [] → g < w.heap.size := fun hn => by
    obtain ⟨_, _, hrr, _⟩ := id h
    refine hrr.lt_ ?_
    have := suf_sShape.ne (l := l) (f := f)
    rw [hs] at this
    exact this hn
  have hC := h.lt
  have h0 := h.below ((Below.refl _ _).alloc (Nat.le_refl _) (.cells #[.slice none 0 0, .slice none 0 0] 60))
  have HS1 := Lib.hid hs1
  have HS2 := Lib.hid hs2
  have HS := Lib.hid hs
  have HG := Lib.hid hgl
  clear hs1 hs2 hs hgl
  go_enter Try.func72, Try.ntmps72
  go_wp2_with fail
  refine (ring_dec C g 40 l f _ h0 hb hl (by omega)).mono ?_
  rintro e w1 ⟨v1, rfl, hv1, hrec1, hgr1⟩
  rw [show sList 40 sVec = sRing from rfl, HS1.out] at hv1 hrec1
  obtain ⟨A1, c1, rfl⟩ := (own_src hv1).shape
  have hsz1 := hgr1.size
  simp at hsz1
  have HV1 := Lib.hid (own_less (B' := w.heap.size + 1) hv1 (by simp))
  clear hv1
  go_wp2_with fail
  refine (listR_dec C g 6 l1 f1 _ hrec1 hb1 hl1 (by omega)).mono ?_
  rintro e w2 ⟨v2, rfl, hv2, hrec2, hgr2⟩
  rw [HS2.out] at hv2 hrec2
  obtain ⟨A2, c2, rfl⟩ := OwnR.shape hv2
  have HV2 := Lib.hid (OwnR.less (B' := w.heap.size + 1) hv2 (by omega))
  have HV1' := Lib.hid (own_row HV1.out hgr2 (by omega))
  clear hv2
  have hgr := hgr1.trans hgr2
  have hV := kept_new hgr hC
  obtain ⟨q0, q1, q2, q3⟩ := two_cell hV
  clear hV
  go_wp2
  refine bodyPost_ret (v := .agg #[.slice A1 x.length c1, .slice A2 y.length c2]) (by simp [results, Try.results72, go_sem, q0, q1]) rfl ?_
  have hst := (grown_setCell w2 w.heap.size 0 (.slice A1 x.length c1)).trans (grown_setCell (w2.setCell ⟨w.heap.size, 0, none⟩ (.slice A1 x.length c1)) w.heap.size 1 (.slice A2 y.length c2))
  exact dec_late h hgr hrec2 HS.out hst HG.out ⟨_, _, rfl, own_less (own_row HV1'.out hst (by omega)) (by omega), (OwnR.row HV2.out hst (by omega)).less (by omega)⟩

theorem dec_after {α : Type} {T : Nat} {Rv : World → Value → α → Prop} {s : Step α} {W w1 w2 : World} {R g X : Nat} {l : List Int} {f : Bool} {e : Ending} (h : Dec T Rv s W R g l f e w1) (hg : w1.grownBy w2 (some X)) (hX : W.heap.size ≤ X) (hR : R < W.heap.size)
    (hgl : (s l f).2.1 ≠ [] → g < W.heap.size) (hv : ∀ v x, Rv w1 v x → Rv w2 v x) : Dec T Rv s W R g l f e w2 := by
  obtain ⟨v, he, h1, h2, h3⟩ := h
  refine ⟨v, he, hv _ _ h1, ?_, ?_⟩
  · exact h2.keep (hg.block R h2.lt (by intro e; injection e with e; omega)) (fun hl hlt => hg.block g hlt (by intro e; injection e with e; have := hgl hl; omega))
  · exact ⟨hg.os.trans h3.os, hg.tape.trans h3.tape, hg.output.trans h3.output, Nat.le_trans h3.size hg.size,
      fun k hk hne => (hg.block k (Nat.lt_of_lt_of_le hk h3.size) (by intro e; injection e with e; omega)).trans (h3.block k hk hne)⟩
end Go.Proofs.Ytfphdpcffjpbjaa.W
