/-
  fretsawlaw01.same: what holds ahead of the call and behind it. Conditions: what is read are bytes, at most 900; both readers' blocks are known, and have the same bytes left.
-/
import Derived.Test.YtfphdpcffjpbjaaRefShape
import Derived.Test.YtfphdpcffjpbjaaRefRatio
import Derived.Test.YtfphdpcffjpbjaaRatR
import Derived.Test.YtfphdpcffjpbjaaVecR
import Derived.Test.YtfphdpcffjpbjaaSameS
import Derived.Test.YtfphdpcffjpbjaaReads
import Derived.Deep.RegionHeld3
namespace Go.Proofs.Ytfphdpcffjpbjaa.W
open Go.RowKit Go.Proofs.Ytfphdpcffjpbjaa.Pl

/-- the program's reader at P (its bytes in g) and the reference's at R have the same bytes left -/
structure SH (B P R g : Nat) (v : Value) (l : List Int) (k : Nat) (f : Bool) (w : World) : Prop where
  rec_ : Rec w 79 P g (l.drop k) f
  ref_ : RefR w R v l k f
  by_ : By l
  cap_ : Cap v l.length
  len_ : l.length ≤ 900
  vb_ : ∀ j, v.ownBlock = some j → j < B
  bp_ : B ≤ P
  br_ : B ≤ R
  bw_ : B ≤ w.heap.size
  pr_ : P ≠ R
  gr_ : g ≠ R

def SPost (B P R g : Nat) (v : Value) (l : List Int) (w : World) (e : Ending) (w' : World) : Prop := e = .returned (.bool true) ∧ (∃ k' f', SH B P R g v l k' f' w') ∧ Below B w w'

theorem below_less {B B' : Nat} {w w' : World} (h : Below B w w') (hB : B' ≤ B) : Below B' w w' := h.mono hB

variable {B P R g : Nat} {v : Value} {l : List Int} {k : Nat} {f : Bool} {w : World}

theorem SH.more (h : SH B P R g v l k f w) {w' : World} (hb : Below w.heap.size w w') : SH B P R g v l k f w' :=
  ⟨h.rec_.below hb, h.ref_.below hb, h.by_, h.cap_, h.len_, h.vb_, h.bp_, h.br_, Nat.le_trans h.bw_ hb.size, h.pr_, h.gr_⟩
theorem SH.alloc (h : SH B P R g v l k f w) (o : Obj) : SH B P R g v l k f (w.alloc o) := h.more ((Below.refl _ _).alloc (Nat.le_refl _) o)
theorem SH.drew (h : SH B P R g v l k f w) : SH B P R g v l k f w.drew := ⟨h.rec_, h.ref_, h.by_, h.cap_, h.len_, h.vb_, h.bp_, h.br_, h.bw_, h.pr_, h.gr_⟩
theorem SH.bys (h : SH B P R g v l k f w) : By (l.drop k) := h.by_.drop k
theorem SH.lens (h : SH B P R g v l k f w) : (l.drop k).length ≤ 1099511627776 := by
  have := h.len_
  rw [List.length_drop]
  omega
theorem SH.lenl (h : SH B P R g v l k f w) : l.length ≤ 1099511627776 := by have := h.len_; omega
theorem SH.mid (h : SH B P R g v l k f w) {w1 : World} (hg : w.grownBy w1 (some P)) : RefR w1 R v l k f :=
  h.ref_.grown hg (fun e => h.pr_ (by injection e)) (by
    cases hq : v.ownBlock with
    | none => exact .inl rfl
    | some j => exact .inr (fun e => by injection e with e; have := h.vb_ j hq; have := h.bp_; omega))
theorem SH.vlt (h : SH B P R g v l k f w) {w1 : World} (hg : w.grownBy w1 (some P)) : ∀ j, v.ownBlock = some j → j < w1.heap.size := fun j hj => by
  have := h.vb_ j hj
  have := h.bw_
  have := hg.size
  omega
theorem grown_Below {w w1 : World} {B X : Nat} (h : w.grownBy w1 (some X)) (hX : B ≤ X) (hB : B ≤ w.heap.size) : Below B w w1 := (Below.refl B w).grown h hB (by intro j hj; injection hj with hj; omega)
theorem SH.step (h : SH B P R g v l k f w) {w1 w2 : World} {L : List Int} {f' : Bool} {k' : Nat} (hrec : Rec w1 79 P g L f') (hg1 : w.grownBy w1 (some P)) (hr2 : RefR w2 R v l k' f') (hk : l.drop k' = L) (hg2 : w1.grownBy w2 (some R)) :
    SH B P R g v l k' f' w2 ∧ Below B w w2 := by
  subst hk
  have h1 := hg1.size
  have h2 := hg2.size
  have h3 := h.bw_
  refine ⟨⟨hrec.grown hg2 (fun e => h.pr_ (by injection e with e; exact e.symm)) (fun e => h.gr_ (by injection e with e; exact e.symm)), hr2, h.by_, h.cap_, h.len_, h.vb_, h.bp_, h.br_, by omega, h.pr_, h.gr_⟩, (grown_Below hg1 h.bp_ h3).trans (grown_Below hg2 h.br_ (by omega))⟩
/-- two cells of a block that was laid ahead of a call -/
theorem keep_box {w w1 : World} {b X i : Nat} {u : Value} (h : w.cell? ⟨b, i, none⟩ = some u) (hg : w.grownBy w1 (some X)) (hne : b ≠ X) : w1.cell? ⟨b, i, none⟩ = some u :=
  hg.cell (a := ⟨b, i, none⟩) h (fun e => hne (by injection e))
theorem keep_below {w w1 : World} {b i : Nat} {u : Value} (h : w.cell? ⟨b, i, none⟩ = some u) (hb : Below w.heap.size w w1) : w1.cell? ⟨b, i, none⟩ = some u :=
  (hb.cell (p := ⟨b, i, none⟩) (World.block_lt_of_cell? w _ h)).trans h

theorem ownR_src {w : World} {B : Nat} {v : Value} {rs : List (List (Int × Int))} (h : OwnR w B v rs) : SrcR w v rs := by
  obtain ⟨vals, h1, _, h3⟩ := h
  exact ⟨vals, own_src h1, fun i u r hu hr => own_src (h3 i u r hu hr)⟩

theorem loopL_len {α : Type} {s : Step α} (hE : Eats s) : ∀ (n : Nat) (acc : List α) (L : List Int) (f : Bool), (loopL s n acc L f).1.length ≤ acc.length + L.length + 1
  | 0, acc, L, f => by simp only [loopL]; omega
  | n + 1, acc, L, f => by
    cases f with
    | true => rw [loopL_failed]; simp only; omega
    | false =>
      rw [loopL_step s (by omega : 0 < n + 1)]
      cases hq : (s L false).2.2 with
      | true => rw [loopL_failed]; simp
      | false =>
        have h1 := loopL_len hE (n + 1 - 1) (acc ++ [(s L false).1]) (s L false).2.1 false
        have h2 := hE L hq
        simp at h1
        simp only [Nat.add_sub_cancel]
        omega
theorem loopL_mem {α : Type} {s : Step α} (hS : Suf s) : ∀ (n : Nat) (acc : List α) (L : List Int) (f : Bool), ∀ r ∈ (loopL s n acc L f).1, r ∈ acc ∨ ∃ L' f', L'.length ≤ L.length ∧ r = (s L' f').1
  | 0, acc, L, f, r, h => .inl h
  | n + 1, acc, L, f, r, h => by
    cases f with
    | true => rw [loopL_failed] at h; exact .inl h
    | false =>
      rw [loopL_step s (by omega : 0 < n + 1)] at h
      rcases loopL_mem hS (n + 1 - 1) _ _ _ r h with h | ⟨L', f', h1, h2⟩
      · rcases List.mem_append.1 h with h | h
        · exact .inl h
        · simp at h
          exact .inr ⟨L, false, Nat.le_refl _, h⟩
      · exact .inr ⟨L', f', Nat.le_trans h1 (suf_le hS L false), h2⟩
theorem sList_len {α : Type} {s : Step α} (hE : Eats s) (max : Int) (L : List Int) (f : Bool) : (sList max s L f).1.length ≤ L.length + 1 := by
  have h1 := loopL_len hE (sBounded 0 max L f).1.toNat [] (sBounded 0 max L f).2.1 (sBounded 0 max L f).2.2
  have h2 := suf_le (suf_sBounded 0 max) L f
  unfold sList
  simp at h1
  omega
theorem rd_fst {α : Type} {z : α} {s : Step α} (p : α → Prop) (hz : p z) (L : List Int) (f : Bool) (h : p (s L false).1) : p (rd z s L f).1 := by
  unfold rd
  split
  · exact hz
  · split
    · exact hz
    · exact h
theorem shape_len (L : List Int) (f : Bool) (hL : L.length ≤ 900) : (sShape L f).1.1.length ≤ 1000 ∧ (sShape L f).1.2.length ≤ 1000 ∧ ∀ r ∈ (sShape L f).1.2, r.length ≤ 1000 := by
  have h1 := sList_len eats_sVec 40 L f
  have h2 := sList_len eats_sRing 6 (sRing L f).2.1 (sRing L f).2.2
  have h3 := suf_le suf_sRing L f
  refine ⟨?_, ?_, fun r hr => ?_⟩
  · show (sRing L f).1.length ≤ 1000
    unfold sRing
    omega
  · show (sList 6 sRing (sRing L f).2.1 (sRing L f).2.2).1.length ≤ 1000
    omega
  · have hr : r ∈ (sList 6 sRing (sRing L f).2.1 (sRing L f).2.2).1 := hr
    unfold sList at hr
    rcases loopL_mem suf_sRing _ _ _ _ r hr with h | ⟨L', f', h4, rfl⟩
    · cases h
    · have h5 := sList_len eats_sVec 40 L' f'
      have h6 := suf_le (suf_sBounded 0 6) (sRing L f).2.1 (sRing L f).2.2
      show (sRing L' f').1.length ≤ 1000
      unfold sRing
      omega
end Go.Proofs.Ytfphdpcffjpbjaa.W
