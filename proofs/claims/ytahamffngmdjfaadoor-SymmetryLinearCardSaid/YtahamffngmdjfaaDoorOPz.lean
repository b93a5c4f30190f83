/-
  ring, plain: lists of points by index, turns, areas, edges; no program. No condition.
-/
import Derived.Test.YtahamffngmdjfaaDoorVR
namespace Go.Proofs.YtahamffngmdjfaaDoor.G
open Go.RowKit Go.Proofs.YtahamffngmdjfaaDoor.V Go.Proofs.YtahamffngmdjfaaDoor.W

abbrev Pt := Int × Int
abbrev Ed := Pt × Pt
def at_ (l : List Pt) (i : Nat) : Pt := l.getD i (0, 0)
theorem at_of {l : List Pt} {i : Nat} {p : Pt} (h : l[i]? = some p) : at_ l i = p := by unfold at_; rw [List.getD_eq_getElem?_getD, h]; rfl
theorem at_some {l : List Pt} {i : Nat} (h : i < l.length) : l[i]? = some (at_ l i) := by
  unfold at_
  rw [List.getD_eq_getElem?_getD, List.getElem?_eq_getElem h]
  rfl
theorem at_mem {l : List Pt} {i : Nat} (h : i < l.length) : at_ l i ∈ l := List.mem_of_getElem? (at_some h)
def turnP (a b c : Pt) : Int := turnV a.1 a.2 b.1 b.2 c.1 c.2
def crossP (a b : Pt) : Int := crossV a.1 a.2 b.1 b.2
def allTo (n : Nat) (p : Nat → Bool) : Bool := (List.range n).all p
theorem allTo_iff {n : Nat} {p : Nat → Bool} : allTo n p = true ↔ ∀ i, i < n → p i = true := by simp [allTo]
theorem allTo_not {n i : Nat} {p : Nat → Bool} (hi : i < n) (h : p i = false) : allTo n p = false := by
  rw [← Bool.not_eq_true, allTo_iff]
  intro hh
  rw [hh i hi] at h
  cases h
def turnI (l : List Pt) (i : Nat) : Int := turnP (at_ l ((i + l.length - 1) % l.length)) (at_ l i) (at_ l ((i + 1) % l.length))
def wOk (p : Pt) : Bool := withinV p.1 p.2 2000
def allW (l : List Pt) : Bool := allTo l.length fun i => wOk (at_ l i)
def turnsP (l : List Pt) : Bool := allTo l.length fun i => !(turnI l i == 0)
def areaTo (l : List Pt) : Nat → Int
  | 0 => 0
  | k + 1 => w64 (areaTo l k + crossP (at_ l k) (at_ l ((k + 1) % l.length)))
def areaP (l : List Pt) : Int := areaTo l l.length
def edgeP (l : List Pt) (i : Nat) : Ed := (at_ l i, at_ l ((i + 1) % l.length))
def edgesP (l : List Pt) : List Ed := if l.length < 2 then [] else (List.range l.length).map (edgeP l)
def apartE (e f : Ed) : Bool := decide (max e.1.1 e.2.1 < min f.1.1 f.2.1) || decide (max f.1.1 f.2.1 < min e.1.1 e.2.1) || decide (max e.1.2 e.2.2 < min f.1.2 f.2.2) || decide (max f.1.2 f.2.2 < min e.1.2 e.2.2)
theorem edges_len {l : List Pt} : (edgesP l).length = if l.length < 2 then 0 else l.length := by unfold edgesP; split <;> simp
theorem edges_at {l : List Pt} {i : Nat} (h2 : ¬ l.length < 2) (hi : i < l.length) : (edgesP l)[i]? = some (edgeP l i) := by
  unfold edgesP
  rw [if_neg h2, List.getElem?_map, List.getElem?_range hi]
  rfl
end Go.Proofs.YtahamffngmdjfaaDoor.G
