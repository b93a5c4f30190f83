/-
  Heap[fretsaw/fretsawref03.Item]: Sorted. Conditions: the list is read, of fewer than 2^40 elements.
-/
import Derived.Test.YtogfcenebbipeaaHIg
namespace Go.Proofs.Ytogfcenebbipeaa.W
open Go.RowKit Go.Proofs.Ytogfcenebbipeaa.Pl

theorem infoVI : (Try.prog.info? 27).map (fun i => (i.zero, i.size, i.bytes)) = some (some (.agg #[.int .i64 0, .int .i64 0]), 2, 16) := by kernel_rfl
/-- a row of elements that the call owns -/
def OwnVI (w : World) (B : Nat) (v : Value) (l : List (Int × Int)) : Prop := w.ownsRow B 27 2 v l.length (flat cvI l)
theorem OwnVI.nil (w : World) (B : Nat) : OwnVI w B (.slice none 0 0) [] := World.ownsRow_nil _ _ _ _
theorem OwnVI.src {w : World} {B : Nat} {v : Value} {l : List (Int × Int)} (h : OwnVI w B v l) : SrcI w v l := own_src h
theorem OwnVI.kp {S : Nat → Prop} {w w' : World} {B : Nat} {v : Value} {l : List (Int × Int)} (h : OwnVI w B v l) (hk : Kp S w w') (hv : ∀ g, v.ownBlock = some g → ¬ S g) : OwnVI w' B v l := own_kp h hk hv
theorem OwnVI.nw {w w' : World} {B : Nat} {v : Value} {l : List (Int × Int)} (h : OwnVI w B v l) (hk : Nw w w') : OwnVI w' B v l := own_nw h hk
theorem OwnVI.far {w : World} {B C H p : Nat} {v vh : Value} {l : List (Int × Int)} {q : List Ent} (h : OwnVI w B v l) (hh : HpI C w H vh q p) : ∀ k, Ft H vh k → v.ownBlock ≠ some k := by
  obtain ⟨l2, ha, _⟩ := hh
  intro k e
  rcases e with rfl | e
  · exact own_ne h ha.blk (by decide)
  · exact own_own h ha.own (by decide) k e
end Go.Proofs.Ytogfcenebbipeaa.W
