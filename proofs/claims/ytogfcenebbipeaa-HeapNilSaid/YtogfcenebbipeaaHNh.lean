/-
  Heap[int]: Sorted. Conditions: the list is read, of fewer than 2^40 elements.
-/
import Derived.Test.YtogfcenebbipeaaHNg
namespace Go.Proofs.Ytogfcenebbipeaa.W
open Go.RowKit Go.Proofs.Ytogfcenebbipeaa.Pl

theorem infoVN : (Try.prog.info? 3).map (fun i => (i.zero, i.size, i.bytes)) = some (some (.int .i64 0), 1, 8) := by kernel_rfl
/-- a row of elements that the call owns -/
def OwnVN (w : World) (B : Nat) (v : Value) (l : List (Int × Int)) : Prop := w.ownsRow B 3 1 v l.length (flat cvN l)
theorem OwnVN.nil (w : World) (B : Nat) : OwnVN w B (.slice none 0 0) [] := World.ownsRow_nil _ _ _ _
theorem OwnVN.src {w : World} {B : Nat} {v : Value} {l : List (Int × Int)} (h : OwnVN w B v l) : SrcN w v l := own_src h
theorem OwnVN.kp {S : Nat → Prop} {w w' : World} {B : Nat} {v : Value} {l : List (Int × Int)} (h : OwnVN w B v l) (hk : Kp S w w') (hv : ∀ g, v.ownBlock = some g → ¬ S g) : OwnVN w' B v l := own_kp h hk hv
theorem OwnVN.nw {w w' : World} {B : Nat} {v : Value} {l : List (Int × Int)} (h : OwnVN w B v l) (hk : Nw w w') : OwnVN w' B v l := own_nw h hk
theorem OwnVN.far {w : World} {B C H p : Nat} {v vh : Value} {l : List (Int × Int)} {q : List Ent} (h : OwnVN w B v l) (hh : HpN C w H vh q p) : ∀ k, Ft H vh k → v.ownBlock ≠ some k := by
  obtain ⟨l2, ha, _⟩ := hh
  intro k e
  rcases e with rfl | e
  · exact own_ne h ha.blk (by decide)
  · exact own_own h ha.own (by decide) k e
end Go.Proofs.Ytogfcenebbipeaa.W
