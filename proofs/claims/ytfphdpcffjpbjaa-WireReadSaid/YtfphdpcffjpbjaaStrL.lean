/-
  A text as a list of bytes. No condition.
-/
import Derived.Test.YtfphdpcffjpbjaaMem
import Derived.Lib.AppendStr
namespace Go.Proofs.Ytfphdpcffjpbjaa.W
open Go.RowKit Go.Proofs.Ytfphdpcffjpbjaa.Pl

/-- a text's bytes -/
def strL (s : ByteArray) : List Int := s.data.toList.map fun b => (b.toNat : Int)
theorem strL_length (s : ByteArray) : (strL s).length = s.size := by
  unfold strL
  rw [List.length_map, Array.length_toList]
  rfl
theorem strL_by (s : ByteArray) : By (strL s) := fun x hx => by
  obtain ⟨b, _, rfl⟩ := List.mem_map.1 hx
  have := b.toNat_lt
  omega
theorem strL_cells (s : ByteArray) : Lib.strCells s = bytes (strL s) := by
  unfold Lib.strCells bytes strL
  rw [List.map_map]
  rfl
theorem strOf_strL (s : ByteArray) : strOfNums (strL s) = s := by
  apply ByteArray.ext
  apply Array.toList_inj.1
  rw [strOfNums_data]
  unfold strL
  rw [List.map_map]
  conv => rhs; rw [← List.map_id s.data.toList]
  apply List.map_congr_left
  intro x _
  simp
theorem strL_inj {s t : ByteArray} (h : strL s = strL t) : s = t := by rw [← strOf_strL s, ← strOf_strL t, h]
theorem strL_of {l : List Int} (h : By l) : strL (strOfNums l) = l := by
  unfold strL
  rw [strOfNums_data, List.map_map]
  conv => rhs; rw [← List.map_id l]
  apply List.map_congr_left
  intro x hx
  have := h x hx
  simp
  omega
end Go.Proofs.Ytfphdpcffjpbjaa.W
