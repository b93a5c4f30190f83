/-
  A string of one byte that has just been laid. No condition.
-/
import Derived.Test.YtggdblmjnbnddaaDoorLSh
import Derived.Laws.BytesString
namespace Go.Proofs.YtggdblmjnbnddaaDoor.W
open Go.RowKit Go.Proofs.YtggdblmjnbnddaaDoor.Pl

theorem conv_new (w : World) (x : Nat) :
    (convert 41 9 (.slice (some ⟨w.heap.size, 0, none⟩) 1 1)).run Tryd.prog (w.alloc (.cells #[.int .u8 (x : Int)] 5)) = .ok (.string (tx [UInt8.ofNat x])) (w.alloc (.cells #[.int .u8 (x : Int)] 5)) := by
  have hld : (loadCells ⟨w.heap.size, 0, none⟩ 1).run Tryd.prog (w.alloc (.cells #[.int .u8 (x : Int)] 5)) = .ok ([(x : Int)].map (Value.int .u8)).toArray (w.alloc (.cells #[.int .u8 (x : Int)] 5)) :=
    run_loadCells_list (P := Tryd.prog) (w.alloc (.cells #[.int .u8 (x : Int)] 5)) ⟨w.heap.size, 0, none⟩ [.int .u8 (x : Int)] (cells_new w [.int .u8 (x : Int)] 5)
  rw [run_convert_bytes_string _ _ _ _ (some ⟨w.heap.size, 0, none⟩) 1 1 Tryd.underlying41 Tryd.underlying5 Tryd.underlying9, run_bytesToString _ _ 1 1 [(x : Int)] hld]
  congr 2
theorem tx_app (l m : List UInt8) : tx l ++ tx m = tx (l ++ m) := by
  rw [← tx_of (tx l ++ tx m)]
  congr 1
theorem tx_ap1 (l : List UInt8) (b : Array UInt8) : tx l ++ (ByteArray.mk b) = tx (l ++ b.toList) := by
  have e : ByteArray.mk b = tx b.toList := by unfold tx; rw [Array.toArray_toList]
  rw [e, tx_app]
theorem tx_ap2 (b : Array UInt8) (l : List UInt8) : (ByteArray.mk b) ++ tx l = tx (b.toList ++ l) := by
  have e : ByteArray.mk b = tx b.toList := by unfold tx; rw [Array.toArray_toList]
  rw [e]
  rw [← tx_of (tx b.toList ++ tx l)]
  congr 1
end Go.Proofs.YtggdblmjnbnddaaDoor.W
