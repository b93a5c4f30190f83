/-
  fretsawlaw02.awake: the document's examples hold. No condition.
-/
import Derived.Test.YtgiogocclkkkhaaDSeal
import Derived.Test.YtgiogocclkkkhaaSame
namespace Go.Proofs.Ytgiogocclkkkhaa.W
open Go.RowKit Go.Proofs.Ytgiogocclkkkhaa.Pl

theorem srcNil (W : World) (size : Nat) : Src W size (.slice none 0 0) 0 [] := ⟨(Nat.zero_mul size).symm, none, 0, rfl, fun hn => absurd hn (Nat.lt_irrefl 0)⟩
theorem by01 : By [0, 0, 0, 0, 0, 0, 0, 1] := fun x hx => by
  simp at hx
  omega
theorem sealNil : sealL [] = [0, 0, 0, 0, 0, 0, 0, 1] := by decide
theorem hexOne : strOfNums (hexL 1) = (⟨#[48, 48, 48, 48, 48, 48, 48, 48, 48, 48, 48, 48, 48, 48, 48, 49]⟩ : ByteArray) := by decide

set_option maxRecDepth 100000 in
set_option maxHeartbeats 800000 in
theorem awake2_any (w : World) : Calls Try.prog 18 #[] w fun e w' => e = .returned (.bool true) ∧ Below w.heap.size w w' := by
  have hn : ([] : List Int).length ≤ 4611686018427387904 := Nat.zero_le _
  have hn2 : ([] : List Int).length ≤ 100000 := Nat.zero_le _
  go_enter Try.func18, Try.ntmps18
  go_wp2_with (first
    | (go_at_call 20; ((with_reducible refine (of_any _ [] _ (srcNil _ _) By.nil hn).mono ?_); rintro e w' ⟨rfl, rfl⟩; rw [sum_nil]))
    | (go_at_call 31; ((with_reducible refine (digits_any 1 _ u64_1).mono ?_); rintro e w1 ⟨rfl, hb1⟩; rw [hexOne]))
    | (go_at_call 27; ((with_reducible refine (seal_any _ [] _ (srcNil _ _) By.nil hn2).mono ?_); rintro e w2 ⟨v2, rfl, own2, hb2⟩; rw [sealNil] at own2))
    | (go_at_call 26; ((with_reducible refine (same_true _ _ [0, 0, 0, 0, 0, 0, 0, 1] _ ?_ ?_ by01).mono ?_); exact own2.src.alloc _; exact Src.lit w2 [0, 0, 0, 0, 0, 0, 0, 1] (by decide); rintro e w3 ⟨rfl, rfl⟩)))
  go_ret
  exact ⟨rfl, (hb1.trans (hb2.mono hb1.size)).alloc (Nat.le_trans hb1.size hb2.size) _⟩
end Go.Proofs.Ytgiogocclkkkhaa.W
