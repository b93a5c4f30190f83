/-
  awake: the examples of the document. No condition.
-/
import Derived.Test.YtggdblmjnbnddaaDoorLSm
namespace Go.Proofs.YtggdblmjnbnddaaDoor.W
open Go.RowKit Go.Proofs.YtggdblmjnbnddaaDoor.Pl

theorem toks_one : toks [112, 97, 114, 116, 32, 97, 32, 123, 32, 45, 49, 50, 32, 125] = ([⟨1, [112, 97, 114, 116], 0, 0⟩, ⟨1, [97], 0, 5⟩, ⟨3, [123], 0, 7⟩, ⟨2, [], -12, 9⟩, ⟨3, [125], 0, 13⟩], 0, 0) := by decide +kernel
theorem toks_two : toks [97, 32, 49, 98] = ([], 2, 3) := by decide +kernel

set_option maxRecDepth 100000 in
set_option maxHeartbeats 3200000 in
theorem awake_any (w : World) : Calls Tryd.prog 10 #[] w fun e w' => e = .returned (.bool true) ∧ Nw w w' := by
  have h1 : ∀ w1 : World, Calls Tryd.prog 11 #[.string { data := #[112, 97, 114, 116, 32, 97, 32, 123, 32, 45, 49, 50, 32, 125] }] w1 fun e w' => ∃ v, e = .returned (.tuple #[v, .int .i64 0, .int .i64 0]) ∧ OwnTk w' w1.heap.size v [⟨1, [112, 97, 114, 116], 0, 0⟩, ⟨1, [97], 0, 5⟩, ⟨3, [123], 0, 7⟩, ⟨2, [], -12, 9⟩, ⟨3, [125], 0, 13⟩] ∧ Nw w1 w' := fun w1 => by
    have := tokens_any [112, 97, 114, 116, 32, 97, 32, 123, 32, 45, 49, 50, 32, 125] w1 (by decide)
    rw [toks_one] at this
    exact this
  have h2 : ∀ w1 : World, Calls Tryd.prog 11 #[.string { data := #[97, 32, 49, 98] }] w1 fun e w' => ∃ v, e = .returned (.tuple #[v, .int .i64 2, .int .i64 3]) ∧ OwnTk w' w1.heap.size v [] ∧ Nw w1 w' := fun w1 => by
    have := tokens_any [97, 32, 49, 98] w1 (by decide)
    rw [toks_two] at this
    exact this
  go_enter Tryd.func10, Tryd.ntmps10
  go_wp2_with fail
  refine (h1 _).mono ?_
  rintro e w1 ⟨v1, rfl, hown1, hnw1⟩
  obtain ⟨g, cap, hv1, hc1, hc2, hc3⟩ := own_form hown1 (by decide)
  subst hv1
  have HO1 := Lib.hid (OwnTk.src hown1)
  have HN1 := Lib.hid hnw1
  clear hown1 hnw1 h1
  go_wp2_with fail
  refine (h2 _).mono ?_
  rintro e w2 ⟨v2, rfl, hown2, hnw2⟩
  clear hown2 h2
  have HN2 := Lib.hid hnw2
  obtain ⟨a0, a1, a2, a3⟩ := ((HO1.out).nw hnw2).at_ rfl (i := 3) (x := ⟨2, [], -12, 9⟩) rfl
  obtain ⟨_, _, _, b3⟩ := ((HO1.out).nw hnw2).at_ rfl (i := 4) (x := ⟨3, [125], 0, 13⟩) rfl
  clear hnw2
  have c0 : w2.cell? ⟨g, 12, none⟩ = some (.int .i64 2) := a0
  have c1 : w2.cell? ⟨g, 13, none⟩ = some (.string { data := #[] }) := a1
  have c2 : w2.cell? ⟨g, 14, none⟩ = some (.int .i64 (-12)) := a2
  have c3 : w2.cell? ⟨g, 15, none⟩ = some (.int .i64 9) := a3
  have d3 : w2.cell? ⟨g, 19, none⟩ = some (.int .i64 13) := b3
  have hc1' : 5 ≤ cap := hc1
  clear a0 a1 a2 a3 b3 hc1
  go_wp2_with fail
  go_ret
  exact ⟨rfl, HN1.out.tr HN2.out⟩
end Go.Proofs.YtggdblmjnbnddaaDoor.W
