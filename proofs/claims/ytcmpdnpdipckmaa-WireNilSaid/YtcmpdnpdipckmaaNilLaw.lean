/-
  fretsawlaw01.WireNil returns true for every argument, and its argument reads behind the call as it read before. No condition.
-/
import Derived.Test.YtcmpdnpdipckmaaRows
import Derived.Test.YtcmpdnpdipckmaaNil
import Derived.ProofKit
import Derived.OpenShut
import Derived.Lib.SmallJoins
namespace Go.Proofs.Ytcmpdnpdipckmaa.W
open Go.RowKit Go.Proofs.Ytcmpdnpdipckmaa.Pl

theorem nilVecs (w : World) : Calls Try.prog 30 #[.slice none 0 0, .slice none 0 0] w fun e w' => e = .returned (.bool true) ∧ w = w' := by
  go_enter Try.func30, Try.ntmps30
  go_wp2
  refine wp_loop_rounds 1 ?_
  rw [rounds_succ]
  go_wp2
  go_ret
  exact ⟨rfl, rfl⟩
theorem nilRings (w : World) : Calls Try.prog 74 #[.slice none 0 0, .slice none 0 0] w fun e w' => e = .returned (.bool true) ∧ w = w' := by
  go_enter Try.func74, Try.ntmps74
  go_wp2
  refine wp_loop_rounds 1 ?_
  rw [rounds_succ]
  go_wp2
  go_ret
  exact ⟨rfl, rfl⟩

set_option maxRecDepth 100000 in
set_option maxHeartbeats 400000 in
theorem nilShapes (w : World) : Calls Try.prog 37 #[.agg #[.slice none 0 0, .slice none 0 0], .agg #[.slice none 0 0, .slice none 0 0]] w fun e w' => e = .returned (.bool true) ∧ Below w.heap.size w w' := by
  go_enter Try.func37, Try.ntmps37
  go_wp2_with (first | (go_at_call 30; refine (nilVecs _).mono ?_; rintro e w' ⟨rfl, rfl⟩) | (go_at_call 74; refine (nilRings _).mono ?_; rintro e w' ⟨rfl, rfl⟩))
  go_ret
  exact ⟨rfl, by repeat (first | exact Below.refl _ _ | apply Below.drew | refine Below.alloc ?_ (by simp) _)⟩

/-- the struct's cells are there in a later world -/
theorem three_keep {w w' : World} {x y z : Value} {T : Nat} (hb : Below (w.alloc (.cells #[x, y, z] T)).heap.size (w.alloc (.cells #[x, y, z] T)) w') :
    w'.cell? ⟨w.heap.size, 1, none⟩ = some y ∧ w'.cell? ⟨w.heap.size, 2, none⟩ = some z := by
  have c1 := hb.cell (p := ⟨w.heap.size, 1, none⟩) (by simp)
  have c2 := hb.cell (p := ⟨w.heap.size, 2, none⟩) (by simp)
  simp at c1 c2
  exact ⟨c1, c2⟩

set_option maxRecDepth 100000 in
set_option maxHeartbeats 1000000 in
theorem nilLaw_walk (k lo hi : Int) (w : World) : Calls Try.prog 8 #[.agg #[.int .i64 k, .int .i64 lo, .int .i64 hi]] w fun e w' => e = .returned (.bool true) ∧ Below w.heap.size w w' := by
  go_enter Try.func8, Try.ntmps8
  go_wp2_with fail
  refine (awake_any _).mono ?_
  rintro e w0 ⟨rfl, B⟩
  obtain ⟨c1, c2⟩ := three_keep B
  go_wp2_with fail
  refine (nilInt _).mono ?_
  rintro e w1 ⟨rfl, hb⟩
  replace B := B.trans (hb.mono B.size)
  clear hb c1 c2
  obtain ⟨c1, c2⟩ := three_keep B
  go_wp2_with fail
  refine (nilBounded lo hi _).mono ?_
  rintro e w1 ⟨rfl, hb⟩
  replace B := B.trans (hb.mono B.size)
  clear hb c1 c2
  obtain ⟨c1, c2⟩ := three_keep B
  go_wp2_with fail
  refine (nilBool _).mono ?_
  rintro e w1 ⟨rfl, hb⟩
  replace B := B.trans (hb.mono B.size)
  clear hb c1 c2
  obtain ⟨c1, c2⟩ := three_keep B
  go_wp2_with fail
  refine (nilText hi _).mono ?_
  rintro e w1 ⟨rfl, hb⟩
  replace B := B.trans (hb.mono B.size)
  clear hb c1 c2
  obtain ⟨c1, c2⟩ := three_keep B
  go_wp2_with fail
  refine (nilBytes hi _).mono ?_
  rintro e w1 ⟨rfl, hb⟩
  replace B := B.trans (hb.mono B.size)
  clear hb c1 c2
  obtain ⟨c1, c2⟩ := three_keep B
  go_wp2_with fail
  refine (nilInts hi _).mono ?_
  rintro e w1 ⟨rfl, hb⟩
  replace B := B.trans (hb.mono B.size)
  clear hb c1 c2
  obtain ⟨c1, c2⟩ := three_keep B
  go_wp2_with fail
  refine (nilVec _).mono ?_
  rintro e w1 ⟨rfl, hb⟩
  replace B := B.trans (hb.mono B.size)
  clear hb c1 c2
  obtain ⟨c1, c2⟩ := three_keep B
  go_wp2_with fail
  refine (nilRing hi _).mono ?_
  rintro e w1 ⟨rfl, hb⟩
  replace B := B.trans (hb.mono B.size)
  clear hb c1 c2
  obtain ⟨c1, c2⟩ := three_keep B
  go_wp2_with fail
  refine (nilShape _).mono ?_
  rintro e w1 ⟨rfl, hb⟩
  replace B := B.trans (hb.mono B.size)
  clear hb c1 c2
  obtain ⟨c1, c2⟩ := three_keep B
  go_wp2_with fail
  refine (nilShapes _).mono ?_
  rintro e w1 ⟨rfl, hb⟩
  replace B := B.trans (hb.mono B.size)
  clear hb c1 c2
  obtain ⟨c1, c2⟩ := three_keep B
  go_wp2_with fail
  refine (nilRatio _).mono ?_
  rintro e w1 ⟨rfl, hb⟩
  replace B := B.trans (hb.mono B.size)
  clear hb c1 c2
  obtain ⟨c1, c2⟩ := three_keep B
  go_wp2_with fail
  refine (nilLeft _).mono ?_
  rintro e w1 ⟨rfl, hb⟩
  replace B := B.trans (hb.mono B.size)
  clear hb c1 c2
  obtain ⟨c1, c2⟩ := three_keep B
  go_wp2_with fail
  refine (nilEnd _).mono ?_
  rintro e w1 ⟨rfl, hb⟩
  replace B := B.trans (hb.mono B.size)
  clear hb c1 c2
  obtain ⟨c1, c2⟩ := three_keep B
  go_wp2_with fail
  go_ret
  exact ⟨rfl, ((Below.refl _ _).alloc (Nat.le_refl _) _).trans (B.mono (by simp))⟩
end Go.Proofs.Ytcmpdnpdipckmaa.W
