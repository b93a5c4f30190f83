/-
  vec, plain: where a vector is inserted. No condition.
-/
import Derived.Test.YtahamffngmdjfaaVPt
namespace Go.Proofs.Ytahamffngmdjfaa.W
open Go.RowKit Go.Proofs.Ytahamffngmdjfaa.V

theorem place_le (x : Int × Int) : ∀ l : List (Int × Int), place x l ≤ l.length
  | [] => Nat.le_refl 0
  | y :: r => by
    have := place_le x r
    rw [place]
    split
    · simp; omega
    · simp
theorem place_lt {x : Int × Int} : ∀ {l : List (Int × Int)} {q : Nat}, q < place x l → ∃ y, l[q]? = some y ∧ lessV y.1 y.2 x.1 x.2 = true
  | [], q, h => absurd h (Nat.not_lt_zero q)
  | y :: r, q, h => by
    rw [place] at h
    split at h
    · rename_i hy
      cases q with
      | zero => exact ⟨y, rfl, hy⟩
      | succ q =>
        obtain ⟨z, hz, hl⟩ := place_lt (x := x) (l := r) (q := q) (by omega)
        exact ⟨z, by simpa using hz, hl⟩
    · exact absurd h (Nat.not_lt_zero q)
theorem place_at {x : Int × Int} : ∀ {l : List (Int × Int)}, place x l < l.length → ∃ y, l[place x l]? = some y ∧ lessV y.1 y.2 x.1 x.2 = false
  | [], h => absurd h (Nat.not_lt_zero _)
  | y :: r, h => by
    by_cases hy : lessV y.1 y.2 x.1 x.2 = true
    · have hp : place x (y :: r) = place x r + 1 := if_pos hy
      rw [hp] at h ⊢
      obtain ⟨z, hz, hl⟩ := place_at (l := r) (x := x) (by simpa using h)
      exact ⟨z, by simpa using hz, hl⟩
    · have hp : place x (y :: r) = 0 := if_neg hy
      rw [hp]
      exact ⟨y, rfl, by simpa using hy⟩
theorem insU_len (out : List (Int × Int)) (x : Int × Int) : (insU out x).length ≤ out.length + 1 := by
  have := place_le x out
  unfold insU
  split
  · omega
  · simp
    omega
theorem ins_take {l : List (Int × Int)} {k : Nat} {x : Int × Int} (h : l[k]? = some x) : insAll (l.take (k + 1)) = insU (insAll (l.take k)) x := by
  unfold insAll
  rw [List.take_add_one, h, Option.toList_some, List.foldl_append]
  rfl
end Go.Proofs.Ytahamffngmdjfaa.W
