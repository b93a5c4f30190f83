/-
  vec, plain: a list that is rid of equal neighbours from its end; no program. No condition.
-/
import Derived.Test.YtahamffngmdjfaaVPs
namespace Go.Proofs.Ytahamffngmdjfaa.W
open Go.RowKit Go.Proofs.Ytahamffngmdjfaa.V

theorem dd_two : ∀ (l : List (Int × Int)) (x y : Int × Int), dd (l ++ [x, y]) = if x = y then dd (l ++ [x]) else dd (l ++ [x]) ++ [y]
  | [], x, y => by
    show dd [x, y] = if x = y then dd [x] else dd [x] ++ [y]
    unfold dd
    split
    · rename_i h
      subst h
      rfl
    · rfl
  | [a], x, y => by
    have ih := dd_two [] x y
    show dd (a :: x :: [y]) = if x = y then dd (a :: x :: []) else dd (a :: x :: []) ++ [y]
    have e1 : dd (a :: x :: [y]) = if a = x then dd (x :: [y]) else a :: dd (x :: [y]) := rfl
    have e2 : dd (a :: x :: []) = if a = x then dd (x :: []) else a :: dd (x :: []) := rfl
    have ih : dd (x :: [y]) = if x = y then dd (x :: []) else dd (x :: []) ++ [y] := ih
    rw [e1, e2, ih]
    split <;> split <;> rfl
  | a :: b :: r, x, y => by
    have ih : dd (b :: (r ++ [x, y])) = if x = y then dd (b :: (r ++ [x])) else dd (b :: (r ++ [x])) ++ [y] := dd_two (b :: r) x y
    show dd (a :: b :: (r ++ [x, y])) = if x = y then dd (a :: b :: (r ++ [x])) else dd (a :: b :: (r ++ [x])) ++ [y]
    have e1 : dd (a :: b :: (r ++ [x, y])) = if a = b then dd (b :: (r ++ [x, y])) else a :: dd (b :: (r ++ [x, y])) := rfl
    have e2 : dd (a :: b :: (r ++ [x])) = if a = b then dd (b :: (r ++ [x])) else a :: dd (b :: (r ++ [x])) := rfl
    rw [e1, e2, ih]
    split <;> split <;> rfl
theorem dd_step {l : List (Int × Int)} {m : Nat} {x y : Int × Int} (hx : l[m]? = some x) (hy : l[m + 1]? = some y) : dd (l.take (m + 1 + 1)) = if x = y then dd (l.take (m + 1)) else dd (l.take (m + 1)) ++ [y] := by
  rw [List.take_add_one (i := m + 1), hy, List.take_add_one, hx, Option.toList_some, Option.toList_some, List.append_assoc]
  exact dd_two (l.take m) x y
theorem dd_len (l : List (Int × Int)) : (dd l).length ≤ l.length := by
  match l with
  | [] => simp [dd]
  | [x] => simp [dd]
  | x :: y :: r =>
    have ih := dd_len (y :: r)
    rw [dd]
    split
    · simp at ih ⊢; omega
    · simp at ih ⊢; omega
theorem dd_apart : ∀ (l : List (Int × Int)) (k : Nat), k ≤ l.length → (∀ i p q, i + 1 < k → l[i]? = some p → l[i + 1]? = some q → p ≠ q) → dd (l.take k) = l.take k
  | l, 0, _, _ => by simp [dd]
  | l, 1, h, _ => by
    match l, h with
    | x :: r, _ => simp [dd]
  | l, k + 2, h, ha => by
    have ih := dd_apart l (k + 1) (by omega) fun i p q hi => ha i p q (by omega)
    obtain ⟨x, hx⟩ : ∃ x, l[k]? = some x := ⟨l[k]'(by omega), List.getElem?_eq_getElem _⟩
    obtain ⟨y, hy⟩ : ∃ y, l[k + 1]? = some y := ⟨l[k + 1]'(by omega), List.getElem?_eq_getElem _⟩
    rw [dd_step hx hy, if_neg (ha k x y (by omega) hx hy), ih, List.take_add_one (i := k + 1), hy]
    rfl
end Go.Proofs.Ytahamffngmdjfaa.W
