/-
  seg, plain: the ends that lie on both segments, the least and the greatest one of them. No condition.
-/
import Derived.Test.YtahamffngmdjfaaVPu
import Derived.Test.YtahamffngmdjfaaGS1
namespace Go.Proofs.Ytahamffngmdjfaa.W
open Go.RowKit Go.Proofs.Ytahamffngmdjfaa.V

def firstV : List (Int × Int) → Int × Int
  | [] => (0, 0)
  | x :: _ => x
def lastV (L : List (Int × Int)) : Int × Int := L.getLast?.getD (0, 0)
theorem lastV_is : ∀ {L : List (Int × Int)}, Asc L → L ≠ [] → lastV L ∈ L ∧ ∀ z ∈ L, z = lastV L ∨ ltV z (lastV L)
  | [], _, h => absurd rfl h
  | [x], _, _ => ⟨by simp [lastV], fun z hz => .inl (by simpa [lastV] using hz)⟩
  | x :: y :: r, h, _ => by
    obtain ⟨h1, h2⟩ := List.pairwise_cons.1 h
    obtain ⟨i1, i2⟩ := lastV_is h2 (by simp)
    have e : lastV (x :: y :: r) = lastV (y :: r) := by simp [lastV, List.getLast?_cons_cons]
    rw [e]
    refine ⟨List.mem_cons_of_mem _ i1, fun z hz => ?_⟩
    rcases List.mem_cons.1 hz with rfl | hz
    · exact .inr (h1 _ i1)
    · exact i2 z hz
theorem last_unique {L : List (Int × Int)} {m n : Int × Int} (hm : m ∈ L ∧ ∀ z ∈ L, z = m ∨ ltV z m) (hn : n ∈ L ∧ ∀ z ∈ L, z = n ∨ ltV z n) : m = n := by
  rcases hm.2 n hn.1 with h | h
  · exact h.symm
  · rcases hn.2 m hm.1 with g | g
    · exact g
    · exact absurd (ltV_trans h g) (ltV_irrefl _)
theorem insU_ne (L : List (Int × Int)) (x : Int × Int) : insU L x ≠ [] := by
  intro h
  have := (insU_mem L x x).2 (.inl rfl)
  rw [h] at this
  cases this
theorem first_ins (L : List (Int × Int)) (x : Int × Int) : firstV (insU L x) = if L = [] ∨ ltV x (firstV L) then x else firstV L := by
  cases L with
  | nil => simp [insU, place, firstV]
  | cons y r =>
    rw [insU_cons]
    show firstV _ = if (y :: r = []) ∨ ltV x y then x else y
    rcases ltV_tri x y with h | h | h
    · rw [if_neg (fun k => ltV_irrefl x (ltV_trans h k)), if_neg (fun e => ltV_irrefl x (by rw [e] at h; exact h)), if_pos (.inr h)]
      rfl
    · subst h
      rw [if_neg (ltV_irrefl x), if_pos rfl]
      simp [firstV]
    · rw [if_pos h, if_neg (by rintro (k | k); cases k; exact ltV_irrefl x (ltV_trans k h))]
      rfl
theorem last_ins {L : List (Int × Int)} (hL : Asc L) (x : Int × Int) : lastV (insU L x) = if L = [] ∨ ltV (lastV L) x then x else lastV L := by
  have h := lastV_is (insU_asc L x hL) (insU_ne L x)
  by_cases h0 : L = []
  · subst h0
    simp [insU, place, lastV]
  · have g := lastV_is hL h0
    by_cases h1 : ltV (lastV L) x
    · rw [if_pos (.inr h1)]
      refine last_unique h ⟨(insU_mem L x x).2 (.inl rfl), fun z hz => ?_⟩
      rcases (insU_mem L x z).1 hz with e | e
      · exact .inl e
      · rcases g.2 z e with f | f
        · rw [f]; exact .inr h1
        · exact .inr (ltV_trans f h1)
    · rw [if_neg (by rintro (k | k); exact h0 k; exact h1 k)]
      refine last_unique h ⟨(insU_mem L x _).2 (.inr g.1), fun z hz => ?_⟩
      rcases (insU_mem L x z).1 hz with e | e
      · subst e
        rcases ltV_tri z (lastV L) with k | k | k
        · exact .inr k
        · exact .inl k
        · exact absurd k h1
      · exact g.2 z e
/-- the least one, the greatest one, and whether there is one -/
def shStep (s : (Int × Int) × (Int × Int) × Bool) (x : Int × Int) : (Int × Int) × (Int × Int) × Bool :=
  (if s.2.2 = false ∨ ltV x s.1 then x else s.1, if s.2.2 = false ∨ ltV s.2.1 x then x else s.2.1, true)
theorem sh_fold (xs : List (Int × Int)) : ∀ L, Asc L → xs.foldl shStep (firstV L, lastV L, !L.isEmpty) = (firstV (xs.foldl insU L), lastV (xs.foldl insU L), !(xs.foldl insU L).isEmpty) := by
  induction xs with
  | nil => intro L _; rfl
  | cons x r ih =>
    intro L hL
    rw [List.foldl_cons, List.foldl_cons, ← ih (insU L x) (insU_asc L x hL)]
    congr 1
    unfold shStep
    have e : (!(insU L x).isEmpty) = true := by
      have := insU_ne L x
      cases hx : insU L x with
      | nil => exact absurd hx this
      | cons => rfl
    have e' : (!L.isEmpty) = false ↔ L = [] := by cases L <;> simp
    rw [e, first_ins, last_ins hL]
    simp only [e']
def endsL (ax ay bx bz cx cy dx dy : Int) : List (Int × Int) := [(ax, ay), (bx, bz), (cx, cy), (dx, dy)]
def bothS (ax ay bx bz cx cy dx dy : Int) (p : Int × Int) : Bool := conS ax ay bx bz p.1 p.2 && conS cx cy dx dy p.1 p.2
def comS (ax ay bx bz cx cy dx dy : Int) : List (Int × Int) := insAll ((endsL ax ay bx bz cx cy dx dy).filter (bothS ax ay bx bz cx cy dx dy))
def sharedS (ax ay bx bz cx cy dx dy : Int) (k : Nat) : (Int × Int) × (Int × Int) × Bool := (((endsL ax ay bx bz cx cy dx dy).take k).filter (bothS ax ay bx bz cx cy dx dy)).foldl shStep ((0, 0), (0, 0), false)
theorem shared_end (ax ay bx bz cx cy dx dy : Int) : sharedS ax ay bx bz cx cy dx dy 4 = (firstV (comS ax ay bx bz cx cy dx dy), lastV (comS ax ay bx bz cx cy dx dy), !(comS ax ay bx bz cx cy dx dy).isEmpty) := sh_fold _ [] List.Pairwise.nil
theorem com_asc (ax ay bx bz cx cy dx dy : Int) : Asc (comS ax ay bx bz cx cy dx dy) := (fold_ins _ [] List.Pairwise.nil).1
theorem com_mem (ax ay bx bz cx cy dx dy : Int) (z : Int × Int) : z ∈ comS ax ay bx bz cx cy dx dy ↔ z ∈ endsL ax ay bx bz cx cy dx dy ∧ bothS ax ay bx bz cx cy dx dy z = true := by
  have := (fold_ins ((endsL ax ay bx bz cx cy dx dy).filter (bothS ax ay bx bz cx cy dx dy)) [] List.Pairwise.nil).2 z
  rw [List.mem_filter] at this
  unfold comS insAll
  simpa using this
theorem shared_step (ax ay bx bz cx cy dx dy : Int) (k : Nat) (x : Int × Int) (h : (endsL ax ay bx bz cx cy dx dy)[k]? = some x) : sharedS ax ay bx bz cx cy dx dy (k + 1) = if bothS ax ay bx bz cx cy dx dy x then shStep (sharedS ax ay bx bz cx cy dx dy k) x else sharedS ax ay bx bz cx cy dx dy k := by
  unfold sharedS
  rw [List.take_add_one, h, Option.toList_some, List.filter_append, List.foldl_append]
  cases hb : bothS ax ay bx bz cx cy dx dy x <;> simp [hb]
end Go.Proofs.Ytahamffngmdjfaa.W
