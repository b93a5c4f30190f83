/-
  vec, plain: a list in ascending order, each vector once: sorted and then rid of equal neighbours, or inserted one by one; no program. No condition.
-/
import Derived.Test.YtahamffngmdjfaaVS
namespace Go.Proofs.Ytahamffngmdjfaa.W
open Go.RowKit Go.Proofs.Ytahamffngmdjfaa.V

abbrev ltV (x y : Int × Int) : Prop := lessV x.1 x.2 y.1 y.2 = true
theorem ltV_iff (x y : Int × Int) : ltV x y ↔ x.2 < y.2 ∨ x.2 = y.2 ∧ x.1 < y.1 := by
  unfold ltV lessV
  simp
theorem ltV_irrefl (x : Int × Int) : ¬ ltV x x := by rw [ltV_iff]; omega
theorem ltV_trans {x y z : Int × Int} (h : ltV x y) (k : ltV y z) : ltV x z := by rw [ltV_iff] at *; omega
theorem ltV_tri (x y : Int × Int) : ltV x y ∨ x = y ∨ ltV y x := by
  obtain ⟨a, b⟩ := x
  obtain ⟨c, d⟩ := y
  rw [ltV_iff, ltV_iff]
  by_cases h : a = c ∧ b = d
  · exact .inr (.inl (by rw [h.1, h.2]))
  · have : ¬ ((a, b) = (c, d)) := fun e => h (by injection e with e1 e2; exact ⟨e1, e2⟩)
    simp only []
    omega
/-- strictly ascending -/
abbrev Asc (l : List (Int × Int)) : Prop := l.Pairwise ltV
theorem asc_unique : ∀ {a b : List (Int × Int)}, Asc a → Asc b → (∀ x, x ∈ a ↔ x ∈ b) → a = b
  | [], [], _, _, _ => rfl
  | [], y :: s, _, _, h => by have := (h y).2 List.mem_cons_self; cases this
  | x :: r, [], _, _, h => by have := (h x).1 List.mem_cons_self; cases this
  | x :: r, y :: s, ha, hb, h => by
    obtain ⟨a1, a2⟩ := List.pairwise_cons.1 ha
    obtain ⟨b1, b2⟩ := List.pairwise_cons.1 hb
    have hxy : x = y := by
      rcases List.mem_cons.1 ((h x).1 List.mem_cons_self) with e | e
      · exact e
      · rcases List.mem_cons.1 ((h y).2 List.mem_cons_self) with f | f
        · exact f.symm
        · exact absurd (ltV_trans (a1 y f) (b1 x e)) (ltV_irrefl x)
    subst hxy
    rw [asc_unique a2 b2 fun z => ⟨fun hz => by
      rcases List.mem_cons.1 ((h z).1 (List.mem_cons_of_mem _ hz)) with e | e
      · subst e; exact absurd (a1 z hz) (ltV_irrefl z)
      · exact e, fun hz => by
      rcases List.mem_cons.1 ((h z).2 (List.mem_cons_of_mem _ hz)) with e | e
      · subst e; exact absurd (b1 z hz) (ltV_irrefl z)
      · exact e⟩]

/-- rid of equal neighbours -/
def dd : List (Int × Int) → List (Int × Int)
  | [] => []
  | [x] => [x]
  | x :: y :: r => if x = y then dd (y :: r) else x :: dd (y :: r)
theorem dd_mem : ∀ (l : List (Int × Int)) (z : Int × Int), z ∈ dd l ↔ z ∈ l
  | [], z => by simp [dd]
  | [x], z => by simp [dd]
  | x :: y :: r, z => by
    unfold dd
    have ih := dd_mem (y :: r) z
    split
    · rename_i h
      subst h
      rw [ih]
      simp
    · rw [List.mem_cons, ih, List.mem_cons (a := z) (b := x)]
/-- ascending, equal ones allowed -/
abbrev Wk (l : List (Int × Int)) : Prop := l.Pairwise fun x y => ¬ ltV y x
theorem dd_asc : ∀ (l : List (Int × Int)), Wk l → Asc (dd l)
  | [], _ => by simp [dd]
  | [x], _ => by simp [dd]
  | x :: y :: r, h => by
    obtain ⟨h1, h2⟩ := List.pairwise_cons.1 h
    have ih := dd_asc (y :: r) h2
    unfold dd
    split
    · exact ih
    · rename_i hne
      refine List.pairwise_cons.2 ⟨fun z hz => ?_, ih⟩
      have hz' := (dd_mem _ z).1 hz
      have hxy : ltV x y := by
        rcases ltV_tri x y with k | k | k
        · exact k
        · exact absurd k hne
        · exact absurd k (h1 y List.mem_cons_self)
      rcases List.mem_cons.1 hz' with rfl | hzr
      · exact hxy
      · rcases ltV_tri y z with k | k | k
        · exact ltV_trans hxy k
        · rw [← k]; exact hxy
        · exact absurd k ((List.pairwise_cons.1 h2).1 z hzr)
theorem sort_wk (l : List (Int × Int)) : Wk (sortV l) := by
  have h := List.pairwise_mergeSort (le := fun x y => !(ltOf cf) y x) (fun a b c h1 h2 => by
    simp only [lt_cf, Bool.not_eq_true', ] at *
    have e1 := mt (ltV_iff b a).2 (by simpa using h1)
    have e2 := mt (ltV_iff c b).2 (by simpa using h2)
    have : ¬ ltV c a := by rw [ltV_iff]; omega
    simpa using this) (fun a b => by
    simp only [lt_cf]
    rcases ltV_tri a b with h | h | h
    · have : ¬ ltV b a := fun k => ltV_irrefl a (ltV_trans h k)
      simp at this
      simp [this]
    · subst h
      have := ltV_irrefl a
      simp at this
      simp [this]
    · have : ¬ ltV a b := fun k => ltV_irrefl a (ltV_trans k h)
      simp at this
      simp [this]) l
  refine h.imp fun {a b} hab => ?_
  rw [lt_cf] at hab
  simpa using hab
theorem sort_mem (l : List (Int × Int)) (z : Int × Int) : z ∈ sortV l ↔ z ∈ l := List.mem_mergeSort

/-- where a vector is inserted: behind all lesser ones -/
def place (x : Int × Int) : List (Int × Int) → Nat
  | [] => 0
  | y :: r => if lessV y.1 y.2 x.1 x.2 then place x r + 1 else 0
def insU (out : List (Int × Int)) (x : Int × Int) : List (Int × Int) := if out[place x out]? = some x then out else out.take (place x out) ++ x :: out.drop (place x out)
theorem insU_cons (y : Int × Int) (r : List (Int × Int)) (x : Int × Int) : insU (y :: r) x = if ltV y x then y :: insU r x else if y = x then y :: r else x :: y :: r := by
  by_cases h : lessV y.1 y.2 x.1 x.2 = true
  · have hp : place x (y :: r) = place x r + 1 := if_pos h
    rw [if_pos h, insU, insU, hp, List.getElem?_cons_succ]
    split <;> rfl
  · have hp : place x (y :: r) = 0 := if_neg h
    rw [if_neg h, insU, hp]
    simp
theorem insU_mem (out : List (Int × Int)) (x z : Int × Int) : z ∈ insU out x ↔ z = x ∨ z ∈ out := by
  induction out with
  | nil => simp [insU, place]
  | cons y r ih =>
    rw [insU_cons]
    split
    · rw [List.mem_cons, ih, List.mem_cons]
      constructor
      · rintro (h | h | h)
        · exact .inr (.inl h)
        · exact .inl h
        · exact .inr (.inr h)
      · rintro (h | h | h)
        · exact .inr (.inl h)
        · exact .inl h
        · exact .inr (.inr h)
    · split
      · rename_i _ h
        subst h
        simp
      · simp
theorem insU_asc (out : List (Int × Int)) (x : Int × Int) (h : Asc out) : Asc (insU out x) := by
  induction out with
  | nil => simp [insU, place]
  | cons y r ih =>
    obtain ⟨h1, h2⟩ := List.pairwise_cons.1 h
    rw [insU_cons]
    split
    · rename_i hyx
      refine List.pairwise_cons.2 ⟨fun z hz => ?_, ih h2⟩
      rcases (insU_mem r x z).1 hz with rfl | hz
      · exact hyx
      · exact h1 z hz
    · split
      · exact h
      · rename_i hyx hne
        have hxy : ltV x y := by
          rcases ltV_tri x y with k | k | k
          · exact k
          · exact absurd k.symm hne
          · exact absurd k hyx
        refine List.pairwise_cons.2 ⟨fun z hz => ?_, h⟩
        rcases List.mem_cons.1 hz with rfl | hz
        · exact hxy
        · exact ltV_trans hxy (h1 z hz)
def insAll (l : List (Int × Int)) : List (Int × Int) := l.foldl insU []
theorem fold_ins (l : List (Int × Int)) : ∀ out, Asc out → Asc (l.foldl insU out) ∧ ∀ z, z ∈ l.foldl insU out ↔ z ∈ out ∨ z ∈ l := by
  induction l with
  | nil => intro out h; simp [h]
  | cons x r ih =>
    intro out h
    obtain ⟨a, b⟩ := ih (insU out x) (insU_asc out x h)
    refine ⟨a, fun z => ?_⟩
    rw [List.foldl_cons, b z, insU_mem, List.mem_cons]
    constructor
    · rintro ((h | h) | h)
      · exact .inr (.inl h)
      · exact .inl h
      · exact .inr (.inr h)
    · rintro (h | h | h)
      · exact .inl (.inr h)
      · exact .inl (.inl h)
      · exact .inr h
theorem ins_dd (l : List (Int × Int)) : insAll l = dd (sortV l) := by
  obtain ⟨h1, h2⟩ := fold_ins l [] List.Pairwise.nil
  refine asc_unique h1 (dd_asc _ (sort_wk l)) fun z => ?_
  rw [dd_mem, sort_mem]
  have := h2 z
  simpa [insAll] using this
end Go.Proofs.Ytahamffngmdjfaa.W
