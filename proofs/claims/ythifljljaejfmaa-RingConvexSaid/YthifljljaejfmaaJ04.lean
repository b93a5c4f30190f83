/-
  Lists of vectors and boxes in memory. No condition.
  vec: Sorted of a list whose sorted form has no two equal neighbours, and what it calls: what they return. Condition: the list is not longer than a slice may be.
  vec, plain: a list in ascending order, each vector once: sorted and then rid of equal neighbours, or inserted one by one; no program. No condition.
  vec, plain: a list that is rid of equal neighbours from its end; no program. No condition.
  vec, plain: where a vector is inserted. No condition.
  vec, plain: the turn and the order of small vectors; no program. Condition: the coordinates are within 2^28 where it says so.
  Regions that draw their order, whose operations only read and whose callees leave all old blocks alone: one walk. No condition.
-/
import Derived.Test.YthifljljaejfmaaJ03
import Derived.Test.YthifljljaejfmaaLayV
import Derived.Test.YthifljljaejfmaaJ02
import Derived.Deep.QuietTactic
import Derived.Shelf.SlSortCmp.QuietGrown
namespace Go.Proofs.Ythifljljaejfmaa.W
open Go.RowKit Go.Proofs.Ythifljljaejfmaa.V

abbrev vC (p : Int × Int) : List Value := [.int .i64 p.1, .int .i64 p.2]
/-- a slice that reads as these vectors -/
abbrev SrcV (w : World) (v : Value) (l : List (Int × Int)) : Prop := Src w 2 v l.length (l.flatMap vC)
theorem flatV_at : ∀ (l : List (Int × Int)) (k : Nat) (p : Int × Int), l[k]? = some p → (l.flatMap vC)[k * 2]? = some (.int .i64 p.1) ∧ (l.flatMap vC)[k * 2 + 1]? = some (.int .i64 p.2)
  | [], k, p, h => by simp at h
  | q :: r, 0, p, h => by
    obtain rfl : q = p := by simpa using h
    exact ⟨rfl, rfl⟩
  | q :: r, k + 1, p, h => by
    have hr := flatV_at r k p (by simpa using h)
    rw [List.flatMap_cons, show (k + 1) * 2 = k * 2 + 1 + 1 by omega]
    exact ⟨by simpa [vC] using hr.1, by simpa [vC] using hr.2⟩
theorem flatV_len (l : List (Int × Int)) : (l.flatMap vC).length = l.length * 2 := by
  induction l with
  | nil => rfl
  | cons x r ih => rw [List.flatMap_cons, List.length_append, ih, List.length_cons]; show 2 + r.length * 2 = (r.length + 1) * 2; omega
abbrev boxV (b : Int × Int × Int × Int) : Value := bV b.1 b.2.1 b.2.2.1 b.2.2.2
abbrev boxC (b : Int × Int × Int × Int) : Array Value := #[.int .i64 b.1, .int .i64 b.2.1, .int .i64 b.2.2.1, .int .i64 b.2.2.2]
theorem Blk.lay4a {w : World} {g : Nat} {t : TypeId} {a b c d : Value} (h : Blk w g t #[a, b, c, d]) (x y : Value) : Blk ((w.setCell ⟨g, 0, none⟩ x).setCell ⟨g, 1, none⟩ y) g t #[x, y, c, d] := (h.set_ 0 x).set_ 1 y
theorem Blk.lay4b {w : World} {g : Nat} {t : TypeId} {a b c d : Value} (h : Blk w g t #[a, b, c, d]) (x y : Value) : Blk ((w.setCell ⟨g, 2, none⟩ x).setCell ⟨g, 3, none⟩ y) g t #[a, b, x, y] := (h.set_ 2 x).set_ 3 y
theorem Blk.four {w : World} {g : Nat} {t : TypeId} {a b c d : Value} (h : Blk w g t #[a, b, c, d]) : w.cell? ⟨g, 0, none⟩ = some a ∧ w.cell? ⟨g, 1, none⟩ = some b ∧ w.cell? ⟨g, 2, none⟩ = some c ∧ w.cell? ⟨g, 3, none⟩ = some d ∧ w.frozen? ⟨g, 0, none⟩ = false ∧ w.frozen? ⟨g, 1, none⟩ = false ∧ w.frozen? ⟨g, 2, none⟩ = false ∧ w.frozen? ⟨g, 3, none⟩ = false :=
  ⟨h.cell 0, h.cell 1, h.cell 2, h.cell 3, h.frozen 0, h.frozen 1, h.frozen 2, h.frozen 3⟩

end Go.Proofs.Ythifljljaejfmaa.W

namespace Go.Proofs.Ythifljljaejfmaa.W
open Go.RowKit Go.Proofs.Ythifljljaejfmaa.V

def cf (x y : Int × Int) : Int := cmpV x.1 x.2 y.1 y.2
theorem lt_cf (x y : Int × Int) : ltOf cf x y = lessV x.1 x.2 y.1 y.2 := (less_cmp _ _ _ _).symm
theorem cf_swo : Sort.SWO (ltOf cf) where
  irrefl x := by rw [lt_cf]; unfold lessV; simp
  trans x y z h1 h2 := by rw [lt_cf] at *; unfold lessV at *; simp at *; omega
  ntrans x y z h1 h2 := by rw [lt_cf] at *; unfold lessV at *; simp at *; omega
theorem cf_total (x y : Int × Int) (h1 : ltOf cf x y = false) (h2 : ltOf cf y x = false) : x = y := by
  rw [lt_cf] at h1 h2
  unfold lessV at h1 h2
  obtain ⟨a, b⟩ := x
  obtain ⟨c, d⟩ := y
  simp at h1 h2
  have : a = c ∧ b = d := by omega
  rw [this.1, this.2]
/-- the list in ascending order -/
def sortV (l : List (Int × Int)) : List (Int × Int) := l.mergeSort fun x y => !(ltOf cf) y x
theorem sortV_len (l : List (Int × Int)) : (sortV l).length = l.length := List.length_mergeSort l

theorem kp_sort (w : World) (g off m : Nat) (d : Array (Int × Int)) (os : Array Obj) : Kp (fun b => b = g) w (sortWorldK vC 2 w g off m d os) := by
  refine ⟨rfl, rfl, rfl, size_sortWorldK_c vC 2 w g off m d os, fun i hi hne => ?_⟩
  unfold sortWorldK Sort.putRowK
  rw [Sort.heap_grow_old _ _ (by rw [Sort.size_putRow]; exact hi)]
  show (w.heap.modify g _)[i]? = _
  rw [Array.getElem?_modify]
  simp [Ne.symm hne]

theorem cmpLays (blk off size : Nat) (w : World) : CmpLays Try.prog 43 #[] vC 2 cf blk off size w :=
  fun _ _ _ _ x y => compare_any x.1 x.2 y.1 y.2 _

end Go.Proofs.Ythifljljaejfmaa.W

namespace Go.Proofs.Ythifljljaejfmaa.W
open Go.RowKit Go.Proofs.Ythifljljaejfmaa.V

abbrev ltV (x y : Int × Int) : Prop := lessV x.1 x.2 y.1 y.2 = true
theorem ltV_iff (x y : Int × Int) : ltV x y ↔ x.2 < y.2 ∨ x.2 = y.2 ∧ x.1 < y.1 := by
  unfold ltV lessV
  simp
theorem ltV_irrefl (x : Int × Int) : ¬ ltV x x := by rw [ltV_iff]; omega
theorem ltV_trans {x y z : Int × Int} (h : ltV x y) (k : ltV y z) : ltV x z := by rw [ltV_iff] at *; omega
theorem ltV_tri (x y : Int × Int) : ltV x y ∨ x = y ∨ ltV y x := by
  obtain ⟨a, b⟩ := x
  obtain ⟨c, d⟩ := y
  rw [ltV_iff, ltV_iff]
  by_cases h : a = c ∧ b = d
  · exact .inr (.inl (by rw [h.1, h.2]))
  · have : ¬ ((a, b) = (c, d)) := fun e => h (by injection e with e1 e2; exact ⟨e1, e2⟩)
    simp only []
    omega
/-- strictly ascending -/
abbrev Asc (l : List (Int × Int)) : Prop := l.Pairwise ltV
theorem asc_unique : ∀ {a b : List (Int × Int)}, Asc a → Asc b → (∀ x, x ∈ a ↔ x ∈ b) → a = b
  | [], [], _, _, _ => rfl
  | [], y :: s, _, _, h => by have := (h y).2 List.mem_cons_self; cases this
  | x :: r, [], _, _, h => by have := (h x).1 List.mem_cons_self; cases this
  | x :: r, y :: s, ha, hb, h => by
    obtain ⟨a1, a2⟩ := List.pairwise_cons.1 ha
    obtain ⟨b1, b2⟩ := List.pairwise_cons.1 hb
    have hxy : x = y := by
      rcases List.mem_cons.1 ((h x).1 List.mem_cons_self) with e | e
      · exact e
      · rcases List.mem_cons.1 ((h y).2 List.mem_cons_self) with f | f
        · exact f.symm
        · exact absurd (ltV_trans (a1 y f) (b1 x e)) (ltV_irrefl x)
    subst hxy
    rw [asc_unique a2 b2 fun z => ⟨fun hz => by
      rcases List.mem_cons.1 ((h z).1 (List.mem_cons_of_mem _ hz)) with e | e
      · subst e; exact absurd (a1 z hz) (ltV_irrefl z)
      · exact e, fun hz => by
      rcases List.mem_cons.1 ((h z).2 (List.mem_cons_of_mem _ hz)) with e | e
      · subst e; exact absurd (b1 z hz) (ltV_irrefl z)
      · exact e⟩]

/-- rid of equal neighbours -/
def dd : List (Int × Int) → List (Int × Int)
  | [] => []
  | [x] => [x]
  | x :: y :: r => if x = y then dd (y :: r) else x :: dd (y :: r)
theorem dd_mem : ∀ (l : List (Int × Int)) (z : Int × Int), z ∈ dd l ↔ z ∈ l
  | [], z => by simp [dd]
  | [x], z => by simp [dd]
  | x :: y :: r, z => by
    unfold dd
    have ih := dd_mem (y :: r) z
    split
    · rename_i h
      subst h
      rw [ih]
      simp
    · rw [List.mem_cons, ih, List.mem_cons (a := z) (b := x)]
/-- ascending, equal ones allowed -/
abbrev Wk (l : List (Int × Int)) : Prop := l.Pairwise fun x y => ¬ ltV y x
theorem dd_asc : ∀ (l : List (Int × Int)), Wk l → Asc (dd l)
  | [], _ => by simp [dd]
  | [x], _ => by simp [dd]
  | x :: y :: r, h => by
    obtain ⟨h1, h2⟩ := List.pairwise_cons.1 h
    have ih := dd_asc (y :: r) h2
    unfold dd
    split
    · exact ih
    · rename_i hne
      refine List.pairwise_cons.2 ⟨fun z hz => ?_, ih⟩
      have hz' := (dd_mem _ z).1 hz
      have hxy : ltV x y := by
        rcases ltV_tri x y with k | k | k
        · exact k
        · exact absurd k hne
        · exact absurd k (h1 y List.mem_cons_self)
      rcases List.mem_cons.1 hz' with rfl | hzr
      · exact hxy
      · rcases ltV_tri y z with k | k | k
        · exact ltV_trans hxy k
        · rw [← k]; exact hxy
        · exact absurd k ((List.pairwise_cons.1 h2).1 z hzr)
theorem sort_wk (l : List (Int × Int)) : Wk (sortV l) := by
  have h := List.pairwise_mergeSort (le := fun x y => !(ltOf cf) y x) (fun a b c h1 h2 => by
    simp only [lt_cf, Bool.not_eq_true', ] at *
    have e1 := mt (ltV_iff b a).2 (by simpa using h1)
    have e2 := mt (ltV_iff c b).2 (by simpa using h2)
    have : ¬ ltV c a := by rw [ltV_iff]; omega
    simpa using this) (fun a b => by
    simp only [lt_cf]
    rcases ltV_tri a b with h | h | h
    · have : ¬ ltV b a := fun k => ltV_irrefl a (ltV_trans h k)
      simp at this
      simp [this]
    · subst h
      have := ltV_irrefl a
      simp at this
      simp [this]
    · have : ¬ ltV a b := fun k => ltV_irrefl a (ltV_trans k h)
      simp at this
      simp [this]) l
  refine h.imp fun {a b} hab => ?_
  rw [lt_cf] at hab
  simpa using hab
theorem sort_mem (l : List (Int × Int)) (z : Int × Int) : z ∈ sortV l ↔ z ∈ l := List.mem_mergeSort

/-- where a vector is inserted: behind all lesser ones -/
def place (x : Int × Int) : List (Int × Int) → Nat
  | [] => 0
  | y :: r => if lessV y.1 y.2 x.1 x.2 then place x r + 1 else 0
def insU (out : List (Int × Int)) (x : Int × Int) : List (Int × Int) := if out[place x out]? = some x then out else out.take (place x out) ++ x :: out.drop (place x out)
theorem insU_cons (y : Int × Int) (r : List (Int × Int)) (x : Int × Int) : insU (y :: r) x = if ltV y x then y :: insU r x else if y = x then y :: r else x :: y :: r := by
  by_cases h : lessV y.1 y.2 x.1 x.2 = true
  · have hp : place x (y :: r) = place x r + 1 := if_pos h
    rw [if_pos h, insU, insU, hp, List.getElem?_cons_succ]
    split <;> rfl
  · have hp : place x (y :: r) = 0 := if_neg h
    rw [if_neg h, insU, hp]
    simp
theorem insU_mem (out : List (Int × Int)) (x z : Int × Int) : z ∈ insU out x ↔ z = x ∨ z ∈ out := by
  induction out with
  | nil => simp [insU, place]
  | cons y r ih =>
    rw [insU_cons]
    split
    · rw [List.mem_cons, ih, List.mem_cons]
      constructor
      · rintro (h | h | h)
        · exact .inr (.inl h)
        · exact .inl h
        · exact .inr (.inr h)
      · rintro (h | h | h)
        · exact .inr (.inl h)
        · exact .inl h
        · exact .inr (.inr h)
    · split
      · rename_i _ h
        subst h
        simp
      · simp
theorem insU_asc (out : List (Int × Int)) (x : Int × Int) (h : Asc out) : Asc (insU out x) := by
  induction out with
  | nil => simp [insU, place]
  | cons y r ih =>
    obtain ⟨h1, h2⟩ := List.pairwise_cons.1 h
    rw [insU_cons]
    split
    · rename_i hyx
      refine List.pairwise_cons.2 ⟨fun z hz => ?_, ih h2⟩
      rcases (insU_mem r x z).1 hz with rfl | hz
      · exact hyx
      · exact h1 z hz
    · split
      · exact h
      · rename_i hyx hne
        have hxy : ltV x y := by
          rcases ltV_tri x y with k | k | k
          · exact k
          · exact absurd k.symm hne
          · exact absurd k hyx
        refine List.pairwise_cons.2 ⟨fun z hz => ?_, h⟩
        rcases List.mem_cons.1 hz with rfl | hz
        · exact hxy
        · exact ltV_trans hxy (h1 z hz)
def insAll (l : List (Int × Int)) : List (Int × Int) := l.foldl insU []
theorem fold_ins (l : List (Int × Int)) : ∀ out, Asc out → Asc (l.foldl insU out) ∧ ∀ z, z ∈ l.foldl insU out ↔ z ∈ out ∨ z ∈ l := by
  induction l with
  | nil => intro out h; simp [h]
  | cons x r ih =>
    intro out h
    obtain ⟨a, b⟩ := ih (insU out x) (insU_asc out x h)
    refine ⟨a, fun z => ?_⟩
    rw [List.foldl_cons, b z, insU_mem, List.mem_cons]
    constructor
    · rintro ((h | h) | h)
      · exact .inr (.inl h)
      · exact .inl h
      · exact .inr (.inr h)
    · rintro (h | h | h)
      · exact .inl (.inr h)
      · exact .inl (.inl h)
      · exact .inr h
theorem ins_dd (l : List (Int × Int)) : insAll l = dd (sortV l) := by
  obtain ⟨h1, h2⟩ := fold_ins l [] List.Pairwise.nil
  refine asc_unique h1 (dd_asc _ (sort_wk l)) fun z => ?_
  rw [dd_mem, sort_mem]
  have := h2 z
  simpa [insAll] using this
end Go.Proofs.Ythifljljaejfmaa.W

namespace Go.Proofs.Ythifljljaejfmaa.W
open Go.RowKit Go.Proofs.Ythifljljaejfmaa.V

theorem dd_two : ∀ (l : List (Int × Int)) (x y : Int × Int), dd (l ++ [x, y]) = if x = y then dd (l ++ [x]) else dd (l ++ [x]) ++ [y]
  | [], x, y => by
    show dd [x, y] = if x = y then dd [x] else dd [x] ++ [y]
    unfold dd
    split
    · rename_i h
      subst h
      rfl
    · rfl
  | [a], x, y => by
    have ih := dd_two [] x y
    show dd (a :: x :: [y]) = if x = y then dd (a :: x :: []) else dd (a :: x :: []) ++ [y]
    have e1 : dd (a :: x :: [y]) = if a = x then dd (x :: [y]) else a :: dd (x :: [y]) := rfl
    have e2 : dd (a :: x :: []) = if a = x then dd (x :: []) else a :: dd (x :: []) := rfl
    have ih : dd (x :: [y]) = if x = y then dd (x :: []) else dd (x :: []) ++ [y] := ih
    rw [e1, e2, ih]
    split <;> split <;> rfl
  | a :: b :: r, x, y => by
    have ih : dd (b :: (r ++ [x, y])) = if x = y then dd (b :: (r ++ [x])) else dd (b :: (r ++ [x])) ++ [y] := dd_two (b :: r) x y
    show dd (a :: b :: (r ++ [x, y])) = if x = y then dd (a :: b :: (r ++ [x])) else dd (a :: b :: (r ++ [x])) ++ [y]
    have e1 : dd (a :: b :: (r ++ [x, y])) = if a = b then dd (b :: (r ++ [x, y])) else a :: dd (b :: (r ++ [x, y])) := rfl
    have e2 : dd (a :: b :: (r ++ [x])) = if a = b then dd (b :: (r ++ [x])) else a :: dd (b :: (r ++ [x])) := rfl
    rw [e1, e2, ih]
    split <;> split <;> rfl
theorem dd_step {l : List (Int × Int)} {m : Nat} {x y : Int × Int} (hx : l[m]? = some x) (hy : l[m + 1]? = some y) : dd (l.take (m + 1 + 1)) = if x = y then dd (l.take (m + 1)) else dd (l.take (m + 1)) ++ [y] := by
  rw [List.take_add_one (i := m + 1), hy, List.take_add_one, hx, Option.toList_some, Option.toList_some, List.append_assoc]
  exact dd_two (l.take m) x y
theorem dd_len (l : List (Int × Int)) : (dd l).length ≤ l.length := by
  match l with
  | [] => simp [dd]
  | [x] => simp [dd]
  | x :: y :: r =>
    have ih := dd_len (y :: r)
    rw [dd]
    split
    · simp at ih ⊢; omega
    · simp at ih ⊢; omega
theorem dd_apart : ∀ (l : List (Int × Int)) (k : Nat), k ≤ l.length → (∀ i p q, i + 1 < k → l[i]? = some p → l[i + 1]? = some q → p ≠ q) → dd (l.take k) = l.take k
  | l, 0, _, _ => by simp [dd]
  | l, 1, h, _ => by
    match l, h with
    | x :: r, _ => simp [dd]
  | l, k + 2, h, ha => by
    have ih := dd_apart l (k + 1) (by omega) fun i p q hi => ha i p q (by omega)
    obtain ⟨x, hx⟩ : ∃ x, l[k]? = some x := ⟨l[k]'(by omega), List.getElem?_eq_getElem _⟩
    obtain ⟨y, hy⟩ : ∃ y, l[k + 1]? = some y := ⟨l[k + 1]'(by omega), List.getElem?_eq_getElem _⟩
    rw [dd_step hx hy, if_neg (ha k x y (by omega) hx hy), ih, List.take_add_one (i := k + 1), hy]
    rfl
end Go.Proofs.Ythifljljaejfmaa.W

namespace Go.Proofs.Ythifljljaejfmaa.W
open Go.RowKit Go.Proofs.Ythifljljaejfmaa.V

theorem place_le (x : Int × Int) : ∀ l : List (Int × Int), place x l ≤ l.length
  | [] => Nat.le_refl 0
  | y :: r => by
    have := place_le x r
    rw [place]
    split
    · simp; omega
    · simp
theorem place_lt {x : Int × Int} : ∀ {l : List (Int × Int)} {q : Nat}, q < place x l → ∃ y, l[q]? = some y ∧ lessV y.1 y.2 x.1 x.2 = true
  | [], q, h => absurd h (Nat.not_lt_zero q)
  | y :: r, q, h => by
    rw [place] at h
    split at h
    · rename_i hy
      cases q with
      | zero => exact ⟨y, rfl, hy⟩
      | succ q =>
        obtain ⟨z, hz, hl⟩ := place_lt (x := x) (l := r) (q := q) (by omega)
        exact ⟨z, by simpa using hz, hl⟩
    · exact absurd h (Nat.not_lt_zero q)
theorem place_at {x : Int × Int} : ∀ {l : List (Int × Int)}, place x l < l.length → ∃ y, l[place x l]? = some y ∧ lessV y.1 y.2 x.1 x.2 = false
  | [], h => absurd h (Nat.not_lt_zero _)
  | y :: r, h => by
    by_cases hy : lessV y.1 y.2 x.1 x.2 = true
    · have hp : place x (y :: r) = place x r + 1 := if_pos hy
      rw [hp] at h ⊢
      obtain ⟨z, hz, hl⟩ := place_at (l := r) (x := x) (by simpa using h)
      exact ⟨z, by simpa using hz, hl⟩
    · have hp : place x (y :: r) = 0 := if_neg hy
      rw [hp]
      exact ⟨y, rfl, by simpa using hy⟩
theorem insU_len (out : List (Int × Int)) (x : Int × Int) : (insU out x).length ≤ out.length + 1 := by
  have := place_le x out
  unfold insU
  split
  · omega
  · simp
    omega
theorem ins_take {l : List (Int × Int)} {k : Nat} {x : Int × Int} (h : l[k]? = some x) : insAll (l.take (k + 1)) = insU (insAll (l.take k)) x := by
  unfold insAll
  rw [List.take_add_one, h, Option.toList_some, List.foldl_append]
  rfl
end Go.Proofs.Ythifljljaejfmaa.W

namespace Go.Proofs.Ythifljljaejfmaa.V
open Go.RowKit

def Sm (x y : Int) : Prop := -268435456 ≤ x ∧ x ≤ 268435456 ∧ -268435456 ≤ y ∧ y ≤ 268435456
theorem within_sm {x y : Int} (h : withinV x y 268435456 = true) : Sm x y := by
  unfold withinV at h
  rw [show w64 (-268435456) = -268435456 by rw [w64_eq]; omega] at h
  simp at h
  unfold Sm
  omega
theorem i64_w (n : Int) : IntKind.i64.wrap n = w64 n := by rw [IntKind.wrap_i64, w64_eq]
theorem turn_cyc (ax ay bx bz cx cy : Int) : turnV bx bz cx cy ax ay = turnV ax ay bx bz cx cy := by
  unfold turnV
  rw [show (cx - bx) * (ay - bz) - (cy - bz) * (ax - bx) = (bx - ax) * (cy - ay) - (bz - ay) * (cx - ax) by grind]
theorem turn_moved (ax ay bx bz cx cy vx vy : Int) : turnV (w64 (ax + vx)) (w64 (ay + vy)) (w64 (bx + vx)) (w64 (bz + vy)) (w64 (cx + vx)) (w64 (cy + vy)) = turnV ax ay bx bz cx cy := by
  rw [← turn_cross, ← turn_cross, w64_sub, w64_sub, w64_sub, w64_sub]
  rw [show bx + vx - (ax + vx) = bx - ax by omega, show bz + vy - (ay + vy) = bz - ay by omega, show cx + vx - (ax + vx) = cx - ax by omega, show cy + vy - (ay + vy) = cy - ay by omega]
theorem turn_same (ax ay bx bz : Int) : turnV ax ay bx bz bx bz = 0 := by
  unfold turnV
  rw [Int.mul_comm (bz - ay), Int.sub_self, w64_id ⟨by omega, by omega⟩]
  rfl
theorem abs_mul {x y : Int} (hx : x.natAbs ≤ 536870912) (hy : y.natAbs ≤ 536870912) : (x * y).natAbs ≤ 288230376151711744 := by
  rw [Int.natAbs_mul]
  exact Nat.mul_le_mul hx hy
theorem sgn_neg (n : Int) : sgn (-n) = -sgn n := by unfold sgn; grind
theorem turn_opp {ax ay bx bz cx cy : Int} (ha : Sm ax ay) (hb : Sm bx bz) (hc : Sm cx cy) : turnV ax ay cx cy bx bz = -turnV ax ay bx bz cx cy := by
  unfold Sm at ha hb hc
  unfold turnV
  have h1 := abs_mul (x := bx - ax) (y := cy - ay) (by omega) (by omega)
  have h2 := abs_mul (x := bz - ay) (y := cx - ax) (by omega) (by omega)
  rw [Int.mul_comm (cx - ax), Int.mul_comm (cy - ay)]
  generalize (bx - ax) * (cy - ay) = X at *
  generalize (bz - ay) * (cx - ax) = Y at *
  rw [w64_id ⟨by omega, by omega⟩, w64_id ⟨by omega, by omega⟩, ← sgn_neg]
  congr 1
  omega
theorem turn_range (ax ay bx bz cx cy : Int) : -1 ≤ turnV ax ay bx bz cx cy ∧ turnV ax ay bx bz cx cy ≤ 1 := by
  unfold turnV
  rcases sgn_cases (w64 ((bx - ax) * (cy - ay) - (bz - ay) * (cx - ax))) with ⟨_, e⟩ | ⟨_, e⟩ | ⟨_, e⟩ <;> omega
theorem cmp_opp (ax ay bx bz : Int) : cmpV bx bz ax ay = -cmpV ax ay bx bz := by
  rcases cmpV_cases ax ay bx bz with ⟨h, e⟩ | ⟨h, h', e⟩ | ⟨h, e⟩ <;> rcases cmpV_cases bx bz ax ay with ⟨g, f⟩ | ⟨g, g', f⟩ | ⟨g, f⟩ <;> omega
theorem cmp_moved {ax ay bx bz vx vy : Int} (ha : Sm ax ay) (hb : Sm bx bz) (hv : Sm vx vy) : cmpV (w64 (ax + vx)) (w64 (ay + vy)) (w64 (bx + vx)) (w64 (bz + vy)) = cmpV ax ay bx bz := by
  unfold Sm at ha hb hv
  rw [w64_id (n := ax + vx) ⟨by omega, by omega⟩, w64_id (n := ay + vy) ⟨by omega, by omega⟩, w64_id (n := bx + vx) ⟨by omega, by omega⟩, w64_id (n := bz + vy) ⟨by omega, by omega⟩]
  unfold cmpV
  rw [show ay + vy - (bz + vy) = ay - bz by omega, show ax + vx - (bx + vx) = ax - bx by omega]
theorem cmp_range (ax ay bx bz : Int) : -1 ≤ cmpV ax ay bx bz ∧ cmpV ax ay bx bz ≤ 1 := by
  rcases cmpV_cases ax ay bx bz with ⟨h, e⟩ | ⟨h, h', e⟩ | ⟨h, e⟩ <;> omega
theorem cmp_zero (ax ay bx bz : Int) : cmpV ax ay bx bz = 0 ↔ ax = bx ∧ ay = bz := by
  rcases cmpV_cases ax ay bx bz with ⟨h, e⟩ | ⟨h, h', e⟩ | ⟨h, e⟩ <;> omega
theorem cmp_trans {ax ay bx bz cx cy : Int} (h1 : cmpV ax ay bx bz ≤ 0) (h2 : cmpV bx bz cx cy ≤ 0) : cmpV ax ay cx cy ≤ 0 := by
  rcases cmpV_cases ax ay bx bz with ⟨h, e⟩ | ⟨h, h', e⟩ | ⟨h, e⟩ <;> rcases cmpV_cases bx bz cx cy with ⟨g, f⟩ | ⟨g, g', f⟩ | ⟨g, f⟩ <;> rcases cmpV_cases ax ay cx cy with ⟨k, l⟩ | ⟨k, k', l⟩ | ⟨k, l⟩ <;> omega
end Go.Proofs.Ythifljljaejfmaa.V

namespace Go.Proofs.Ythifljljaejfmaa.W
open Go.RowKit Go.Proofs.Ythifljljaejfmaa.V

theorem mixed7 : Try.prog.follows .mixedOrders = true := by kernel_rfl
/-- a world in which everything that was there in w is unchanged -/
structure KeptW (w : World) where
  wd : World
  since : Nw w wd
instance (w : World) : Inhabited (KeptW w) := ⟨⟨w, Kp.refl _ w⟩⟩
theorem wp_region_kept {P : Program} {id : Nat} {Q : Exit → Act → World → Prop} {a : Act} {w0 w : World} {l : List Oper} (h0 : Nw w0 w) (hm : P.follows .mixedOrders = true) (hB : Region.lexB .any l.toArray = true)
    (h : wpQuiet P l.toArray (fun w' => ∃ p : KeptW w0, w' = p.wd) (fun a' => ∀ w', (∃ p : KeptW w0, w' = p.wd) → Q .normal a' w') l a) : (Code.region id l.toArray true).wp P Q a w :=
  wp_region_quiet (C := fun w' => ∃ p : KeptW w0, w' = p.wd) hm hB ⟨⟨w.drew, h0.drew⟩, rfl⟩ (by simpa using h)
section
variable {P : Program} {f : FuncId} {args : Array Value} {w : World} {p : KeptW w} {v : Value}
theorem Calls.kept_of (h : Calls P f args p.wd fun e w' => e = .returned v ∧ Nw p.wd w') : Calls P f args p.wd fun e w'' => e = .returned v ∧ ∃ q : KeptW w, w'' = q.wd :=
  h.mono fun _ _ ⟨he, hn⟩ => ⟨he, ⟨_, p.since.tr hn⟩, rfl⟩
theorem Calls.kept_same (h : Calls P f args p.wd fun e w' => e = .returned v ∧ p.wd = w') : Calls P f args p.wd fun e w'' => e = .returned v ∧ ∃ q : KeptW w, w'' = q.wd :=
  h.mono fun _ _ ⟨he, hn⟩ => ⟨he, p, hn.symm⟩
theorem Calls.kept_first (h : Calls P f args w fun e w' => e = .returned v ∧ Nw w w') : Calls P f args w fun e w'' => e = .returned v ∧ ∃ q : KeptW w, w'' = q.wd :=
  h.mono fun _ _ ⟨he, hn⟩ => ⟨he, ⟨_, hn⟩, rfl⟩
end
theorem Blk.kept {w : World} {g : Nat} {t : TypeId} {cs : Array Value} (h : Blk w g t cs) (p : KeptW w) : Blk p.wd g t cs := h.kp p.since id

abbrev sV (ax ay bx bz : Int) : Value := .agg #[.int .i64 ax, .int .i64 ay, .int .i64 bx, .int .i64 bz]
abbrev pV (x y d : Int) : Value := .agg #[.int .i64 x, .int .i64 y, .int .i64 d]
end Go.Proofs.Ythifljljaejfmaa.W
