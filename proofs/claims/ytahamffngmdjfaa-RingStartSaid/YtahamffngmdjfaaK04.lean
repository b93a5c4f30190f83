/-
  Lists of vectors and boxes in memory. No condition.
  vec: Sorted of a list whose sorted form has no two equal neighbours, and what it calls: what they return. Condition: the list is not longer than a slice may be.
  vec, plain: a list in ascending order, each vector once: sorted and then rid of equal neighbours, or inserted one by one; no program. No condition.
  vec, plain: a list that is rid of equal neighbours from its end; no program. No condition.
  vec, plain: where a vector is inserted. No condition.
  vec, plain: the turn and the order of small vectors; no program. Condition: the coordinates are within 2^28 where it says so.
  Regions that draw their order, whose operations only read and whose callees leave all old blocks alone: one walk. No condition.
  seg and its reference: valid segments, points on them and beside them: what each function returns. No condition.
  seg, plain: the ends that lie on both segments, the least and the greatest one of them. No condition.
  What == says of two vectors, boxes, segments and points. No condition.
-/
import Derived.Test.YtahamffngmdjfaaK03
import Derived.Test.YtahamffngmdjfaaLayV
import Derived.Test.YtahamffngmdjfaaK01
import Derived.Deep.QuietTactic
import Derived.Shelf.SlSortCmp.QuietGrown
import Derived.Laws.StructEq
namespace Go.Proofs.Ytahamffngmdjfaa.W
open Go.RowKit Go.Proofs.Ytahamffngmdjfaa.V

abbrev vC (p : Int × Int) : List Value := [.int .i64 p.1, .int .i64 p.2]
/-- a slice that reads as these vectors -/
abbrev SrcV (w : World) (v : Value) (l : List (Int × Int)) : Prop := Src w 2 v l.length (l.flatMap vC)
theorem flatV_at : ∀ (l : List (Int × Int)) (k : Nat) (p : Int × Int), l[k]? = some p → (l.flatMap vC)[k * 2]? = some (.int .i64 p.1) ∧ (l.flatMap vC)[k * 2 + 1]? = some (.int .i64 p.2)
  | [], k, p, h => by simp at h
  | q :: r, 0, p, h => by
    obtain rfl : q = p := by simpa using h
    exact ⟨rfl, rfl⟩
  | q :: r, k + 1, p, h => by
    have hr := flatV_at r k p (by simpa using h)
    rw [List.flatMap_cons, show (k + 1) * 2 = k * 2 + 1 + 1 by omega]
    exact ⟨by simpa [vC] using hr.1, by simpa [vC] using hr.2⟩
theorem flatV_len (l : List (Int × Int)) : (l.flatMap vC).length = l.length * 2 := by
  induction l with
  | nil => rfl
  | cons x r ih => rw [List.flatMap_cons, List.length_append, ih, List.length_cons]; show 2 + r.length * 2 = (r.length + 1) * 2; omega
abbrev boxV (b : Int × Int × Int × Int) : Value := bV b.1 b.2.1 b.2.2.1 b.2.2.2
abbrev boxC (b : Int × Int × Int × Int) : Array Value := #[.int .i64 b.1, .int .i64 b.2.1, .int .i64 b.2.2.1, .int .i64 b.2.2.2]
theorem Blk.lay4a {w : World} {g : Nat} {t : TypeId} {a b c d : Value} (h : Blk w g t #[a, b, c, d]) (x y : Value) : Blk ((w.setCell ⟨g, 0, none⟩ x).setCell ⟨g, 1, none⟩ y) g t #[x, y, c, d] := (h.set_ 0 x).set_ 1 y
theorem Blk.lay4b {w : World} {g : Nat} {t : TypeId} {a b c d : Value} (h : Blk w g t #[a, b, c, d]) (x y : Value) : Blk ((w.setCell ⟨g, 2, none⟩ x).setCell ⟨g, 3, none⟩ y) g t #[a, b, x, y] := (h.set_ 2 x).set_ 3 y
theorem Blk.four {w : World} {g : Nat} {t : TypeId} {a b c d : Value} (h : Blk w g t #[a, b, c, d]) : w.cell? ⟨g, 0, none⟩ = some a ∧ w.cell? ⟨g, 1, none⟩ = some b ∧ w.cell? ⟨g, 2, none⟩ = some c ∧ w.cell? ⟨g, 3, none⟩ = some d ∧ w.frozen? ⟨g, 0, none⟩ = false ∧ w.frozen? ⟨g, 1, none⟩ = false ∧ w.frozen? ⟨g, 2, none⟩ = false ∧ w.frozen? ⟨g, 3, none⟩ = false :=
  ⟨h.cell 0, h.cell 1, h.cell 2, h.cell 3, h.frozen 0, h.frozen 1, h.frozen 2, h.frozen 3⟩

end Go.Proofs.Ytahamffngmdjfaa.W

namespace Go.Proofs.Ytahamffngmdjfaa.W
open Go.RowKit Go.Proofs.Ytahamffngmdjfaa.V

def cf (x y : Int × Int) : Int := cmpV x.1 x.2 y.1 y.2
theorem lt_cf (x y : Int × Int) : ltOf cf x y = lessV x.1 x.2 y.1 y.2 := (less_cmp _ _ _ _).symm
theorem cf_swo : Sort.SWO (ltOf cf) where
  irrefl x := by rw [lt_cf]; unfold lessV; simp
  trans x y z h1 h2 := by rw [lt_cf] at *; unfold lessV at *; simp at *; omega
  ntrans x y z h1 h2 := by rw [lt_cf] at *; unfold lessV at *; simp at *; omega
theorem cf_total (x y : Int × Int) (h1 : ltOf cf x y = false) (h2 : ltOf cf y x = false) : x = y := by
  rw [lt_cf] at h1 h2
  unfold lessV at h1 h2
  obtain ⟨a, b⟩ := x
  obtain ⟨c, d⟩ := y
  simp at h1 h2
  have : a = c ∧ b = d := by omega
  rw [this.1, this.2]
/-- the list in ascending order -/
def sortV (l : List (Int × Int)) : List (Int × Int) := l.mergeSort fun x y => !(ltOf cf) y x
theorem sortV_len (l : List (Int × Int)) : (sortV l).length = l.length := List.length_mergeSort l

theorem kp_sort (w : World) (g off m : Nat) (d : Array (Int × Int)) (os : Array Obj) : Kp (fun b => b = g) w (sortWorldK vC 2 w g off m d os) := by
  refine ⟨rfl, rfl, rfl, size_sortWorldK_c vC 2 w g off m d os, fun i hi hne => ?_⟩
  unfold sortWorldK Sort.putRowK
  rw [Sort.heap_grow_old _ _ (by rw [Sort.size_putRow]; exact hi)]
  show (w.heap.modify g _)[i]? = _
  rw [Array.getElem?_modify]
  simp [Ne.symm hne]

theorem cmpLays (blk off size : Nat) (w : World) : CmpLays Try.prog 38 #[] vC 2 cf blk off size w :=
  fun _ _ _ _ x y => compare_any x.1 x.2 y.1 y.2 _

theorem sort_any (g cap : Nat) (l : List (Int × Int)) (w : World) (hH : Sort.HoldsK vC 2 w g 0 l.toArray) (hg : g < w.heap.size) (hl : l.length ≤ 1099511627776) :
    Calls Try.prog 99 #[.slice (some ⟨g, 0, none⟩) l.length cap, .func (.func 38) #[] #[]] w fun e w' => e = .returned (.tuple #[]) ∧ Kp (fun b => b = g) w w' ∧ Sort.HoldsK vC 2 w' g 0 (sortV l).toArray := by
  have eg : ∀ args w, (callFunc 38 args).run Try.prog w = .ok (.enter 38 args) w := enters_of Try.func38 (by kernel_rfl) rfl
  have hcon := AnyQ.slices_SortFunc_total Try.sortVec 2 Try.isAgg23 Try.sizeOf23 vC (fun _ => rfl) (fun x v hv => by simp [vC] at hv; rcases hv with rfl | rfl <;> rfl) cf cf_swo 38 #[] g 0 cap l.toArray w eg (cmpLays g 0 l.toArray.size w) hH hg (by simp; omega) cf_total
  refine Calls.mono hcon ?_
  rintro e w' ⟨rfl, n, os, rfl⟩
  refine ⟨rfl, kp_sort _ _ _ _ _ _, ?_⟩
  exact holdsK_sortWorldK_c vC 2 w g 0 l.toArray (sortV l).toArray n os hH hg (by simp [sortV_len])
end Go.Proofs.Ytahamffngmdjfaa.W

namespace Go.Proofs.Ytahamffngmdjfaa.W
open Go.RowKit Go.Proofs.Ytahamffngmdjfaa.V

abbrev ltV (x y : Int × Int) : Prop := lessV x.1 x.2 y.1 y.2 = true
theorem ltV_iff (x y : Int × Int) : ltV x y ↔ x.2 < y.2 ∨ x.2 = y.2 ∧ x.1 < y.1 := by
  unfold ltV lessV
  simp
theorem ltV_irrefl (x : Int × Int) : ¬ ltV x x := by rw [ltV_iff]; omega
theorem ltV_trans {x y z : Int × Int} (h : ltV x y) (k : ltV y z) : ltV x z := by rw [ltV_iff] at *; omega
theorem ltV_tri (x y : Int × Int) : ltV x y ∨ x = y ∨ ltV y x := by
  obtain ⟨a, b⟩ := x
  obtain ⟨c, d⟩ := y
  rw [ltV_iff, ltV_iff]
  by_cases h : a = c ∧ b = d
  · exact .inr (.inl (by rw [h.1, h.2]))
  · have : ¬ ((a, b) = (c, d)) := fun e => h (by injection e with e1 e2; exact ⟨e1, e2⟩)
    simp only []
    omega
/-- strictly ascending -/
abbrev Asc (l : List (Int × Int)) : Prop := l.Pairwise ltV
theorem asc_unique : ∀ {a b : List (Int × Int)}, Asc a → Asc b → (∀ x, x ∈ a ↔ x ∈ b) → a = b
  | [], [], _, _, _ => rfl
  | [], y :: s, _, _, h => by have := (h y).2 List.mem_cons_self; cases this
  | x :: r, [], _, _, h => by have := (h x).1 List.mem_cons_self; cases this
  | x :: r, y :: s, ha, hb, h => by
    obtain ⟨a1, a2⟩ := List.pairwise_cons.1 ha
    obtain ⟨b1, b2⟩ := List.pairwise_cons.1 hb
    have hxy : x = y := by
      rcases List.mem_cons.1 ((h x).1 List.mem_cons_self) with e | e
      · exact e
      · rcases List.mem_cons.1 ((h y).2 List.mem_cons_self) with f | f
        · exact f.symm
        · exact absurd (ltV_trans (a1 y f) (b1 x e)) (ltV_irrefl x)
    subst hxy
    rw [asc_unique a2 b2 fun z => ⟨fun hz => by
      rcases List.mem_cons.1 ((h z).1 (List.mem_cons_of_mem _ hz)) with e | e
      · subst e; exact absurd (a1 z hz) (ltV_irrefl z)
      · exact e, fun hz => by
      rcases List.mem_cons.1 ((h z).2 (List.mem_cons_of_mem _ hz)) with e | e
      · subst e; exact absurd (b1 z hz) (ltV_irrefl z)
      · exact e⟩]

/-- rid of equal neighbours -/
def dd : List (Int × Int) → List (Int × Int)
  | [] => []
  | [x] => [x]
  | x :: y :: r => if x = y then dd (y :: r) else x :: dd (y :: r)
theorem dd_mem : ∀ (l : List (Int × Int)) (z : Int × Int), z ∈ dd l ↔ z ∈ l
  | [], z => by simp [dd]
  | [x], z => by simp [dd]
  | x :: y :: r, z => by
    unfold dd
    have ih := dd_mem (y :: r) z
    split
    · rename_i h
      subst h
      rw [ih]
      simp
    · rw [List.mem_cons, ih, List.mem_cons (a := z) (b := x)]
/-- ascending, equal ones allowed -/
abbrev Wk (l : List (Int × Int)) : Prop := l.Pairwise fun x y => ¬ ltV y x
theorem dd_asc : ∀ (l : List (Int × Int)), Wk l → Asc (dd l)
  | [], _ => by simp [dd]
  | [x], _ => by simp [dd]
  | x :: y :: r, h => by
    obtain ⟨h1, h2⟩ := List.pairwise_cons.1 h
    have ih := dd_asc (y :: r) h2
    unfold dd
    split
    · exact ih
    · rename_i hne
      refine List.pairwise_cons.2 ⟨fun z hz => ?_, ih⟩
      have hz' := (dd_mem _ z).1 hz
      have hxy : ltV x y := by
        rcases ltV_tri x y with k | k | k
        · exact k
        · exact absurd k hne
        · exact absurd k (h1 y List.mem_cons_self)
      rcases List.mem_cons.1 hz' with rfl | hzr
      · exact hxy
      · rcases ltV_tri y z with k | k | k
        · exact ltV_trans hxy k
        · rw [← k]; exact hxy
        · exact absurd k ((List.pairwise_cons.1 h2).1 z hzr)
theorem sort_wk (l : List (Int × Int)) : Wk (sortV l) := by
  have h := List.pairwise_mergeSort (le := fun x y => !(ltOf cf) y x) (fun a b c h1 h2 => by
    simp only [lt_cf, Bool.not_eq_true', ] at *
    have e1 := mt (ltV_iff b a).2 (by simpa using h1)
    have e2 := mt (ltV_iff c b).2 (by simpa using h2)
    have : ¬ ltV c a := by rw [ltV_iff]; omega
    simpa using this) (fun a b => by
    simp only [lt_cf]
    rcases ltV_tri a b with h | h | h
    · have : ¬ ltV b a := fun k => ltV_irrefl a (ltV_trans h k)
      simp at this
      simp [this]
    · subst h
      have := ltV_irrefl a
      simp at this
      simp [this]
    · have : ¬ ltV a b := fun k => ltV_irrefl a (ltV_trans k h)
      simp at this
      simp [this]) l
  refine h.imp fun {a b} hab => ?_
  rw [lt_cf] at hab
  simpa using hab
theorem sort_mem (l : List (Int × Int)) (z : Int × Int) : z ∈ sortV l ↔ z ∈ l := List.mem_mergeSort

/-- where a vector is inserted: behind all lesser ones -/
def place (x : Int × Int) : List (Int × Int) → Nat
  | [] => 0
  | y :: r => if lessV y.1 y.2 x.1 x.2 then place x r + 1 else 0
def insU (out : List (Int × Int)) (x : Int × Int) : List (Int × Int) := if out[place x out]? = some x then out else out.take (place x out) ++ x :: out.drop (place x out)
theorem insU_cons (y : Int × Int) (r : List (Int × Int)) (x : Int × Int) : insU (y :: r) x = if ltV y x then y :: insU r x else if y = x then y :: r else x :: y :: r := by
  by_cases h : lessV y.1 y.2 x.1 x.2 = true
  · have hp : place x (y :: r) = place x r + 1 := if_pos h
    rw [if_pos h, insU, insU, hp, List.getElem?_cons_succ]
    split <;> rfl
  · have hp : place x (y :: r) = 0 := if_neg h
    rw [if_neg h, insU, hp]
    simp
theorem insU_mem (out : List (Int × Int)) (x z : Int × Int) : z ∈ insU out x ↔ z = x ∨ z ∈ out := by
  induction out with
  | nil => simp [insU, place]
  | cons y r ih =>
    rw [insU_cons]
    split
    · rw [List.mem_cons, ih, List.mem_cons]
      constructor
      · rintro (h | h | h)
        · exact .inr (.inl h)
        · exact .inl h
        · exact .inr (.inr h)
      · rintro (h | h | h)
        · exact .inr (.inl h)
        · exact .inl h
        · exact .inr (.inr h)
    · split
      · rename_i _ h
        subst h
        simp
      · simp
theorem insU_asc (out : List (Int × Int)) (x : Int × Int) (h : Asc out) : Asc (insU out x) := by
  induction out with
  | nil => simp [insU, place]
  | cons y r ih =>
    obtain ⟨h1, h2⟩ := List.pairwise_cons.1 h
    rw [insU_cons]
    split
    · rename_i hyx
      refine List.pairwise_cons.2 ⟨fun z hz => ?_, ih h2⟩
      rcases (insU_mem r x z).1 hz with rfl | hz
      · exact hyx
      · exact h1 z hz
    · split
      · exact h
      · rename_i hyx hne
        have hxy : ltV x y := by
          rcases ltV_tri x y with k | k | k
          · exact k
          · exact absurd k.symm hne
          · exact absurd k hyx
        refine List.pairwise_cons.2 ⟨fun z hz => ?_, h⟩
        rcases List.mem_cons.1 hz with rfl | hz
        · exact hxy
        · exact ltV_trans hxy (h1 z hz)
def insAll (l : List (Int × Int)) : List (Int × Int) := l.foldl insU []
theorem fold_ins (l : List (Int × Int)) : ∀ out, Asc out → Asc (l.foldl insU out) ∧ ∀ z, z ∈ l.foldl insU out ↔ z ∈ out ∨ z ∈ l := by
  induction l with
  | nil => intro out h; simp [h]
  | cons x r ih =>
    intro out h
    obtain ⟨a, b⟩ := ih (insU out x) (insU_asc out x h)
    refine ⟨a, fun z => ?_⟩
    rw [List.foldl_cons, b z, insU_mem, List.mem_cons]
    constructor
    · rintro ((h | h) | h)
      · exact .inr (.inl h)
      · exact .inl h
      · exact .inr (.inr h)
    · rintro (h | h | h)
      · exact .inl (.inr h)
      · exact .inl (.inl h)
      · exact .inr h
theorem ins_dd (l : List (Int × Int)) : insAll l = dd (sortV l) := by
  obtain ⟨h1, h2⟩ := fold_ins l [] List.Pairwise.nil
  refine asc_unique h1 (dd_asc _ (sort_wk l)) fun z => ?_
  rw [dd_mem, sort_mem]
  have := h2 z
  simpa [insAll] using this
end Go.Proofs.Ytahamffngmdjfaa.W

namespace Go.Proofs.Ytahamffngmdjfaa.W
open Go.RowKit Go.Proofs.Ytahamffngmdjfaa.V

theorem dd_two : ∀ (l : List (Int × Int)) (x y : Int × Int), dd (l ++ [x, y]) = if x = y then dd (l ++ [x]) else dd (l ++ [x]) ++ [y]
  | [], x, y => by
    show dd [x, y] = if x = y then dd [x] else dd [x] ++ [y]
    unfold dd
    split
    · rename_i h
      subst h
      rfl
    · rfl
  | [a], x, y => by
    have ih := dd_two [] x y
    show dd (a :: x :: [y]) = if x = y then dd (a :: x :: []) else dd (a :: x :: []) ++ [y]
    have e1 : dd (a :: x :: [y]) = if a = x then dd (x :: [y]) else a :: dd (x :: [y]) := rfl
    have e2 : dd (a :: x :: []) = if a = x then dd (x :: []) else a :: dd (x :: []) := rfl
    have ih : dd (x :: [y]) = if x = y then dd (x :: []) else dd (x :: []) ++ [y] := ih
    rw [e1, e2, ih]
    split <;> split <;> rfl
  | a :: b :: r, x, y => by
    have ih : dd (b :: (r ++ [x, y])) = if x = y then dd (b :: (r ++ [x])) else dd (b :: (r ++ [x])) ++ [y] := dd_two (b :: r) x y
    show dd (a :: b :: (r ++ [x, y])) = if x = y then dd (a :: b :: (r ++ [x])) else dd (a :: b :: (r ++ [x])) ++ [y]
    have e1 : dd (a :: b :: (r ++ [x, y])) = if a = b then dd (b :: (r ++ [x, y])) else a :: dd (b :: (r ++ [x, y])) := rfl
    have e2 : dd (a :: b :: (r ++ [x])) = if a = b then dd (b :: (r ++ [x])) else a :: dd (b :: (r ++ [x])) := rfl
    rw [e1, e2, ih]
    split <;> split <;> rfl
theorem dd_step {l : List (Int × Int)} {m : Nat} {x y : Int × Int} (hx : l[m]? = some x) (hy : l[m + 1]? = some y) : dd (l.take (m + 1 + 1)) = if x = y then dd (l.take (m + 1)) else dd (l.take (m + 1)) ++ [y] := by
  rw [List.take_add_one (i := m + 1), hy, List.take_add_one, hx, Option.toList_some, Option.toList_some, List.append_assoc]
  exact dd_two (l.take m) x y
theorem dd_len (l : List (Int × Int)) : (dd l).length ≤ l.length := by
  match l with
  | [] => simp [dd]
  | [x] => simp [dd]
  | x :: y :: r =>
    have ih := dd_len (y :: r)
    rw [dd]
    split
    · simp at ih ⊢; omega
    · simp at ih ⊢; omega
theorem dd_apart : ∀ (l : List (Int × Int)) (k : Nat), k ≤ l.length → (∀ i p q, i + 1 < k → l[i]? = some p → l[i + 1]? = some q → p ≠ q) → dd (l.take k) = l.take k
  | l, 0, _, _ => by simp [dd]
  | l, 1, h, _ => by
    match l, h with
    | x :: r, _ => simp [dd]
  | l, k + 2, h, ha => by
    have ih := dd_apart l (k + 1) (by omega) fun i p q hi => ha i p q (by omega)
    obtain ⟨x, hx⟩ : ∃ x, l[k]? = some x := ⟨l[k]'(by omega), List.getElem?_eq_getElem _⟩
    obtain ⟨y, hy⟩ : ∃ y, l[k + 1]? = some y := ⟨l[k + 1]'(by omega), List.getElem?_eq_getElem _⟩
    rw [dd_step hx hy, if_neg (ha k x y (by omega) hx hy), ih, List.take_add_one (i := k + 1), hy]
    rfl
end Go.Proofs.Ytahamffngmdjfaa.W

namespace Go.Proofs.Ytahamffngmdjfaa.W
open Go.RowKit Go.Proofs.Ytahamffngmdjfaa.V

theorem place_le (x : Int × Int) : ∀ l : List (Int × Int), place x l ≤ l.length
  | [] => Nat.le_refl 0
  | y :: r => by
    have := place_le x r
    rw [place]
    split
    · simp; omega
    · simp
theorem place_lt {x : Int × Int} : ∀ {l : List (Int × Int)} {q : Nat}, q < place x l → ∃ y, l[q]? = some y ∧ lessV y.1 y.2 x.1 x.2 = true
  | [], q, h => absurd h (Nat.not_lt_zero q)
  | y :: r, q, h => by
    rw [place] at h
    split at h
    · rename_i hy
      cases q with
      | zero => exact ⟨y, rfl, hy⟩
      | succ q =>
        obtain ⟨z, hz, hl⟩ := place_lt (x := x) (l := r) (q := q) (by omega)
        exact ⟨z, by simpa using hz, hl⟩
    · exact absurd h (Nat.not_lt_zero q)
theorem place_at {x : Int × Int} : ∀ {l : List (Int × Int)}, place x l < l.length → ∃ y, l[place x l]? = some y ∧ lessV y.1 y.2 x.1 x.2 = false
  | [], h => absurd h (Nat.not_lt_zero _)
  | y :: r, h => by
    by_cases hy : lessV y.1 y.2 x.1 x.2 = true
    · have hp : place x (y :: r) = place x r + 1 := if_pos hy
      rw [hp] at h ⊢
      obtain ⟨z, hz, hl⟩ := place_at (l := r) (x := x) (by simpa using h)
      exact ⟨z, by simpa using hz, hl⟩
    · have hp : place x (y :: r) = 0 := if_neg hy
      rw [hp]
      exact ⟨y, rfl, by simpa using hy⟩
theorem insU_len (out : List (Int × Int)) (x : Int × Int) : (insU out x).length ≤ out.length + 1 := by
  have := place_le x out
  unfold insU
  split
  · omega
  · simp
    omega
theorem ins_take {l : List (Int × Int)} {k : Nat} {x : Int × Int} (h : l[k]? = some x) : insAll (l.take (k + 1)) = insU (insAll (l.take k)) x := by
  unfold insAll
  rw [List.take_add_one, h, Option.toList_some, List.foldl_append]
  rfl
end Go.Proofs.Ytahamffngmdjfaa.W

namespace Go.Proofs.Ytahamffngmdjfaa.V
open Go.RowKit

def Sm (x y : Int) : Prop := -268435456 ≤ x ∧ x ≤ 268435456 ∧ -268435456 ≤ y ∧ y ≤ 268435456
theorem within_sm {x y : Int} (h : withinV x y 268435456 = true) : Sm x y := by
  unfold withinV at h
  rw [show w64 (-268435456) = -268435456 by rw [w64_eq]; omega] at h
  simp at h
  unfold Sm
  omega
theorem i64_w (n : Int) : IntKind.i64.wrap n = w64 n := by rw [IntKind.wrap_i64, w64_eq]
theorem turn_cyc (ax ay bx bz cx cy : Int) : turnV bx bz cx cy ax ay = turnV ax ay bx bz cx cy := by
  unfold turnV
  rw [show (cx - bx) * (ay - bz) - (cy - bz) * (ax - bx) = (bx - ax) * (cy - ay) - (bz - ay) * (cx - ax) by grind]
theorem turn_moved (ax ay bx bz cx cy vx vy : Int) : turnV (w64 (ax + vx)) (w64 (ay + vy)) (w64 (bx + vx)) (w64 (bz + vy)) (w64 (cx + vx)) (w64 (cy + vy)) = turnV ax ay bx bz cx cy := by
  rw [← turn_cross, ← turn_cross, w64_sub, w64_sub, w64_sub, w64_sub]
  rw [show bx + vx - (ax + vx) = bx - ax by omega, show bz + vy - (ay + vy) = bz - ay by omega, show cx + vx - (ax + vx) = cx - ax by omega, show cy + vy - (ay + vy) = cy - ay by omega]
theorem turn_same (ax ay bx bz : Int) : turnV ax ay bx bz bx bz = 0 := by
  unfold turnV
  rw [Int.mul_comm (bz - ay), Int.sub_self, w64_id ⟨by omega, by omega⟩]
  rfl
theorem abs_mul {x y : Int} (hx : x.natAbs ≤ 536870912) (hy : y.natAbs ≤ 536870912) : (x * y).natAbs ≤ 288230376151711744 := by
  rw [Int.natAbs_mul]
  exact Nat.mul_le_mul hx hy
theorem sgn_neg (n : Int) : sgn (-n) = -sgn n := by unfold sgn; grind
theorem turn_opp {ax ay bx bz cx cy : Int} (ha : Sm ax ay) (hb : Sm bx bz) (hc : Sm cx cy) : turnV ax ay cx cy bx bz = -turnV ax ay bx bz cx cy := by
  unfold Sm at ha hb hc
  unfold turnV
  have h1 := abs_mul (x := bx - ax) (y := cy - ay) (by omega) (by omega)
  have h2 := abs_mul (x := bz - ay) (y := cx - ax) (by omega) (by omega)
  rw [Int.mul_comm (cx - ax), Int.mul_comm (cy - ay)]
  generalize (bx - ax) * (cy - ay) = X at *
  generalize (bz - ay) * (cx - ax) = Y at *
  rw [w64_id ⟨by omega, by omega⟩, w64_id ⟨by omega, by omega⟩, ← sgn_neg]
  congr 1
  omega
theorem turn_range (ax ay bx bz cx cy : Int) : -1 ≤ turnV ax ay bx bz cx cy ∧ turnV ax ay bx bz cx cy ≤ 1 := by
  unfold turnV
  rcases sgn_cases (w64 ((bx - ax) * (cy - ay) - (bz - ay) * (cx - ax))) with ⟨_, e⟩ | ⟨_, e⟩ | ⟨_, e⟩ <;> omega
theorem cmp_opp (ax ay bx bz : Int) : cmpV bx bz ax ay = -cmpV ax ay bx bz := by
  rcases cmpV_cases ax ay bx bz with ⟨h, e⟩ | ⟨h, h', e⟩ | ⟨h, e⟩ <;> rcases cmpV_cases bx bz ax ay with ⟨g, f⟩ | ⟨g, g', f⟩ | ⟨g, f⟩ <;> omega
theorem cmp_moved {ax ay bx bz vx vy : Int} (ha : Sm ax ay) (hb : Sm bx bz) (hv : Sm vx vy) : cmpV (w64 (ax + vx)) (w64 (ay + vy)) (w64 (bx + vx)) (w64 (bz + vy)) = cmpV ax ay bx bz := by
  unfold Sm at ha hb hv
  rw [w64_id (n := ax + vx) ⟨by omega, by omega⟩, w64_id (n := ay + vy) ⟨by omega, by omega⟩, w64_id (n := bx + vx) ⟨by omega, by omega⟩, w64_id (n := bz + vy) ⟨by omega, by omega⟩]
  unfold cmpV
  rw [show ay + vy - (bz + vy) = ay - bz by omega, show ax + vx - (bx + vx) = ax - bx by omega]
theorem cmp_range (ax ay bx bz : Int) : -1 ≤ cmpV ax ay bx bz ∧ cmpV ax ay bx bz ≤ 1 := by
  rcases cmpV_cases ax ay bx bz with ⟨h, e⟩ | ⟨h, h', e⟩ | ⟨h, e⟩ <;> omega
theorem cmp_zero (ax ay bx bz : Int) : cmpV ax ay bx bz = 0 ↔ ax = bx ∧ ay = bz := by
  rcases cmpV_cases ax ay bx bz with ⟨h, e⟩ | ⟨h, h', e⟩ | ⟨h, e⟩ <;> omega
theorem cmp_trans {ax ay bx bz cx cy : Int} (h1 : cmpV ax ay bx bz ≤ 0) (h2 : cmpV bx bz cx cy ≤ 0) : cmpV ax ay cx cy ≤ 0 := by
  rcases cmpV_cases ax ay bx bz with ⟨h, e⟩ | ⟨h, h', e⟩ | ⟨h, e⟩ <;> rcases cmpV_cases bx bz cx cy with ⟨g, f⟩ | ⟨g, g', f⟩ | ⟨g, f⟩ <;> rcases cmpV_cases ax ay cx cy with ⟨k, l⟩ | ⟨k, k', l⟩ | ⟨k, l⟩ <;> omega
end Go.Proofs.Ytahamffngmdjfaa.V

namespace Go.Proofs.Ytahamffngmdjfaa.W
open Go.RowKit Go.Proofs.Ytahamffngmdjfaa.V

theorem mixed7 : Try.prog.follows .mixedOrders = true := by kernel_rfl
/-- a world in which everything that was there in w is unchanged -/
structure KeptW (w : World) where
  wd : World
  since : Nw w wd
instance (w : World) : Inhabited (KeptW w) := ⟨⟨w, Kp.refl _ w⟩⟩
theorem wp_region_kept {P : Program} {id : Nat} {Q : Exit → Act → World → Prop} {a : Act} {w0 w : World} {l : List Oper} (h0 : Nw w0 w) (hm : P.follows .mixedOrders = true) (hB : Region.lexB .any l.toArray = true)
    (h : wpQuiet P l.toArray (fun w' => ∃ p : KeptW w0, w' = p.wd) (fun a' => ∀ w', (∃ p : KeptW w0, w' = p.wd) → Q .normal a' w') l a) : (Code.region id l.toArray true).wp P Q a w :=
  wp_region_quiet (C := fun w' => ∃ p : KeptW w0, w' = p.wd) hm hB ⟨⟨w.drew, h0.drew⟩, rfl⟩ (by simpa using h)
section
variable {P : Program} {f : FuncId} {args : Array Value} {w : World} {p : KeptW w} {v : Value}
theorem Calls.kept_of (h : Calls P f args p.wd fun e w' => e = .returned v ∧ Nw p.wd w') : Calls P f args p.wd fun e w'' => e = .returned v ∧ ∃ q : KeptW w, w'' = q.wd :=
  h.mono fun _ _ ⟨he, hn⟩ => ⟨he, ⟨_, p.since.tr hn⟩, rfl⟩
theorem Calls.kept_same (h : Calls P f args p.wd fun e w' => e = .returned v ∧ p.wd = w') : Calls P f args p.wd fun e w'' => e = .returned v ∧ ∃ q : KeptW w, w'' = q.wd :=
  h.mono fun _ _ ⟨he, hn⟩ => ⟨he, p, hn.symm⟩
theorem Calls.kept_first (h : Calls P f args w fun e w' => e = .returned v ∧ Nw w w') : Calls P f args w fun e w'' => e = .returned v ∧ ∃ q : KeptW w, w'' = q.wd :=
  h.mono fun _ _ ⟨he, hn⟩ => ⟨he, ⟨_, hn⟩, rfl⟩
end
theorem Blk.kept {w : World} {g : Nat} {t : TypeId} {cs : Array Value} (h : Blk w g t cs) (p : KeptW w) : Blk p.wd g t cs := h.kp p.since id

abbrev sV (ax ay bx bz : Int) : Value := .agg #[.int .i64 ax, .int .i64 ay, .int .i64 bx, .int .i64 bz]
abbrev pV (x y d : Int) : Value := .agg #[.int .i64 x, .int .i64 y, .int .i64 d]
end Go.Proofs.Ytahamffngmdjfaa.W

namespace Go.Proofs.Ytahamffngmdjfaa.W
open Go.RowKit Go.Proofs.Ytahamffngmdjfaa.V

def validS (ax ay bx bz : Int) : Bool := withinV ax ay 4000 && withinV bx bz 4000
def conS (ax ay bx bz px py : Int) : Bool := (turnV ax ay bx bz px py == 0) && decide (dotV (w64 (ax - px)) (w64 (ay - py)) (w64 (bx - px)) (w64 (bz - py)) ≤ 0)
def partS (ax ay bx bz cx cy dx dy : Int) : Bool := decide (turnV ax ay bx bz cx cy * turnV ax ay bx bz dx dy < 0)
def onS (ax ay bx bz px py : Int) : Bool := validS ax ay bx bz && withinV px py 4000 && conS ax ay bx bz px py
def sideS (ax ay bx bz px py : Int) : Int := if validS ax ay bx bz && withinV px py 4000 then turnV ax ay bx bz px py else 0
theorem mul_turn {t u : Int} (h : -1 ≤ t ∧ t ≤ 1) (g : -1 ≤ u ∧ u ≤ 1) : IntKind.i64.wrap (t * u) = t * u := by
  rcases (show t = -1 ∨ t = 0 ∨ t = 1 by omega) with rfl | rfl | rfl <;> rcases (show u = -1 ∨ u = 0 ∨ u = 1 by omega) with rfl | rfl | rfl <;> decide +kernel

set_option maxHeartbeats 800000 in
theorem valid_any (ax ay bx bz : Int) (w : World) : Calls Try.prog 56 #[sV ax ay bx bz] w fun e w' => e = .returned (.bool (validS ax ay bx bz)) ∧ Nw w w' := by
  have c1 := fun w1 => within_any ax ay 4000 w1
  have c2 := fun w1 => within_any bx bz 4000 w1
  unfold validS
  generalize withinV ax ay 4000 = a at *
  generalize withinV bx bz 4000 = b at *
  have hb0 := Blk.new_at w 48 #[.int .i64 ax, .int .i64 ay, .int .i64 bx, .int .i64 bz] (n := w.heap.size) (by simp)
  have hk0 : ∀ p : KeptW (w.alloc (.cells #[.int .i64 ax, .int .i64 ay, .int .i64 bx, .int .i64 bz] 48)), Blk p.wd (w.heap.size) 48 #[.int .i64 ax, .int .i64 ay, .int .i64 bx, .int .i64 bz] := fun p => hb0.kept p
  have q0 := fun p => (hk0 p).cell 0
  have q1 := fun p => (hk0 p).cell 1
  have q2 := fun p => (hk0 p).cell 2
  have q3 := fun p => (hk0 p).cell 3
  skip
  clear hb0 hk0
  cases a
  · go_enter Try.func56, Try.ntmps56
    go_wp2_with (first | (go_at_call 42; ((with_reducible refine (Calls.kept_first (c1 _)).mono ?_); rintro e _ ⟨rfl, p, rfl⟩)) | (go_at_call 42; ((with_reducible refine (Calls.kept_of (c2 _)).mono ?_); rintro e _ ⟨rfl, p, rfl⟩)) | fail)
    go_ret
    exact ⟨by simp, ((nw_alloc _ _)).tr p.since⟩
  · go_enter Try.func56, Try.ntmps56
    go_wp2_with (first | (go_at_call 42; ((with_reducible refine (Calls.kept_first (c1 _)).mono ?_); rintro e _ ⟨rfl, p, rfl⟩)) | (go_at_call 42; ((with_reducible refine (Calls.kept_of (c2 _)).mono ?_); rintro e _ ⟨rfl, p, rfl⟩)) | fail)
    go_ret
    exact ⟨by simp, ((nw_alloc _ _)).tr p.since⟩

set_option maxHeartbeats 800000 in
theorem rvalid_any (ax ay bx bz : Int) (w : World) : Calls Try.prog 57 #[sV ax ay bx bz] w fun e w' => e = .returned (.bool (validS ax ay bx bz)) ∧ Nw w w' := by
  have c1 := fun w1 => rwithin_any ax ay 4000 w1
  have c2 := fun w1 => rwithin_any bx bz 4000 w1
  unfold validS
  generalize withinV ax ay 4000 = a at *
  generalize withinV bx bz 4000 = b at *
  have hb0 := Blk.new_at w 48 #[.int .i64 ax, .int .i64 ay, .int .i64 bx, .int .i64 bz] (n := w.heap.size) (by simp)
  have hk0 : ∀ p : KeptW (w.alloc (.cells #[.int .i64 ax, .int .i64 ay, .int .i64 bx, .int .i64 bz] 48)), Blk p.wd (w.heap.size) 48 #[.int .i64 ax, .int .i64 ay, .int .i64 bx, .int .i64 bz] := fun p => hb0.kept p
  have q0 := fun p => (hk0 p).cell 0
  have q1 := fun p => (hk0 p).cell 1
  have q2 := fun p => (hk0 p).cell 2
  have q3 := fun p => (hk0 p).cell 3
  skip
  clear hb0 hk0
  cases a
  · go_enter Try.func57, Try.ntmps57
    go_wp2_with (first | (go_at_call 43; ((with_reducible refine (Calls.kept_first (c1 _)).mono ?_); rintro e _ ⟨rfl, p, rfl⟩)) | (go_at_call 43; ((with_reducible refine (Calls.kept_of (c2 _)).mono ?_); rintro e _ ⟨rfl, p, rfl⟩)) | fail)
    go_ret
    exact ⟨by simp, ((nw_alloc _ _)).tr p.since⟩
  · go_enter Try.func57, Try.ntmps57
    go_wp2_with (first | (go_at_call 43; ((with_reducible refine (Calls.kept_first (c1 _)).mono ?_); rintro e _ ⟨rfl, p, rfl⟩)) | (go_at_call 43; ((with_reducible refine (Calls.kept_of (c2 _)).mono ?_); rintro e _ ⟨rfl, p, rfl⟩)) | fail)
    go_ret
    exact ⟨by simp, ((nw_alloc _ _)).tr p.since⟩

set_option maxHeartbeats 1600000 in
theorem contains_any (ax ay bx bz px py : Int) (w : World) : Calls Try.prog 105 #[sV ax ay bx bz, vV px py] w fun e w' => e = .returned (.bool (conS ax ay bx bz px py)) ∧ Nw w w' := by
  have ct := fun w1 => turn_any ax ay bx bz px py w1
  have c1 := fun w1 => sub_any ax ay px py w1
  have c2 := fun w1 => sub_any bx bz px py w1
  have cd := fun w1 => dot_any (w64 (ax - px)) (w64 (ay - py)) (w64 (bx - px)) (w64 (bz - py)) w1
  unfold conS
  generalize dotV (w64 (ax - px)) (w64 (ay - py)) (w64 (bx - px)) (w64 (bz - py)) = r at *
  generalize w64 (ax - px) = x1 at *
  generalize w64 (ay - py) = x2 at *
  generalize w64 (bx - px) = x3 at *
  generalize w64 (bz - py) = x4 at *
  generalize turnV ax ay bx bz px py = t at *
  have hmix := mixed7
  have hb0 := Blk.new_at w 48 #[.int .i64 ax, .int .i64 ay, .int .i64 bx, .int .i64 bz] (n := w.heap.size) (by simp)
  have hb1 := Blk.new_at (w.alloc (.cells #[.int .i64 ax, .int .i64 ay, .int .i64 bx, .int .i64 bz] 48)) 23 #[.int .i64 px, .int .i64 py] (n := w.heap.size + 1) (by simp)
  have hk0 : ∀ p : KeptW ((w.alloc (.cells #[.int .i64 ax, .int .i64 ay, .int .i64 bx, .int .i64 bz] 48)).alloc (.cells #[.int .i64 px, .int .i64 py] 23)), Blk p.wd (w.heap.size) 48 #[.int .i64 ax, .int .i64 ay, .int .i64 bx, .int .i64 bz] := fun p => (hb0.alloc _).kept p
  have q0 := fun p => (hk0 p).cell 0
  have q1 := fun p => (hk0 p).cell 1
  have q2 := fun p => (hk0 p).cell 2
  have q3 := fun p => (hk0 p).cell 3
  have hk1 : ∀ p : KeptW ((w.alloc (.cells #[.int .i64 ax, .int .i64 ay, .int .i64 bx, .int .i64 bz] 48)).alloc (.cells #[.int .i64 px, .int .i64 py] 23)), Blk p.wd (w.heap.size + 1) 23 #[.int .i64 px, .int .i64 py] := fun p => hb1.kept p
  have q4 := fun p => (hk1 p).cell 0
  have q5 := fun p => (hk1 p).cell 1
  skip
  clear hb0 hk0 hb1 hk1
  obtain ⟨z, hz⟩ : ∃ z, decide (r ≤ 0) = z := ⟨_, rfl⟩
  obtain ⟨y, hy⟩ : ∃ y, (t == 0) = y := ⟨_, rfl⟩
  cases y
  · go_enter Try.func105, Try.ntmps105
    go_wp2_with fail
    refine wp_region_kept (Kp.refl _ _) (by assumption) (by kernel_rfl) ?_
    repeat (with_reducible refine wpQuiet_step (fun K hK => ?_); go_simp; first | ((with_reducible refine hK _ ?_); clear hK K) | (with_reducible apply Exists.intro; (with_reducible refine ⟨fun _ => ?_, hK _ ?_⟩); ((first | (go_at_call 36; with_reducible exact Calls.kept_of (ct _)) | (go_at_call 24; with_reducible exact Calls.kept_of (c1 _)) | (go_at_call 24; with_reducible exact Calls.kept_of (c2 _)) | (go_at_call 30; with_reducible exact Calls.kept_of (cd _)) | fail)); clear hK K))
    with_reducible refine wpQuiet_nil ?_
    rintro _ ⟨p, rfl⟩
    go_wp2
    go_ret
    exact ⟨by simp [hy, hz], ((nw_alloc _ _).alloc _).tr p.since⟩
  · go_enter Try.func105, Try.ntmps105
    go_wp2_with fail
    refine wp_region_kept (Kp.refl _ _) (by assumption) (by kernel_rfl) ?_
    repeat (with_reducible refine wpQuiet_step (fun K hK => ?_); go_simp; first | ((with_reducible refine hK _ ?_); clear hK K) | (with_reducible apply Exists.intro; (with_reducible refine ⟨fun _ => ?_, hK _ ?_⟩); ((first | (go_at_call 36; with_reducible exact Calls.kept_of (ct _)) | (go_at_call 24; with_reducible exact Calls.kept_of (c1 _)) | (go_at_call 24; with_reducible exact Calls.kept_of (c2 _)) | (go_at_call 30; with_reducible exact Calls.kept_of (cd _)) | fail)); clear hK K))
    with_reducible refine wpQuiet_nil ?_
    rintro _ ⟨p, rfl⟩
    go_wp2
    go_ret
    exact ⟨by simp [hy, hz], ((nw_alloc _ _).alloc _).tr p.since⟩

set_option maxHeartbeats 1600000 in
theorem parts_any (ax ay bx bz cx cy dx dy : Int) (w : World) : Calls Try.prog 141 #[sV ax ay bx bz, sV cx cy dx dy] w fun e w' => e = .returned (.bool (partS ax ay bx bz cx cy dx dy)) ∧ Nw w w' := by
  have c1 := fun w1 => turn_any ax ay bx bz cx cy w1
  have c2 := fun w1 => turn_any ax ay bx bz dx dy w1
  have hm := mul_turn (turn_range ax ay bx bz cx cy) (turn_range ax ay bx bz dx dy)
  unfold partS
  generalize turnV ax ay bx bz cx cy = t at *
  generalize turnV ax ay bx bz dx dy = u at *
  have hmix := mixed7
  have hb0 := Blk.new_at w 48 #[.int .i64 ax, .int .i64 ay, .int .i64 bx, .int .i64 bz] (n := w.heap.size) (by simp)
  have hb1 := Blk.new_at (w.alloc (.cells #[.int .i64 ax, .int .i64 ay, .int .i64 bx, .int .i64 bz] 48)) 48 #[.int .i64 cx, .int .i64 cy, .int .i64 dx, .int .i64 dy] (n := w.heap.size + 1) (by simp)
  have hk0 : ∀ p : KeptW ((w.alloc (.cells #[.int .i64 ax, .int .i64 ay, .int .i64 bx, .int .i64 bz] 48)).alloc (.cells #[.int .i64 cx, .int .i64 cy, .int .i64 dx, .int .i64 dy] 48)), Blk p.wd (w.heap.size) 48 #[.int .i64 ax, .int .i64 ay, .int .i64 bx, .int .i64 bz] := fun p => (hb0.alloc _).kept p
  have q0 := fun p => (hk0 p).cell 0
  have q1 := fun p => (hk0 p).cell 1
  have q2 := fun p => (hk0 p).cell 2
  have q3 := fun p => (hk0 p).cell 3
  have hk1 : ∀ p : KeptW ((w.alloc (.cells #[.int .i64 ax, .int .i64 ay, .int .i64 bx, .int .i64 bz] 48)).alloc (.cells #[.int .i64 cx, .int .i64 cy, .int .i64 dx, .int .i64 dy] 48)), Blk p.wd (w.heap.size + 1) 48 #[.int .i64 cx, .int .i64 cy, .int .i64 dx, .int .i64 dy] := fun p => hb1.kept p
  have q4 := fun p => (hk1 p).cell 0
  have q5 := fun p => (hk1 p).cell 1
  have q6 := fun p => (hk1 p).cell 2
  have q7 := fun p => (hk1 p).cell 3
  skip
  clear hb0 hk0 hb1 hk1
  go_enter Try.func141, Try.ntmps141
  go_wp2_with fail
  refine wp_region_kept (Kp.refl _ _) (by assumption) (by kernel_rfl) ?_
  repeat (with_reducible refine wpQuiet_step (fun K hK => ?_); go_simp; first | ((with_reducible refine hK _ ?_); clear hK K) | (with_reducible apply Exists.intro; (with_reducible refine ⟨fun _ => ?_, hK _ ?_⟩); ((first | (go_at_call 36; with_reducible exact Calls.kept_of (c1 _)) | (go_at_call 36; with_reducible exact Calls.kept_of (c2 _)) | fail)); clear hK K))
  with_reducible refine wpQuiet_nil ?_
  rintro _ ⟨p, rfl⟩
  go_wp2
  go_ret
  exact ⟨rfl, ((nw_alloc _ _).alloc _).tr p.since⟩

set_option maxHeartbeats 1600000 in
theorem on_any (ax ay bx bz px py : Int) (w : World) : Calls Try.prog 62 #[sV ax ay bx bz, vV px py] w fun e w' => e = .returned (.bool (onS ax ay bx bz px py)) ∧ Nw w w' := by
  have c1 := fun w1 => valid_any ax ay bx bz w1
  have c2 := fun w1 => within_any px py 4000 w1
  have c3 := fun w1 => contains_any ax ay bx bz px py w1
  unfold onS
  generalize validS ax ay bx bz = a at *
  generalize withinV px py 4000 = b at *
  generalize conS ax ay bx bz px py = c at *
  have hb0 := Blk.new_at w 48 #[.int .i64 ax, .int .i64 ay, .int .i64 bx, .int .i64 bz] (n := w.heap.size) (by simp)
  have hb1 := Blk.new_at (w.alloc (.cells #[.int .i64 ax, .int .i64 ay, .int .i64 bx, .int .i64 bz] 48)) 23 #[.int .i64 px, .int .i64 py] (n := w.heap.size + 1) (by simp)
  have hk0 : ∀ p : KeptW ((w.alloc (.cells #[.int .i64 ax, .int .i64 ay, .int .i64 bx, .int .i64 bz] 48)).alloc (.cells #[.int .i64 px, .int .i64 py] 23)), Blk p.wd (w.heap.size) 48 #[.int .i64 ax, .int .i64 ay, .int .i64 bx, .int .i64 bz] := fun p => (hb0.alloc _).kept p
  have q0 := fun p => (hk0 p).cell 0
  have q1 := fun p => (hk0 p).cell 1
  have q2 := fun p => (hk0 p).cell 2
  have q3 := fun p => (hk0 p).cell 3
  have hk1 : ∀ p : KeptW ((w.alloc (.cells #[.int .i64 ax, .int .i64 ay, .int .i64 bx, .int .i64 bz] 48)).alloc (.cells #[.int .i64 px, .int .i64 py] 23)), Blk p.wd (w.heap.size + 1) 23 #[.int .i64 px, .int .i64 py] := fun p => hb1.kept p
  have q4 := fun p => (hk1 p).cell 0
  have q5 := fun p => (hk1 p).cell 1
  skip
  clear hb0 hk0 hb1 hk1
  cases a
  · go_enter Try.func62, Try.ntmps62
    go_wp2_with (first | (go_at_call 56; ((with_reducible refine (Calls.kept_first (c1 _)).mono ?_); rintro e _ ⟨rfl, p, rfl⟩)) | fail)
    go_ret
    exact ⟨by simp, ((nw_alloc _ _).alloc _).tr p.since⟩
  · cases b
    · go_enter Try.func62, Try.ntmps62
      go_wp2_with (first | (go_at_call 56; ((with_reducible refine (Calls.kept_first (c1 _)).mono ?_); rintro e _ ⟨rfl, p, rfl⟩)) | (go_at_call 42; ((with_reducible refine (Calls.kept_of (c2 _)).mono ?_); rintro e _ ⟨rfl, p, rfl⟩)) | (go_at_call 105; ((with_reducible refine (Calls.kept_of (c3 _)).mono ?_); rintro e _ ⟨rfl, p, rfl⟩)) | fail)
      go_ret
      exact ⟨by simp, ((nw_alloc _ _).alloc _).tr p.since⟩
    · go_enter Try.func62, Try.ntmps62
      go_wp2_with (first | (go_at_call 56; ((with_reducible refine (Calls.kept_first (c1 _)).mono ?_); rintro e _ ⟨rfl, p, rfl⟩)) | (go_at_call 42; ((with_reducible refine (Calls.kept_of (c2 _)).mono ?_); rintro e _ ⟨rfl, p, rfl⟩)) | (go_at_call 105; ((with_reducible refine (Calls.kept_of (c3 _)).mono ?_); rintro e _ ⟨rfl, p, rfl⟩)) | fail)
      go_ret
      exact ⟨by simp, ((nw_alloc _ _).alloc _).tr p.since⟩

set_option maxHeartbeats 1600000 in
theorem side_any (ax ay bx bz px py : Int) (w : World) : Calls Try.prog 64 #[sV ax ay bx bz, vV px py] w fun e w' => e = .returned (.int .i64 (sideS ax ay bx bz px py)) ∧ Nw w w' := by
  have c1 := fun w1 => valid_any ax ay bx bz w1
  have c2 := fun w1 => within_any px py 4000 w1
  have c3 := fun w1 => turn_any ax ay bx bz px py w1
  unfold sideS
  generalize validS ax ay bx bz = a at *
  generalize withinV px py 4000 = b at *
  generalize turnV ax ay bx bz px py = c at *
  have hb0 := Blk.new_at w 48 #[.int .i64 ax, .int .i64 ay, .int .i64 bx, .int .i64 bz] (n := w.heap.size) (by simp)
  have hb1 := Blk.new_at (w.alloc (.cells #[.int .i64 ax, .int .i64 ay, .int .i64 bx, .int .i64 bz] 48)) 23 #[.int .i64 px, .int .i64 py] (n := w.heap.size + 1) (by simp)
  have hk0 : ∀ p : KeptW ((w.alloc (.cells #[.int .i64 ax, .int .i64 ay, .int .i64 bx, .int .i64 bz] 48)).alloc (.cells #[.int .i64 px, .int .i64 py] 23)), Blk p.wd (w.heap.size) 48 #[.int .i64 ax, .int .i64 ay, .int .i64 bx, .int .i64 bz] := fun p => (hb0.alloc _).kept p
  have q0 := fun p => (hk0 p).cell 0
  have q1 := fun p => (hk0 p).cell 1
  have q2 := fun p => (hk0 p).cell 2
  have q3 := fun p => (hk0 p).cell 3
  have hk1 : ∀ p : KeptW ((w.alloc (.cells #[.int .i64 ax, .int .i64 ay, .int .i64 bx, .int .i64 bz] 48)).alloc (.cells #[.int .i64 px, .int .i64 py] 23)), Blk p.wd (w.heap.size + 1) 23 #[.int .i64 px, .int .i64 py] := fun p => hb1.kept p
  have q4 := fun p => (hk1 p).cell 0
  have q5 := fun p => (hk1 p).cell 1
  skip
  clear hb0 hk0 hb1 hk1
  cases a
  · go_enter Try.func64, Try.ntmps64
    go_wp2_with (first | (go_at_call 56; ((with_reducible refine (Calls.kept_first (c1 _)).mono ?_); rintro e _ ⟨rfl, p, rfl⟩)) | fail)
    go_ret
    exact ⟨by simp, ((nw_alloc _ _).alloc _).tr p.since⟩
  · cases b
    · go_enter Try.func64, Try.ntmps64
      go_wp2_with (first | (go_at_call 56; ((with_reducible refine (Calls.kept_first (c1 _)).mono ?_); rintro e _ ⟨rfl, p, rfl⟩)) | (go_at_call 42; ((with_reducible refine (Calls.kept_of (c2 _)).mono ?_); rintro e _ ⟨rfl, p, rfl⟩)) | (go_at_call 36; ((with_reducible refine (Calls.kept_of (c3 _)).mono ?_); rintro e _ ⟨rfl, p, rfl⟩)) | fail)
      go_ret
      exact ⟨by simp, ((nw_alloc _ _).alloc _).tr p.since⟩
    · go_enter Try.func64, Try.ntmps64
      go_wp2_with (first | (go_at_call 56; ((with_reducible refine (Calls.kept_first (c1 _)).mono ?_); rintro e _ ⟨rfl, p, rfl⟩)) | (go_at_call 42; ((with_reducible refine (Calls.kept_of (c2 _)).mono ?_); rintro e _ ⟨rfl, p, rfl⟩)) | (go_at_call 36; ((with_reducible refine (Calls.kept_of (c3 _)).mono ?_); rintro e _ ⟨rfl, p, rfl⟩)) | fail)
      go_ret
      exact ⟨by simp, ((nw_alloc _ _).alloc _).tr p.since⟩

set_option maxHeartbeats 1600000 in
theorem rside_any (ax ay bx bz px py : Int) (w : World) : Calls Try.prog 65 #[sV ax ay bx bz, vV px py] w fun e w' => e = .returned (.int .i64 (sideS ax ay bx bz px py)) ∧ Nw w w' := by
  have c1 := fun w1 => rvalid_any ax ay bx bz w1
  have c2 := fun w1 => rwithin_any px py 4000 w1
  have c3 := fun w1 => rturn_any ax ay bx bz px py w1
  unfold sideS
  generalize validS ax ay bx bz = a at *
  generalize withinV px py 4000 = b at *
  generalize turnV ax ay bx bz px py = c at *
  have hb0 := Blk.new_at w 48 #[.int .i64 ax, .int .i64 ay, .int .i64 bx, .int .i64 bz] (n := w.heap.size) (by simp)
  have hb1 := Blk.new_at (w.alloc (.cells #[.int .i64 ax, .int .i64 ay, .int .i64 bx, .int .i64 bz] 48)) 23 #[.int .i64 px, .int .i64 py] (n := w.heap.size + 1) (by simp)
  have hk0 : ∀ p : KeptW ((w.alloc (.cells #[.int .i64 ax, .int .i64 ay, .int .i64 bx, .int .i64 bz] 48)).alloc (.cells #[.int .i64 px, .int .i64 py] 23)), Blk p.wd (w.heap.size) 48 #[.int .i64 ax, .int .i64 ay, .int .i64 bx, .int .i64 bz] := fun p => (hb0.alloc _).kept p
  have q0 := fun p => (hk0 p).cell 0
  have q1 := fun p => (hk0 p).cell 1
  have q2 := fun p => (hk0 p).cell 2
  have q3 := fun p => (hk0 p).cell 3
  have hk1 : ∀ p : KeptW ((w.alloc (.cells #[.int .i64 ax, .int .i64 ay, .int .i64 bx, .int .i64 bz] 48)).alloc (.cells #[.int .i64 px, .int .i64 py] 23)), Blk p.wd (w.heap.size + 1) 23 #[.int .i64 px, .int .i64 py] := fun p => hb1.kept p
  have q4 := fun p => (hk1 p).cell 0
  have q5 := fun p => (hk1 p).cell 1
  skip
  clear hb0 hk0 hb1 hk1
  cases a
  · go_enter Try.func65, Try.ntmps65
    go_wp2_with (first | (go_at_call 57; ((with_reducible refine (Calls.kept_first (c1 _)).mono ?_); rintro e _ ⟨rfl, p, rfl⟩)) | fail)
    go_ret
    exact ⟨by simp, ((nw_alloc _ _).alloc _).tr p.since⟩
  · cases b
    · go_enter Try.func65, Try.ntmps65
      go_wp2_with (first | (go_at_call 57; ((with_reducible refine (Calls.kept_first (c1 _)).mono ?_); rintro e _ ⟨rfl, p, rfl⟩)) | (go_at_call 43; ((with_reducible refine (Calls.kept_of (c2 _)).mono ?_); rintro e _ ⟨rfl, p, rfl⟩)) | (go_at_call 37; ((with_reducible refine (Calls.kept_of (c3 _)).mono ?_); rintro e _ ⟨rfl, p, rfl⟩)) | fail)
      go_ret
      exact ⟨by simp, ((nw_alloc _ _).alloc _).tr p.since⟩
    · go_enter Try.func65, Try.ntmps65
      go_wp2_with (first | (go_at_call 57; ((with_reducible refine (Calls.kept_first (c1 _)).mono ?_); rintro e _ ⟨rfl, p, rfl⟩)) | (go_at_call 43; ((with_reducible refine (Calls.kept_of (c2 _)).mono ?_); rintro e _ ⟨rfl, p, rfl⟩)) | (go_at_call 37; ((with_reducible refine (Calls.kept_of (c3 _)).mono ?_); rintro e _ ⟨rfl, p, rfl⟩)) | fail)
      go_ret
      exact ⟨by simp, ((nw_alloc _ _).alloc _).tr p.since⟩

end Go.Proofs.Ytahamffngmdjfaa.W

namespace Go.Proofs.Ytahamffngmdjfaa.W
open Go.RowKit Go.Proofs.Ytahamffngmdjfaa.V

def firstV : List (Int × Int) → Int × Int
  | [] => (0, 0)
  | x :: _ => x
def lastV (L : List (Int × Int)) : Int × Int := L.getLast?.getD (0, 0)
theorem lastV_is : ∀ {L : List (Int × Int)}, Asc L → L ≠ [] → lastV L ∈ L ∧ ∀ z ∈ L, z = lastV L ∨ ltV z (lastV L)
  | [], _, h => absurd rfl h
  | [x], _, _ => ⟨by simp [lastV], fun z hz => .inl (by simpa [lastV] using hz)⟩
  | x :: y :: r, h, _ => by
    obtain ⟨h1, h2⟩ := List.pairwise_cons.1 h
    obtain ⟨i1, i2⟩ := lastV_is h2 (by simp)
    have e : lastV (x :: y :: r) = lastV (y :: r) := by simp [lastV, List.getLast?_cons_cons]
    rw [e]
    refine ⟨List.mem_cons_of_mem _ i1, fun z hz => ?_⟩
    rcases List.mem_cons.1 hz with rfl | hz
    · exact .inr (h1 _ i1)
    · exact i2 z hz
theorem last_unique {L : List (Int × Int)} {m n : Int × Int} (hm : m ∈ L ∧ ∀ z ∈ L, z = m ∨ ltV z m) (hn : n ∈ L ∧ ∀ z ∈ L, z = n ∨ ltV z n) : m = n := by
  rcases hm.2 n hn.1 with h | h
  · exact h.symm
  · rcases hn.2 m hm.1 with g | g
    · exact g
    · exact absurd (ltV_trans h g) (ltV_irrefl _)
theorem insU_ne (L : List (Int × Int)) (x : Int × Int) : insU L x ≠ [] := by
  intro h
  have := (insU_mem L x x).2 (.inl rfl)
  rw [h] at this
  cases this
theorem first_ins (L : List (Int × Int)) (x : Int × Int) : firstV (insU L x) = if L = [] ∨ ltV x (firstV L) then x else firstV L := by
  cases L with
  | nil => simp [insU, place, firstV]
  | cons y r =>
    rw [insU_cons]
    show firstV _ = if (y :: r = []) ∨ ltV x y then x else y
    rcases ltV_tri x y with h | h | h
    · rw [if_neg (fun k => ltV_irrefl x (ltV_trans h k)), if_neg (fun e => ltV_irrefl x (by rw [e] at h; exact h)), if_pos (.inr h)]
      rfl
    · subst h
      rw [if_neg (ltV_irrefl x), if_pos rfl]
      simp [firstV]
    · rw [if_pos h, if_neg (by rintro (k | k); cases k; exact ltV_irrefl x (ltV_trans k h))]
      rfl
theorem last_ins {L : List (Int × Int)} (hL : Asc L) (x : Int × Int) : lastV (insU L x) = if L = [] ∨ ltV (lastV L) x then x else lastV L := by
  have h := lastV_is (insU_asc L x hL) (insU_ne L x)
  by_cases h0 : L = []
  · subst h0
    simp [insU, place, lastV]
  · have g := lastV_is hL h0
    by_cases h1 : ltV (lastV L) x
    · rw [if_pos (.inr h1)]
      refine last_unique h ⟨(insU_mem L x x).2 (.inl rfl), fun z hz => ?_⟩
      rcases (insU_mem L x z).1 hz with e | e
      · exact .inl e
      · rcases g.2 z e with f | f
        · rw [f]; exact .inr h1
        · exact .inr (ltV_trans f h1)
    · rw [if_neg (by rintro (k | k); exact h0 k; exact h1 k)]
      refine last_unique h ⟨(insU_mem L x _).2 (.inr g.1), fun z hz => ?_⟩
      rcases (insU_mem L x z).1 hz with e | e
      · subst e
        rcases ltV_tri z (lastV L) with k | k | k
        · exact .inr k
        · exact .inl k
        · exact absurd k h1
      · exact g.2 z e
/-- the least one, the greatest one, and whether there is one -/
def shStep (s : (Int × Int) × (Int × Int) × Bool) (x : Int × Int) : (Int × Int) × (Int × Int) × Bool :=
  (if s.2.2 = false ∨ ltV x s.1 then x else s.1, if s.2.2 = false ∨ ltV s.2.1 x then x else s.2.1, true)
theorem sh_fold (xs : List (Int × Int)) : ∀ L, Asc L → xs.foldl shStep (firstV L, lastV L, !L.isEmpty) = (firstV (xs.foldl insU L), lastV (xs.foldl insU L), !(xs.foldl insU L).isEmpty) := by
  induction xs with
  | nil => intro L _; rfl
  | cons x r ih =>
    intro L hL
    rw [List.foldl_cons, List.foldl_cons, ← ih (insU L x) (insU_asc L x hL)]
    congr 1
    unfold shStep
    have e : (!(insU L x).isEmpty) = true := by
      have := insU_ne L x
      cases hx : insU L x with
      | nil => exact absurd hx this
      | cons => rfl
    have e' : (!L.isEmpty) = false ↔ L = [] := by cases L <;> simp
    rw [e, first_ins, last_ins hL]
    simp only [e']
def endsL (ax ay bx bz cx cy dx dy : Int) : List (Int × Int) := [(ax, ay), (bx, bz), (cx, cy), (dx, dy)]
def bothS (ax ay bx bz cx cy dx dy : Int) (p : Int × Int) : Bool := conS ax ay bx bz p.1 p.2 && conS cx cy dx dy p.1 p.2
def comS (ax ay bx bz cx cy dx dy : Int) : List (Int × Int) := insAll ((endsL ax ay bx bz cx cy dx dy).filter (bothS ax ay bx bz cx cy dx dy))
def sharedS (ax ay bx bz cx cy dx dy : Int) (k : Nat) : (Int × Int) × (Int × Int) × Bool := (((endsL ax ay bx bz cx cy dx dy).take k).filter (bothS ax ay bx bz cx cy dx dy)).foldl shStep ((0, 0), (0, 0), false)
theorem shared_end (ax ay bx bz cx cy dx dy : Int) : sharedS ax ay bx bz cx cy dx dy 4 = (firstV (comS ax ay bx bz cx cy dx dy), lastV (comS ax ay bx bz cx cy dx dy), !(comS ax ay bx bz cx cy dx dy).isEmpty) := sh_fold _ [] List.Pairwise.nil
theorem com_asc (ax ay bx bz cx cy dx dy : Int) : Asc (comS ax ay bx bz cx cy dx dy) := (fold_ins _ [] List.Pairwise.nil).1
theorem com_mem (ax ay bx bz cx cy dx dy : Int) (z : Int × Int) : z ∈ comS ax ay bx bz cx cy dx dy ↔ z ∈ endsL ax ay bx bz cx cy dx dy ∧ bothS ax ay bx bz cx cy dx dy z = true := by
  have := (fold_ins ((endsL ax ay bx bz cx cy dx dy).filter (bothS ax ay bx bz cx cy dx dy)) [] List.Pairwise.nil).2 z
  rw [List.mem_filter] at this
  unfold comS insAll
  simpa using this
theorem shared_step (ax ay bx bz cx cy dx dy : Int) (k : Nat) (x : Int × Int) (h : (endsL ax ay bx bz cx cy dx dy)[k]? = some x) : sharedS ax ay bx bz cx cy dx dy (k + 1) = if bothS ax ay bx bz cx cy dx dy x then shStep (sharedS ax ay bx bz cx cy dx dy k) x else sharedS ax ay bx bz cx cy dx dy k := by
  unfold sharedS
  rw [List.take_add_one, h, Option.toList_some, List.filter_append, List.foldl_append]
  cases hb : bothS ax ay bx bz cx cy dx dy x <;> simp [hb]
end Go.Proofs.Ytahamffngmdjfaa.W

namespace Go.Proofs.Ytahamffngmdjfaa.W
open Go.RowKit Go.Proofs.Ytahamffngmdjfaa.V

theorem eql_pt (x1 x2 x3 y1 y2 y3 : Int) (w : World) : (binOp .eql 50 (.agg #[.int .i64 x1, .int .i64 x2, .int .i64 x3]) (.agg #[.int .i64 y1, .int .i64 y2, .int .i64 y3])).run Try.prog w = .ok (.bool (x1 == y1 && x2 == y2 && x3 == y3)) w := by
  have u3 := Try.underlying3
  have a3 := Try.isAgg3
  have z3 := Try.sizeOf3
  have hS : Try.prog.underlying 50 = some (.struct (Try.prog.fieldsOf 50)) := by kernel_rfl
  have hp : Try.prog.stoodInHeld 50 = false := by kernel_rfl
  rw [run_eql_struct, show (10000 : Nat) = 9999 + 1 from rfl, run_equalIn_agg w 9999 50 _ _ hS hp]
  simp only [Program.fieldsOf, Try.underlying50]
  go_simp
  by_cases h1 : x1 = y1 <;> by_cases h2 : x2 = y2 <;> by_cases h3 : x3 = y3 <;> simp [h1, h2, h3]
theorem eql_seg (x1 x2 x3 x4 y1 y2 y3 y4 : Int) (w : World) : (binOp .eql 48 (.agg #[.int .i64 x1, .int .i64 x2, .int .i64 x3, .int .i64 x4]) (.agg #[.int .i64 y1, .int .i64 y2, .int .i64 y3, .int .i64 y4])).run Try.prog w = .ok (.bool ((x1 == y1 && x2 == y2) && (x3 == y3 && x4 == y4))) w := by
  have hS : Try.prog.underlying 48 = some (.struct (Try.prog.fieldsOf 48)) := by kernel_rfl
  have hp : Try.prog.stoodInHeld 48 = false := by kernel_rfl
  have s3 : Try.prog.cellsOf 23 = 2 := by kernel_rfl
  have s4 := Try.isAgg23
  rw [run_eql_struct, show (10000 : Nat) = 9999 + 1 from rfl, run_equalIn_agg w 9999 48 _ _ hS hp]
  simp only [Program.fieldsOf, Try.underlying48]
  go_simp
  by_cases h1 : x1 = y1 <;> by_cases h2 : x2 = y2 <;> by_cases h3 : x3 = y3 <;> by_cases h4 : x4 = y4 <;> simp [h1, h2, h3, h4]
theorem eql_box (x1 x2 x3 x4 y1 y2 y3 y4 : Int) (w : World) : (binOp .eql 38 (.agg #[.int .i64 x1, .int .i64 x2, .int .i64 x3, .int .i64 x4]) (.agg #[.int .i64 y1, .int .i64 y2, .int .i64 y3, .int .i64 y4])).run Try.prog w = .ok (.bool ((x1 == y1 && x2 == y2) && (x3 == y3 && x4 == y4))) w := by
  have hS : Try.prog.underlying 38 = some (.struct (Try.prog.fieldsOf 38)) := by kernel_rfl
  have hp : Try.prog.stoodInHeld 38 = false := by kernel_rfl
  have s3 : Try.prog.cellsOf 23 = 2 := by kernel_rfl
  have s4 := Try.isAgg23
  rw [run_eql_struct, show (10000 : Nat) = 9999 + 1 from rfl, run_equalIn_agg w 9999 38 _ _ hS hp]
  simp only [Program.fieldsOf, Try.underlying38]
  go_simp
  by_cases h1 : x1 = y1 <;> by_cases h2 : x2 = y2 <;> by_cases h3 : x3 = y3 <;> by_cases h4 : x4 = y4 <;> simp [h1, h2, h3, h4]
theorem eql_vecg (x1 x2 y1 y2 : Int) (w : World) : (binOp .eql 23 (.agg #[.int .i64 x1, .int .i64 x2]) (.agg #[.int .i64 y1, .int .i64 y2])).run Try.prog w = .ok (.bool (x1 == y1 && x2 == y2)) w := by
  have u3 := Try.underlying3
  have a3 := Try.isAgg3
  have z3 := Try.sizeOf3
  have hS : Try.prog.underlying 23 = some (.struct (Try.prog.fieldsOf 23)) := by kernel_rfl
  have hp : Try.prog.stoodInHeld 23 = false := by kernel_rfl
  rw [run_eql_struct, show (10000 : Nat) = 9999 + 1 from rfl, run_equalIn_agg w 9999 23 _ _ hS hp]
  simp only [Program.fieldsOf, Try.underlying23]
  go_simp
  by_cases h1 : x1 = y1 <;> by_cases h2 : x2 = y2 <;> simp [h1, h2]
end Go.Proofs.Ytahamffngmdjfaa.W
