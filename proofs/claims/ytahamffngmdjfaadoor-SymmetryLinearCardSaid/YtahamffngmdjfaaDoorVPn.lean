/-
  vec, plain: the box of a list, the norm of small vectors; no program. Condition: the coordinates are within 2^28 where it says so.
-/
import Derived.Test.YtahamffngmdjfaaDoorVPm
namespace Go.Proofs.YtahamffngmdjfaaDoor.V
open Go.RowKit

theorem step_le (b : Int × Int × Int × Int) (p : Int × Int) : (boxStep b p).1 ≤ b.1 ∧ (boxStep b p).2.1 ≤ b.2.1 ∧ b.2.2.1 ≤ (boxStep b p).2.2.1 ∧ b.2.2.2 ≤ (boxStep b p).2.2.2 ∧ (boxStep b p).1 ≤ p.1 ∧ (boxStep b p).2.1 ≤ p.2 ∧ p.1 ≤ (boxStep b p).2.2.1 ∧ p.2 ≤ (boxStep b p).2.2.2 := by
  unfold boxStep minV maxV
  grind
theorem fold_le (l : List (Int × Int)) : ∀ b : Int × Int × Int × Int, (l.foldl boxStep b).1 ≤ b.1 ∧ (l.foldl boxStep b).2.1 ≤ b.2.1 ∧ b.2.2.1 ≤ (l.foldl boxStep b).2.2.1 ∧ b.2.2.2 ≤ (l.foldl boxStep b).2.2.2 := by
  induction l with
  | nil => intro b; simp
  | cons p r ih =>
    intro b
    have h1 := step_le b p
    have h2 := ih (boxStep b p)
    rw [List.foldl_cons]
    omega
theorem fold_in (l : List (Int × Int)) : ∀ (b : Int × Int × Int × Int), ∀ p ∈ l, (l.foldl boxStep b).1 ≤ p.1 ∧ (l.foldl boxStep b).2.1 ≤ p.2 ∧ p.1 ≤ (l.foldl boxStep b).2.2.1 ∧ p.2 ≤ (l.foldl boxStep b).2.2.2 := by
  induction l with
  | nil => intro b p hp; cases hp
  | cons q r ih =>
    intro b p hp
    rw [List.foldl_cons]
    rcases List.mem_cons.1 hp with rfl | h
    · have h1 := step_le b p
      have h2 := fold_le r (boxStep b p)
      omega
    · exact ih _ p h
theorem step_hit (b : Int × Int × Int × Int) (p : Int × Int) : ((boxStep b p).1 = b.1 ∨ (boxStep b p).1 = p.1) ∧ ((boxStep b p).2.1 = b.2.1 ∨ (boxStep b p).2.1 = p.2) ∧ ((boxStep b p).2.2.1 = b.2.2.1 ∨ (boxStep b p).2.2.1 = p.1) ∧ ((boxStep b p).2.2.2 = b.2.2.2 ∨ (boxStep b p).2.2.2 = p.2) := by
  unfold boxStep minV maxV
  grind
theorem fold_hit (l : List (Int × Int)) : ∀ b : Int × Int × Int × Int, ((l.foldl boxStep b).1 = b.1 ∨ ∃ p ∈ l, p.1 = (l.foldl boxStep b).1) ∧ ((l.foldl boxStep b).2.2.1 = b.2.2.1 ∨ ∃ p ∈ l, p.1 = (l.foldl boxStep b).2.2.1) ∧ ((l.foldl boxStep b).2.1 = b.2.1 ∨ ∃ p ∈ l, p.2 = (l.foldl boxStep b).2.1) ∧ ((l.foldl boxStep b).2.2.2 = b.2.2.2 ∨ ∃ p ∈ l, p.2 = (l.foldl boxStep b).2.2.2) := by
  induction l with
  | nil => intro b; simp
  | cons q r ih =>
    intro b
    obtain ⟨h1, h2, h3, h4⟩ := ih (boxStep b q)
    obtain ⟨s1, s2, s3, s4⟩ := step_hit b q
    rw [List.foldl_cons]
    refine ⟨?_, ?_, ?_, ?_⟩
    · rcases h1 with h | ⟨p, hp, h⟩
      · rcases s1 with s | s
        · exact .inl (h.trans s)
        · exact .inr ⟨q, List.mem_cons_self, (h.trans s).symm⟩
      · exact .inr ⟨p, List.mem_cons_of_mem _ hp, h⟩
    · rcases h2 with h | ⟨p, hp, h⟩
      · rcases s3 with s | s
        · exact .inl (h.trans s)
        · exact .inr ⟨q, List.mem_cons_self, (h.trans s).symm⟩
      · exact .inr ⟨p, List.mem_cons_of_mem _ hp, h⟩
    · rcases h3 with h | ⟨p, hp, h⟩
      · rcases s2 with s | s
        · exact .inl (h.trans s)
        · exact .inr ⟨q, List.mem_cons_self, (h.trans s).symm⟩
      · exact .inr ⟨p, List.mem_cons_of_mem _ hp, h⟩
    · rcases h4 with h | ⟨p, hp, h⟩
      · rcases s4 with s | s
        · exact .inl (h.trans s)
        · exact .inr ⟨q, List.mem_cons_self, (h.trans s).symm⟩
      · exact .inr ⟨p, List.mem_cons_of_mem _ hp, h⟩
/-- whether one of the vectors has its X, or its Y, on a side -/
def onX (l : List (Int × Int)) (x : Int) : Bool := l.any fun p => p.1 == x
def onY (l : List (Int × Int)) (y : Int) : Bool := l.any fun p => p.2 == y
theorem onX_step {l : List (Int × Int)} {i : Nat} {p : Int × Int} (h : l[i]? = some p) (x : Int) : onX (l.take (i + 1)) x = (onX (l.take i) x || p.1 == x) := by
  unfold onX
  rw [List.take_add_one, h, Option.toList_some, List.any_append]
  simp
theorem onY_step {l : List (Int × Int)} {i : Nat} {p : Int × Int} (h : l[i]? = some p) (y : Int) : onY (l.take (i + 1)) y = (onY (l.take i) y || p.2 == y) := by
  unfold onY
  rw [List.take_add_one, h, Option.toList_some, List.any_append]
  simp
theorem box_sides (q : Int × Int) (r : List (Int × Int)) (b : Int × Int × Int × Int) (hb : (q :: r).foldl boxStep (q.1, q.2, q.1, q.2) = b) : onX (q :: r) b.1 = true ∧ onX (q :: r) b.2.2.1 = true ∧ onY (q :: r) b.2.1 = true ∧ onY (q :: r) b.2.2.2 = true := by
  obtain ⟨h1, h2, h3, h4⟩ := fold_hit (q :: r) (q.1, q.2, q.1, q.2)
  rw [hb] at h1 h2 h3 h4
  unfold onX onY
  simp only [List.any_eq_true, beq_iff_eq]
  have hm : q ∈ q :: r := List.mem_cons_self
  refine ⟨?_, ?_, ?_, ?_⟩
  · rcases h1 with h | ⟨p, hp, h⟩
    · exact ⟨q, hm, h.symm⟩
    · exact ⟨p, hp, h⟩
  · rcases h2 with h | ⟨p, hp, h⟩
    · exact ⟨q, hm, h.symm⟩
    · exact ⟨p, hp, h⟩
  · rcases h3 with h | ⟨p, hp, h⟩
    · exact ⟨q, hm, h.symm⟩
    · exact ⟨p, hp, h⟩
  · rcases h4 with h | ⟨p, hp, h⟩
    · exact ⟨q, hm, h.symm⟩
    · exact ⟨p, hp, h⟩
theorem abs_small {x : Int} (h : -536870912 ≤ x ∧ x ≤ 536870912) : absV x = x.natAbs := by
  unfold absV
  split
  · omega
  · rw [w64_id ⟨by omega, by omega⟩]; omega
theorem norm_small {x y : Int} (hx : -536870912 ≤ x ∧ x ≤ 536870912) (hy : -536870912 ≤ y ∧ y ≤ 536870912) : normV x y = (max x.natAbs y.natAbs : Nat) := by
  unfold normV
  rw [abs_small hx, abs_small hy]
  split <;> omega
theorem norm_facts {px py qx qy : Int} (hp : Sm px py) (hq : Sm qx qy) : ¬ normV px py < 0 ∧ ((normV px py == 0) = (px == 0 && py == 0)) ∧ normV (w64 (-px)) (w64 (-py)) = normV px py ∧ IntKind.i64.wrap (normV px py + normV qx qy) = normV px py + normV qx qy ∧ ¬ normV (w64 (px + qx)) (w64 (py + qy)) > normV px py + normV qx qy ∧ withinV px py (normV px py) = true := by
  unfold Sm at hp hq
  have e1 := norm_small (x := px) (y := py) (by omega) (by omega)
  have e2 := norm_small (x := qx) (y := qy) (by omega) (by omega)
  have e3 := norm_small (x := -px) (y := -py) (by omega) (by omega)
  have e4 := norm_small (x := px + qx) (y := py + qy) (by omega) (by omega)
  rw [w64_id (n := -px) ⟨by omega, by omega⟩, w64_id (n := -py) ⟨by omega, by omega⟩, w64_id (n := px + qx) ⟨by omega, by omega⟩, w64_id (n := py + qy) ⟨by omega, by omega⟩, e1, e2, e3, e4, IntKind.wrap_i64]
  have t1 := Int.natAbs_add_le px qx
  have t2 := Int.natAbs_add_le py qy
  have b1 : px.natAbs ≤ 268435456 := by omega
  have b2 : py.natAbs ≤ 268435456 := by omega
  have b3 : qx.natAbs ≤ 268435456 := by omega
  have b4 : qy.natAbs ≤ 268435456 := by omega
  have z1 : px.natAbs = 0 ↔ px = 0 := Int.natAbs_eq_zero
  have z2 : py.natAbs = 0 ↔ py = 0 := Int.natAbs_eq_zero
  refine ⟨by omega, ?_, by rw [Int.natAbs_neg, Int.natAbs_neg], ?_, ?_, ?_⟩
  · apply Bool.eq_iff_iff.2
    simp only [beq_iff_eq, Bool.and_eq_true]
    rw [← z1, ← z2]
    generalize px.natAbs = a
    generalize py.natAbs = b
    omega
  · clear t1 t2 z1 z2 e1 e2 e3 e4 hp hq
    generalize px.natAbs = a at *
    generalize py.natAbs = b at *
    generalize qx.natAbs = c at *
    generalize qy.natAbs = d at *
    omega
  · clear z1 z2 e1 e2 e3 e4 hp hq
    generalize px.natAbs = a at *
    generalize py.natAbs = b at *
    generalize qx.natAbs = c at *
    generalize qy.natAbs = d at *
    generalize (px + qx).natAbs = e at *
    generalize (py + qy).natAbs = f at *
    omega
  · unfold withinV
    have h1 : ((max px.natAbs py.natAbs : Nat) : Int) ≤ 268435456 := by
      generalize px.natAbs = a at *
      generalize py.natAbs = b at *
      omega
    have h2 : px.natAbs ≤ max px.natAbs py.natAbs := Nat.le_max_left _ _
    have h3 : py.natAbs ≤ max px.natAbs py.natAbs := Nat.le_max_right _ _
    clear t1 t2 b1 b2 b3 b4 z1 z2 e1 e2 e3 e4 hp hq
    generalize max px.natAbs py.natAbs = m at *
    rw [w64_id ⟨by omega, by omega⟩]
    simp only [Bool.and_eq_true, decide_eq_true_eq]
    omega
end Go.Proofs.YtahamffngmdjfaaDoor.V
