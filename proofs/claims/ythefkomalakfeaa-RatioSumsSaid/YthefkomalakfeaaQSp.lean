/-
  Sums of ratios, plain: the opposite order, one after the other; a row of ratios that is made. No condition.
-/
import Derived.Test.YthefkomalakfeaaQAw
import Derived.Test.YthefkomalakfeaaRNv
namespace Go.Proofs.Ythefkomalakfeaa.W
open Go.RowKit Go.Proofs.Ythefkomalakfeaa.Q

theorem foldl_acc (l : List Rat) (a : Rat) : l.foldl (· + ·) a = a + l.foldl (· + ·) 0 := by
  induction l generalizing a with
  | nil => simp [Rat.add_zero]
  | cons x r ih => rw [List.foldl_cons, List.foldl_cons, ih (a + x), ih (0 + x), Rat.zero_add, Rat.add_assoc]
theorem total_cons (x : Rat) (l : List Rat) : total (x :: l) = x + total l := by
  unfold total
  rw [List.foldl_cons, foldl_acc, Rat.zero_add]
theorem total_snoc (x : Rat) (l : List Rat) : total (l ++ [x]) = total l + x := by
  unfold total
  rw [List.foldl_append]
  rfl
theorem total_rev (l : List Rat) : total l.reverse = total l := by
  induction l with
  | nil => rfl
  | cons x r ih => rw [List.reverse_cons, total_snoc, ih, total_cons, Rat.add_comm]
theorem sum_rev (l : List (Int × Int)) : sumR l.reverse = sumR l := by
  unfold sumR
  have h : (∀ p ∈ l.reverse, Vld p.1 p.2) ↔ ∀ p ∈ l, Vld p.1 p.2 := ⟨fun h p hp => h p (List.mem_reverse.2 hp), fun h p hp => h p (List.mem_reverse.1 hp)⟩
  rw [List.length_reverse, List.map_reverse, total_rev]
  by_cases k : ∀ p ∈ l, Vld p.1 p.2
  · rw [if_pos k, if_pos (h.2 k)]
  · rw [if_neg k, if_neg (fun e => k (h.1 e))]

/-- the sum of the first k, one after the other -/
def Inv (l : List (Int × Int)) (k : Nat) (n d : Int) : Prop := Vld n d ∧ I64 n ∧ I64 d ∧ (∀ p ∈ l.take k, Vld p.1 p.2) ∧ Rat.divInt n d = total ((l.take k).map fun p => Rat.divInt p.1 p.2)
theorem inv_zero (l : List (Int × Int)) : Inv l 0 0 1 := ⟨by decide +kernel, ⟨by omega, by omega⟩, ⟨by omega, by omega⟩, by simp, by show Rat.divInt 0 1 = total []; decide +kernel⟩
theorem inv_step {l : List (Int × Int)} {k : Nat} {n d : Int} {x : Int × Int} (h : Inv l k n d) (hx : l[k]? = some x) (ho : (addR n d x.1 x.2).2.2 = 0) : Inv l (k + 1) (addR n d x.1 x.2).1 (addR n d x.1 x.2).2.1 := by
  obtain ⟨h1, _, _, h2, h3⟩ := h
  have hv : Vld x.1 x.2 := Classical.byContradiction fun hb => by
    have : addR n d x.1 x.2 = (0, 0, 1) := both_bad (fun h => hb h.2)
    rw [this] at ho
    simp at ho
  have ha : addR n d x.1 x.2 = out (Rat.divInt n d + Rat.divInt x.1 x.2) := both_good h1 hv
  rw [ha] at ho ⊢
  have hval := val_some (out_val ho)
  have hq := good_rat hval.2.2.2
  rw [out_val ho] at hq
  injection hq with hq
  have hi := out_i64 (Rat.divInt n d + Rat.divInt x.1 x.2)
  refine ⟨hval.2.2.2, hi.1, hi.2, ?_, ?_⟩
  · rw [List.take_add_one, hx]
    intro p hp
    rcases List.mem_append.1 hp with h | h
    · exact h2 p h
    · rw [Option.toList_some, List.mem_singleton] at h
      rw [h]
      exact hv
  · rw [← hq, List.take_add_one, hx, Option.toList_some, List.map_append, List.map_cons, List.map_nil, total_snoc, h3]
theorem inv_end {l : List (Int × Int)} {n d : Int} (h : Inv l l.length n d) (hl : l.length ≤ 20) : sumR l = (n, d, 0) := by
  obtain ⟨h1, _, _, h2, h3⟩ := h
  rw [List.take_length] at h2 h3
  unfold sumR
  rw [if_pos h2, if_neg (by omega), ← h3]
  obtain ⟨e1, e2, e3⟩ := good_div h1
  unfold out
  rw [if_pos e3, e1, e2]

/-- a row of ratios -/
abbrev RowR (w : World) (g : Nat) (l : List (Int × Int)) : Prop := Blk w g 23 (l.flatMap rtC).toArray
theorem flatR_set : ∀ (l : List (Int × Int)) (k : Nat) (x y : Int), ((l.flatMap rtC).set (k * 2) (.int .i64 x)).set (k * 2 + 1) (.int .i64 y) = (l.set k (x, y)).flatMap rtC
  | [], k, x, y => by simp
  | q :: r, 0, x, y => rfl
  | q :: r, k + 1, x, y => by
    rw [List.set_cons_succ, List.flatMap_cons, List.flatMap_cons, ← flatR_set r k x y]
    show ((Value.int .i64 q.1 :: Value.int .i64 q.2 :: r.flatMap rtC).set ((k + 1) * 2) _).set ((k + 1) * 2 + 1) _ = _
    rw [show (k + 1) * 2 = k * 2 + 1 + 1 by omega]
    rfl
theorem RowR.set_ {w : World} {g : Nat} {l : List (Int × Int)} (h : RowR w g l) (k : Nat) (x y : Int) : RowR ((w.setCell ⟨g, k * 2, none⟩ (.int .i64 x)).setCell ⟨g, k * 2 + 1, none⟩ (.int .i64 y)) g (l.set k (x, y)) := by
  have := Blk.set_ (Blk.set_ h (k * 2) (.int .i64 x)) (k * 2 + 1) (.int .i64 y)
  rw [List.setIfInBounds_toArray, List.setIfInBounds_toArray, flatR_set] at this
  exact this
theorem set_back (m : Nat) (R : List (Int × Int)) (x : Int × Int) : (List.replicate (m + 1) (0, 0) ++ R).set m x = List.replicate m (0, 0) ++ x :: R := by
  rw [List.replicate_succ', List.append_assoc, List.set_append_right _ _ (by simp)]
  simp
theorem ratInfo : ∃ i0, Try.prog.info? 23 = some i0 ∧ i0.zero = some (raV 0 0) ∧ i0.size = 2 ∧ i0.bytes = 16 :=
  ⟨(Try.prog.info? 23).get (by kernel_rfl), by kernel_rfl, by kernel_rfl, by kernel_rfl, by kernel_rfl⟩
theorem made_rats (n : Nat) : madeCells #[Value.int .i64 0, .int .i64 0] (n * 2) = ((List.replicate n ((0, 0) : Int × Int)).flatMap rtC).toArray := by
  have hl : ((List.replicate n ((0, 0) : Int × Int)).flatMap rtC) = List.replicate (n * 2) (.int .i64 0) := by
    induction n with
    | zero => rfl
    | succ n ih => rw [List.replicate_succ, List.flatMap_cons, ih, show (n + 1) * 2 = n * 2 + 1 + 1 by omega, List.replicate_succ, List.replicate_succ]; rfl
  rw [hl]
  apply Array.ext_getElem?
  intro j
  by_cases hj : j < n * 2
  · rcases Nat.mod_two_eq_zero_or_one j with h | h <;> simp [madeCells, hj, h]
  · simp [madeCells, hj]
theorem make_rats (n : Nat) (hn : n ≤ 20) (w : World) : (Instr.makeSlice 37 (.int .i64 (n : Int)) (.int .i64 (n : Int))).run Try.prog w = .ok (.slice (some ⟨w.heap.size, 0, none⟩) n n) (w.alloc (.cells ((List.replicate n ((0, 0) : Int × Int)).flatMap rtC).toArray 23)) := by
  obtain ⟨i0, hi, hz, hs, hb⟩ := ratInfo
  have hr := run_make (P := Try.prog) w 37 23 i0 (raV 0 0) Try.underlying37 hi hz .i64 .i64 n n (by omega) (Int.le_refl _) (by rw [hb]; omega) (by omega)
  simp only [Int.toNat_natCast, hs] at hr
  rw [← made_rats]
  exact hr
end Go.Proofs.Ythefkomalakfeaa.W
