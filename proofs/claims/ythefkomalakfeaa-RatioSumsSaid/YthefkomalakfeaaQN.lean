/-
  ratio: Neg, Sign, Floor, Ceil, compareMagnitudes, Cmp: what they return. Condition: the parts are ints.
-/
import Derived.Test.YthefkomalakfeaaQV
namespace Go.Proofs.Ythefkomalakfeaa.W
open Go.RowKit Go.Proofs.Ythefkomalakfeaa.Q

section
variable (w : World) (t : TypeId) (a b c : Array Value)
theorem blk1 : Blk (w.alloc (.cells a t)) w.heap.size t a := Blk.new w t a
theorem blk2 : Blk ((w.alloc (.cells a t)).alloc (.cells b t)) w.heap.size t a ∧ Blk ((w.alloc (.cells a t)).alloc (.cells b t)) (w.heap.size + 1) t b :=
  ⟨(Blk.new w t a).alloc _, Blk.new_at _ t b (by simp)⟩
theorem blk3 : Blk (((w.alloc (.cells a t)).alloc (.cells b t)).alloc (.cells c t)) w.heap.size t a ∧ Blk (((w.alloc (.cells a t)).alloc (.cells b t)).alloc (.cells c t)) (w.heap.size + 1) t b ∧ Blk (((w.alloc (.cells a t)).alloc (.cells b t)).alloc (.cells c t)) (w.heap.size + 2) t c :=
  ⟨(blk2 w t a b).1.alloc _, (blk2 w t a b).2.alloc _, Blk.new_at _ t c (by simp)⟩
end

set_option maxHeartbeats 800000 in
theorem neg_any (n d : Int) (hn : I64 n) (hd : I64 d) (w : World) : Calls Try.prog 23 #[raV n d] w fun e w' => e = .returned (raV (negR n d).1 (negR n d).2) ∧ Nw w w' := by
  have hv := fun w1 => valid_any n d hn hd w1
  have hB := blk2 w 23 #[.int .i64 n, .int .i64 d] #[.int .i64 0, .int .i64 0]
  have HB := Lib.hid hB
  clear hB
  by_cases h : Vld n d
  · have hr : negR n d = (-n, d) := if_pos h
    rw [hr]
    obtain ⟨n1, n2⟩ := vld_n h
    have hw : IntKind.i64.wrap (-n) = -n := by rw [IntKind.wrap_i64]; omega
    rw [decide_eq_true h] at hv
    clear hr h
    go_enter Try.func23, Try.ntmps23
    go_wp2_with fail
    refine (hv _).mono ?_
    rintro e w1 ⟨rfl, hk⟩
    obtain ⟨q0, q1, q2, q3⟩ := (HB.out.1.kp hk id).two
    obtain ⟨r0, r1, r2, r3⟩ := (HB.out.2.kp hk id).two
    go_wp2
    exact bodyPost_ret (v := raV (-n) d) (by simp [results, Try.results23, go_sem, r0, r1]) rfl ⟨rfl, (((nw_alloc _ _).alloc _).tr hk).new (by omega) _ _ |>.new (by omega) _ _⟩
  · have hr : negR n d = (0, 0) := if_neg h
    rw [hr]
    rw [decide_eq_false h] at hv
    clear hr h
    go_enter Try.func23, Try.ntmps23
    go_wp2_with fail
    refine (hv _).mono ?_
    rintro e w1 ⟨rfl, hk⟩
    obtain ⟨q0, q1, q2, q3⟩ := (HB.out.1.kp hk id).two
    obtain ⟨r0, r1, r2, r3⟩ := (HB.out.2.kp hk id).two
    go_wp2
    exact bodyPost_ret (v := raV 0 0) (by simp [results, Try.results23, go_sem, r0, r1]) rfl ⟨rfl, (((nw_alloc _ _).alloc _).tr hk).new (by omega) _ _ |>.new (by omega) _ _⟩

set_option maxHeartbeats 800000 in
theorem sign_any (n d : Int) (hn : I64 n) (hd : I64 d) (w : World) : Calls Try.prog 27 #[raV n d] w fun e w' => e = .returned (.int .i64 (signR n d)) ∧ Nw w w' := by
  have hv := fun w1 => valid_any n d hn hd w1
  have HB := Lib.hid (blk1 w 23 #[.int .i64 n, .int .i64 d])
  by_cases h : Vld n d
  · have hr : signR n d = sgn (n - 0) := by rw [Int.sub_zero]; exact if_pos h
    rw [hr]
    rw [decide_eq_true h] at hv
    have hc := fun w1 => compareInt_any n 0 w1
    clear hr h
    generalize sgn (n - 0) = s at *
    go_enter Try.func27, Try.ntmps27
    go_wp2_with fail
    refine (hv _).mono ?_
    rintro e w1 ⟨rfl, hk⟩
    obtain ⟨q0, q1, q2, q3⟩ := (HB.out.kp hk id).two
    go_wp2_with (go_at_call 48; refine (hc _).mono ?_; rintro e w1 ⟨rfl, rfl⟩)
    go_ret
    exact ⟨rfl, (nw_alloc _ _).tr hk⟩
  · have hr : signR n d = 0 := if_neg h
    rw [hr]
    rw [decide_eq_false h] at hv
    clear hr h
    go_enter Try.func27, Try.ntmps27
    go_wp2_with fail
    refine (hv _).mono ?_
    rintro e w1 ⟨rfl, hk⟩
    go_wp2
    go_ret
    exact ⟨rfl, (nw_alloc _ _).tr hk⟩

theorem floor_way (n d : Int) (hd : 0 < d) : n / d = if n.tmod d < 0 then n.tdiv d - 1 else n.tdiv d := by
  have h1 := Int.tmod_add_mul_tdiv n d
  have h2 := Int.emod_add_mul_ediv n d
  have h3 := Int.emod_nonneg n (show d ≠ 0 by omega)
  have h4 := Int.emod_lt_of_pos n hd
  have h5 := Int.tmod_lt_of_pos n hd
  have h6 : -d < n.tmod d := by
    have := Int.tmod_lt_of_pos (-n) hd
    rw [Int.neg_tmod] at this
    omega
  have h7 : 0 ≤ n → 0 ≤ n.tmod d := fun h => Int.tmod_nonneg d h
  have h8 : n ≤ 0 → n.tmod d ≤ 0 := fun h => by
    have := Int.tmod_nonneg d (show 0 ≤ -n by omega)
    rw [Int.neg_tmod] at this
    omega
  generalize n.tmod d = r at *
  generalize n.tdiv d = q at *
  generalize n % d = s at *
  generalize n / d = p at *
  split
  · have : d * (q - 1) + (r + d) = d * p + s := by rw [Int.mul_sub]; omega
    have e : d * (q - 1 - p) = s - (r + d) := by rw [Int.mul_sub]; omega
    have : q - 1 - p = 0 := by
      rcases Int.lt_trichotomy (q - 1 - p) 0 with h | h | h
      · have := Int.mul_le_mul_of_nonneg_left (show q - 1 - p ≤ -1 by omega) (Int.le_of_lt hd); omega
      · exact h
      · have := Int.mul_le_mul_of_nonneg_left (show 1 ≤ q - 1 - p by omega) (Int.le_of_lt hd); omega
    omega
  · have e : d * (q - p) = s - r := by rw [Int.mul_sub]; omega
    have : q - p = 0 := by
      rcases Int.lt_trichotomy (q - p) 0 with h | h | h
      · have := Int.mul_le_mul_of_nonneg_left (show q - p ≤ -1 by omega) (Int.le_of_lt hd); omega
      · exact h
      · have := Int.mul_le_mul_of_nonneg_left (show 1 ≤ q - p by omega) (Int.le_of_lt hd); omega
    omega

theorem tdiv_le (n d : Int) (hn : -4611686018427387904 ≤ n ∧ n ≤ 4611686018427387904) : -4611686018427387904 ≤ n.tdiv d ∧ n.tdiv d ≤ 4611686018427387904 := by
  have h := Int.natAbs_tdiv_le_natAbs n d
  omega
theorem tmod_le (n d : Int) (hd : 0 < d) : -d < n.tmod d ∧ n.tmod d < d := by
  refine ⟨?_, Int.tmod_lt_of_pos n hd⟩
  have := Int.tmod_lt_of_pos (-n) hd
  rw [Int.neg_tmod] at this
  omega

set_option maxHeartbeats 1600000 in
theorem floor_any (n d : Int) (hn : I64 n) (hd : I64 d) (w : World) : Calls Try.prog 29 #[raV n d] w fun e w' => e = .returned (.int .i64 (floorR n d)) ∧ Nw w w' := by
  have hv := fun w1 => valid_any n d hn hd w1
  have HB := Lib.hid (blk1 w 23 #[.int .i64 n, .int .i64 d])
  by_cases h : Vld n d
  · obtain ⟨d1, d2⟩ := vld_d h
    have hr : floorR n d = n / d := if_pos h
    rw [hr, floor_way n d (by omega)]
    have hz : d ≠ 0 := by omega
    have t1 := tdiv_le n d (vld_n h)
    have t2 := tmod_le n d (by omega)
    have e1 : IntKind.i64.wrap (n.tmod d) = n.tmod d := by rw [IntKind.wrap_i64]; omega
    have e2 : IntKind.i64.wrap (n.tdiv d) = n.tdiv d := by rw [IntKind.wrap_i64]; omega
    have e3 : IntKind.i64.wrap (n.tdiv d - 1) = n.tdiv d - 1 := by rw [IntKind.wrap_i64]; omega
    rw [decide_eq_true h] at hv
    clear hr h d1 d2 t1 t2
    by_cases hm : n.tmod d < 0
    · rw [if_pos hm]
      have e4 : decide (n.tmod d < 0) = true := decide_eq_true hm
      clear hm
      go_enter Try.func29, Try.ntmps29
      go_wp2_with fail
      refine (hv _).mono ?_
      rintro e w1 ⟨rfl, hk⟩
      obtain ⟨q0, q1, q2, q3⟩ := (HB.out.kp hk id).two
      go_wp2
      go_ret
      exact ⟨rfl, (nw_alloc _ _).tr hk⟩
    · rw [if_neg hm]
      have e4 : decide (n.tmod d < 0) = false := decide_eq_false hm
      clear hm
      go_enter Try.func29, Try.ntmps29
      go_wp2_with fail
      refine (hv _).mono ?_
      rintro e w1 ⟨rfl, hk⟩
      obtain ⟨q0, q1, q2, q3⟩ := (HB.out.kp hk id).two
      go_wp2
      go_ret
      exact ⟨rfl, (nw_alloc _ _).tr hk⟩
  · have hr : floorR n d = 0 := if_neg h
    rw [hr]
    rw [decide_eq_false h] at hv
    clear hr h
    go_enter Try.func29, Try.ntmps29
    go_wp2_with fail
    refine (hv _).mono ?_
    rintro e w1 ⟨rfl, hk⟩
    go_wp2
    go_ret
    exact ⟨rfl, (nw_alloc _ _).tr hk⟩

theorem vld_neg {n d : Int} : Vld (-n) d ↔ Vld n d := by unfold Vld; rw [Int.natAbs_neg]
theorem not_vld0 : ¬ Vld 0 0 := fun h => absurd h.1 (by omega)
theorem ceil_way (n d : Int) : ceilR n d = -floorR (negR n d).1 (negR n d).2 := by
  unfold ceilR negR floorR
  by_cases h : Vld n d
  · simp only [if_pos h]
    rw [if_pos (vld_neg.2 h)]
  · simp only [if_neg h]
    rw [if_neg not_vld0]
    rfl
theorem floor_fits (n d : Int) : -4611686018427387904 ≤ floorR n d ∧ floorR n d ≤ 4611686018427387904 := by
  unfold floorR
  split
  · rename_i h
    obtain ⟨d1, d2⟩ := vld_d h
    obtain ⟨n1, n2⟩ := vld_n h
    have h2 := Int.emod_add_mul_ediv n d
    have h3 := Int.emod_nonneg n (show d ≠ 0 by omega)
    have h4 := Int.emod_lt_of_pos n (show 0 < d by omega)
    constructor
    · rw [Int.le_ediv_iff_mul_le (by omega)]
      have := Int.mul_le_mul_of_nonneg_left d1 (show (0 : Int) ≤ 4611686018427387904 by omega)
      omega
    · rw [← Int.lt_add_one_iff, Int.ediv_lt_iff_lt_mul (by omega)]
      have := Int.mul_le_mul_of_nonneg_left d1 (show (0 : Int) ≤ 4611686018427387904 + 1 by omega)
      omega
  · omega
theorem neg_fits {n d : Int} (hd : I64 d) : I64 (negR n d).1 ∧ I64 (negR n d).2 := by
  unfold negR
  split
  · rename_i h
    obtain ⟨n1, n2⟩ := vld_n h
    exact ⟨⟨by simp only []; omega, by simp only []; omega⟩, hd⟩
  · exact ⟨⟨by simp, by simp⟩, ⟨by simp, by simp⟩⟩

set_option maxHeartbeats 1600000 in
theorem ceil_any (n d : Int) (hn : I64 n) (hd : I64 d) (w : World) : Calls Try.prog 31 #[raV n d] w fun e w' => e = .returned (.int .i64 (ceilR n d)) ∧ Nw w w' := by
  have hv := fun w1 => neg_any n d hn hd w1
  obtain ⟨f1, f2⟩ := neg_fits (n := n) hd
  have hf := fun w1 => floor_any (negR n d).1 (negR n d).2 f1 f2 w1
  have hr := ceil_way n d
  have hb := floor_fits (negR n d).1 (negR n d).2
  generalize floorR (negR n d).1 (negR n d).2 = f at *
  have e1 : IntKind.i64.wrap (-f) = -f := by rw [IntKind.wrap_i64]; omega
  rw [hr]
  clear hr hb
  generalize (negR n d).1 = x at *
  generalize (negR n d).2 = y at *
  go_enter Try.func31, Try.ntmps31
  go_wp2_with fail
  refine (hv _).mono ?_
  rintro e w1 ⟨rfl, hk⟩
  go_wp2_with fail
  refine (hf _).mono ?_
  rintro e w2 ⟨rfl, hk2⟩
  go_wp2
  go_ret
  exact ⟨rfl, ((nw_alloc _ _).tr hk).tr hk2⟩
end Go.Proofs.Ythefkomalakfeaa.W
