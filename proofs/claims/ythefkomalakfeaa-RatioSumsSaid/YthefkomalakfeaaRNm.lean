/-
  The reference's small, reduced, Neg, Sign, Floor, Ceil: what they return. Condition: the parts are ints.
-/
import Derived.Test.YthefkomalakfeaaRNl
import Derived.Test.YthefkomalakfeaaQM
namespace Go.Proofs.Ythefkomalakfeaa.W
open Go.RowKit Go.Proofs.Ythefkomalakfeaa.Q

def Sml (an ad bn bd : Int) : Prop := ad ≤ 1073741824 ∧ bd ≤ 1073741824 ∧ an ≤ 1073741824 ∧ bn ≤ 1073741824 ∧ -1073741824 ≤ an ∧ -1073741824 ≤ bn
instance (an ad bn bd : Int) : Decidable (Sml an ad bn bd) := by unfold Sml; infer_instance

set_option maxRecDepth 100000 in
set_option maxHeartbeats 1600000 in
theorem small_any (an ad bn bd : Int) (w : World) : Calls Try.prog 36 #[raV an ad, raV bn bd] w fun e w' => e = .returned (.bool (decide (Sml an ad bn bd))) ∧ Nw w w' := by
  by_cases h0 : ad ≤ 1073741824
  · have e0 : decide (ad ≤ 1073741824) = true := decide_eq_true h0
    by_cases h1 : bd ≤ 1073741824
    · have e1 : decide (bd ≤ 1073741824) = true := decide_eq_true h1
      by_cases h2 : an ≤ 1073741824
      · have e2 : decide (an ≤ 1073741824) = true := decide_eq_true h2
        by_cases h3 : bn ≤ 1073741824
        · have e3 : decide (bn ≤ 1073741824) = true := decide_eq_true h3
          by_cases h4 : -1073741824 ≤ an
          · have e4 : decide (an ≥ -1073741824) = true := decide_eq_true h4
            by_cases h5 : -1073741824 ≤ bn
            · have e5 : decide (bn ≥ -1073741824) = true := decide_eq_true h5
              rw [decide_eq_true (show Sml an ad bn bd from ⟨h0, h1, h2, h3, h4, h5⟩)]
              go_enter Try.func36, Try.ntmps36
              go_wp2
              go_ret
              exact ⟨rfl, (nw_alloc w (.cells #[.int .i64 an, .int .i64 ad] 23)).alloc _⟩
            · have e5 : decide (bn ≥ -1073741824) = false := decide_eq_false h5
              rw [decide_eq_false (show ¬ Sml an ad bn bd from fun h => h5 h.2.2.2.2.2)]
              go_enter Try.func36, Try.ntmps36
              go_wp2
              go_ret
              exact ⟨rfl, (nw_alloc w (.cells #[.int .i64 an, .int .i64 ad] 23)).alloc _⟩
          · have e4 : decide (an ≥ -1073741824) = false := decide_eq_false h4
            rw [decide_eq_false (show ¬ Sml an ad bn bd from fun h => h4 h.2.2.2.2.1)]
            go_enter Try.func36, Try.ntmps36
            go_wp2
            go_ret
            exact ⟨rfl, (nw_alloc w (.cells #[.int .i64 an, .int .i64 ad] 23)).alloc _⟩
        · have e3 : decide (bn ≤ 1073741824) = false := decide_eq_false h3
          rw [decide_eq_false (show ¬ Sml an ad bn bd from fun h => h3 h.2.2.2.1)]
          go_enter Try.func36, Try.ntmps36
          go_wp2
          go_ret
          exact ⟨rfl, (nw_alloc w (.cells #[.int .i64 an, .int .i64 ad] 23)).alloc _⟩
      · have e2 : decide (an ≤ 1073741824) = false := decide_eq_false h2
        rw [decide_eq_false (show ¬ Sml an ad bn bd from fun h => h2 h.2.2.1)]
        go_enter Try.func36, Try.ntmps36
        go_wp2
        go_ret
        exact ⟨rfl, (nw_alloc w (.cells #[.int .i64 an, .int .i64 ad] 23)).alloc _⟩
    · have e1 : decide (bd ≤ 1073741824) = false := decide_eq_false h1
      rw [decide_eq_false (show ¬ Sml an ad bn bd from fun h => h1 h.2.1)]
      go_enter Try.func36, Try.ntmps36
      go_wp2
      go_ret
      exact ⟨rfl, (nw_alloc w (.cells #[.int .i64 an, .int .i64 ad] 23)).alloc _⟩
  · have e0 : decide (ad ≤ 1073741824) = false := decide_eq_false h0
    rw [decide_eq_false (show ¬ Sml an ad bn bd from fun h => h0 h.1)]
    go_enter Try.func36, Try.ntmps36
    go_wp2
    go_ret
    exact ⟨rfl, (nw_alloc w (.cells #[.int .i64 an, .int .i64 ad] 23)).alloc _⟩

set_option maxHeartbeats 800000 in
theorem refNeg_any (n d : Int) (hn : I64 n) (hd : I64 d) (w : World) : Calls Try.prog 24 #[raV n d] w fun e w' => e = .returned (raV (negR n d).1 (negR n d).2) ∧ Nw w w' := by
  have hv := fun w1 => refValid_any n d hn hd w1
  have hB := blk2 w 23 #[.int .i64 n, .int .i64 d] #[.int .i64 0, .int .i64 0]
  have HB := Lib.hid hB
  clear hB
  by_cases h : Vld n d
  · have hr : negR n d = (-n, d) := if_pos h
    rw [hr]
    obtain ⟨n1, n2⟩ := vld_n h
    have hw : IntKind.i64.wrap (-n) = -n := by rw [IntKind.wrap_i64]; omega
    rw [decide_eq_true h] at hv
    clear hr h
    go_enter Try.func24, Try.ntmps24
    go_wp2_with fail
    refine (hv _).mono ?_
    rintro e w1 ⟨rfl, hk⟩
    obtain ⟨q0, q1, q2, q3⟩ := (HB.out.1.kp hk id).two
    obtain ⟨r0, r1, r2, r3⟩ := (HB.out.2.kp hk id).two
    go_wp2
    exact bodyPost_ret (v := raV (-n) d) (by simp [results, Try.results24, go_sem, r0, r1]) rfl ⟨rfl, (((nw_alloc _ _).alloc _).tr hk).new (by omega) _ _ |>.new (by omega) _ _⟩
  · have hr : negR n d = (0, 0) := if_neg h
    rw [hr]
    rw [decide_eq_false h] at hv
    clear hr h
    go_enter Try.func24, Try.ntmps24
    go_wp2_with fail
    refine (hv _).mono ?_
    rintro e w1 ⟨rfl, hk⟩
    obtain ⟨q0, q1, q2, q3⟩ := (HB.out.1.kp hk id).two
    obtain ⟨r0, r1, r2, r3⟩ := (HB.out.2.kp hk id).two
    go_wp2
    exact bodyPost_ret (v := raV 0 0) (by simp [results, Try.results24, go_sem, r0, r1]) rfl ⟨rfl, (((nw_alloc _ _).alloc _).tr hk).new (by omega) _ _ |>.new (by omega) _ _⟩

set_option maxHeartbeats 800000 in
theorem refSign_any (n d : Int) (hn : I64 n) (hd : I64 d) (w : World) : Calls Try.prog 28 #[raV n d] w fun e w' => e = .returned (.int .i64 (signR n d)) ∧ Nw w w' := by
  have hv := fun w1 => refValid_any n d hn hd w1
  have HB := Lib.hid (blk1 w 23 #[.int .i64 n, .int .i64 d])
  by_cases h : Vld n d
  · have hr : signR n d = sgn n := if_pos h
    rw [hr]
    rw [decide_eq_true h] at hv
    clear hr h
    by_cases h0 : n = 0
    · subst h0
      go_enter Try.func28, Try.ntmps28
      go_wp2_with fail
      refine (hv _).mono ?_
      rintro e w1 ⟨rfl, hk⟩
      obtain ⟨q0, q1, q2, q3⟩ := (HB.out.kp hk id).two
      go_wp2
      go_ret
      exact ⟨rfl, (nw_alloc _ _).tr hk⟩
    · have e0 : (n == 0) = false := by simp [h0]
      by_cases h1 : n < 0
      · rw [show sgn n = -1 from if_pos h1]
        have e1 : decide (n < 0) = true := decide_eq_true h1
        clear h0 h1
        go_enter Try.func28, Try.ntmps28
        go_wp2_with fail
        refine (hv _).mono ?_
        rintro e w1 ⟨rfl, hk⟩
        obtain ⟨q0, q1, q2, q3⟩ := (HB.out.kp hk id).two
        go_wp2
        go_ret
        exact ⟨rfl, (nw_alloc _ _).tr hk⟩
      · rw [show sgn n = 1 by unfold sgn; rw [if_neg h1, if_neg h0]]
        have e1 : decide (n < 0) = false := decide_eq_false h1
        clear h0 h1
        go_enter Try.func28, Try.ntmps28
        go_wp2_with fail
        refine (hv _).mono ?_
        rintro e w1 ⟨rfl, hk⟩
        obtain ⟨q0, q1, q2, q3⟩ := (HB.out.kp hk id).two
        go_wp2
        go_ret
        exact ⟨rfl, (nw_alloc _ _).tr hk⟩
  · have hr : signR n d = 0 := if_neg h
    rw [hr]
    rw [decide_eq_false h] at hv
    clear hr h
    go_enter Try.func28, Try.ntmps28
    go_wp2_with fail
    refine (hv _).mono ?_
    rintro e w1 ⟨rfl, hk⟩
    go_wp2
    go_ret
    exact ⟨rfl, (nw_alloc _ _).tr hk⟩

set_option maxHeartbeats 1600000 in
theorem refFloor_any (n d : Int) (hn : I64 n) (hd : I64 d) (w : World) : Calls Try.prog 30 #[raV n d] w fun e w' => e = .returned (.int .i64 (floorR n d)) ∧ Nw w w' := by
  have hv := fun w1 => refValid_any n d hn hd w1
  have HB := Lib.hid (blk1 w 23 #[.int .i64 n, .int .i64 d])
  by_cases h : Vld n d
  · obtain ⟨d1, d2⟩ := vld_d h
    have hr : floorR n d = n / d := if_pos h
    rw [hr, floor_way n d (by omega)]
    have hz : d ≠ 0 := by omega
    have t1 := tdiv_le n d (vld_n h)
    have t2 := tmod_le n d (by omega)
    have t3 : 0 ≤ n → 0 ≤ n.tmod d := fun h => Int.tmod_nonneg d h
    have t4 : n ≤ 0 → n.tmod d ≤ 0 := fun h => by
      have := Int.tmod_nonneg d (show 0 ≤ -n by omega)
      rw [Int.neg_tmod] at this
      omega
    have e1 : IntKind.i64.wrap (n.tmod d) = n.tmod d := by rw [IntKind.wrap_i64]; omega
    have e2 : IntKind.i64.wrap (n.tdiv d) = n.tdiv d := by rw [IntKind.wrap_i64]; omega
    have e3 : IntKind.i64.wrap (n.tdiv d - 1) = n.tdiv d - 1 := by rw [IntKind.wrap_i64]; omega
    rw [decide_eq_true h] at hv
    by_cases hn0 : n < 0
    · have e5 : decide (n < 0) = true := decide_eq_true hn0
      by_cases hm : n.tmod d < 0
      · rw [if_pos hm]
        have e4 : (n.tmod d != 0) = true := by simp; omega
        clear hm hn0 hr h d1 d2 t1 t2 t3 t4
        go_enter Try.func30, Try.ntmps30
        go_wp2_with fail
        refine (hv _).mono ?_
        rintro e w1 ⟨rfl, hk⟩
        obtain ⟨q0, q1, q2, q3⟩ := (HB.out.kp hk id).two
        go_wp2
        go_ret
        exact ⟨rfl, (nw_alloc _ _).tr hk⟩
      · rw [if_neg hm]
        have e4 : n.tmod d = 0 := by omega
        rw [e4] at e1
        clear hm hn0 hr h d1 d2 t1 t2 t3 t4 e3
        go_enter Try.func30, Try.ntmps30
        go_wp2_with fail
        refine (hv _).mono ?_
        rintro e w1 ⟨rfl, hk⟩
        obtain ⟨q0, q1, q2, q3⟩ := (HB.out.kp hk id).two
        go_wp2
        go_ret
        exact ⟨rfl, (nw_alloc _ _).tr hk⟩
    · have e5 : decide (n < 0) = false := decide_eq_false hn0
      rw [if_neg (by omega)]
      clear hn0 hr h d1 d2 t1 t2 t3 t4 e3
      go_enter Try.func30, Try.ntmps30
      go_wp2_with fail
      refine (hv _).mono ?_
      rintro e w1 ⟨rfl, hk⟩
      obtain ⟨q0, q1, q2, q3⟩ := (HB.out.kp hk id).two
      go_wp2
      go_ret
      exact ⟨rfl, (nw_alloc _ _).tr hk⟩
  · have hr : floorR n d = 0 := if_neg h
    rw [hr]
    rw [decide_eq_false h] at hv
    clear hr h
    go_enter Try.func30, Try.ntmps30
    go_wp2_with fail
    refine (hv _).mono ?_
    rintro e w1 ⟨rfl, hk⟩
    go_wp2
    go_ret
    exact ⟨rfl, (nw_alloc _ _).tr hk⟩

set_option maxHeartbeats 1600000 in
theorem refCeil_any (n d : Int) (hn : I64 n) (hd : I64 d) (w : World) : Calls Try.prog 32 #[raV n d] w fun e w' => e = .returned (.int .i64 (ceilR n d)) ∧ Nw w w' := by
  have hv := fun w1 => refNeg_any n d hn hd w1
  obtain ⟨f1, f2⟩ := neg_fits (n := n) hd
  have hf := fun w1 => refFloor_any (negR n d).1 (negR n d).2 f1 f2 w1
  have hr := ceil_way n d
  have hb := floor_fits (negR n d).1 (negR n d).2
  generalize floorR (negR n d).1 (negR n d).2 = f at *
  have e1 : IntKind.i64.wrap (-f) = -f := by rw [IntKind.wrap_i64]; omega
  rw [hr]
  clear hr hb
  generalize (negR n d).1 = x at *
  generalize (negR n d).2 = y at *
  go_enter Try.func32, Try.ntmps32
  go_wp2_with fail
  refine (hv _).mono ?_
  rintro e w1 ⟨rfl, hk⟩
  go_wp2_with fail
  refine (hf _).mono ?_
  rintro e w2 ⟨rfl, hk2⟩
  go_wp2
  go_ret
  exact ⟨rfl, ((nw_alloc _ _).tr hk).tr hk2⟩

/-- two parts with a positive denominator, in lowest terms -/
theorem out_parts (n d : Int) (hn : -4611686018427387904 ≤ n ∧ n ≤ 4611686018427387904) (hd : 1 ≤ d ∧ d ≤ 4611686018427387904) :
    out (Rat.divInt n d) = (n.tdiv (Nat.gcd n.natAbs d.natAbs : Nat), d.tdiv (Nat.gcd n.natAbs d.natAbs : Nat), 0) := by
  have h := div_way n d (by omega)
  obtain ⟨h1, h2, h3⟩ := h
  rw [if_neg (by omega)] at h3
  have hg : 0 < Nat.gcd n.natAbs d.natAbs := Nat.gcd_pos_of_pos_right _ (by omega)
  have u1 : n.natAbs / Nat.gcd n.natAbs d.natAbs ≤ n.natAbs := Nat.div_le_self _ _
  have u2 : d.natAbs / Nat.gcd n.natAbs d.natAbs ≤ d.natAbs := Nat.div_le_self _ _
  have a1 : (n.tdiv (Nat.gcd n.natAbs d.natAbs : Nat)).natAbs = n.natAbs / Nat.gcd n.natAbs d.natAbs := by rw [Int.natAbs_tdiv, Int.natAbs_natCast]; rfl
  have a2 : (d.tdiv (Nat.gcd n.natAbs d.natAbs : Nat)).natAbs = d.natAbs / Nat.gcd n.natAbs d.natAbs := by rw [Int.natAbs_tdiv, Int.natAbs_natCast]; rfl
  have a3 : 0 ≤ d.tdiv (Nat.gcd n.natAbs d.natAbs : Nat) := Int.tdiv_nonneg (by omega) (by omega)
  have a4 : 0 ≤ n → 0 ≤ n.tdiv (Nat.gcd n.natAbs d.natAbs : Nat) := fun h => Int.tdiv_nonneg h (by omega)
  have a5 : n ≤ 0 → n.tdiv (Nat.gcd n.natAbs d.natAbs : Nat) ≤ 0 := fun h => by
    have := Int.tdiv_nonneg (show 0 ≤ -n by omega) (show (0 : Int) ≤ (Nat.gcd n.natAbs d.natAbs : Nat) by omega)
    rw [Int.neg_tdiv] at this
    omega
  generalize n.tdiv (Nat.gcd n.natAbs d.natAbs : Nat) = x at *
  generalize d.tdiv (Nat.gcd n.natAbs d.natAbs : Nat) = y at *
  generalize Nat.gcd n.natAbs d.natAbs = g at *
  have hf : Fits (Rat.divInt n d) := ⟨by rw [top_eq]; omega, by rw [top_eq]; omega⟩
  rw [out, if_pos hf]
  have e1 : (Rat.divInt n d).num = x := by omega
  have e2 : ((Rat.divInt n d).den : Int) = y := by omega
  rw [e1, e2]

set_option maxHeartbeats 1600000 in
theorem reduced_any (n d : Int) (hn : -4611686018427387904 ≤ n ∧ n ≤ 4611686018427387904) (hd : 1 ≤ d ∧ d ≤ 4611686018427387904) (w : World) :
    Calls Try.prog 37 #[.int .i64 n, .int .i64 d] w fun e w' => e = .returned (resV (out (Rat.divInt n d))) ∧ Nw w w' := by
  have hr := out_parts n d hn hd
  have hc := fun w1 => refGcd_any n d.natAbs (by omega) (by omega) w1
  rw [show ((d.natAbs : Nat) : Int) = d by omega] at hc
  have hg : 0 < Nat.gcd n.natAbs d.natAbs := Nat.gcd_pos_of_pos_right _ (by omega)
  have HB := Lib.hid (blk1 w 23 #[.int .i64 0, .int .i64 0])
  generalize Nat.gcd n.natAbs d.natAbs = g at *
  have b1 := tdiv_le n g hn
  have b2 := tdiv_le d g (by omega)
  have e1 : IntKind.i64.wrap (n.tdiv g) = n.tdiv g := by rw [IntKind.wrap_i64]; omega
  have e2 : IntKind.i64.wrap (d.tdiv g) = d.tdiv g := by rw [IntKind.wrap_i64]; omega
  have hz : ¬ g = 0 := by omega
  rw [hr]
  clear hr b1 b2 hg hn hd
  go_enter Try.func37, Try.ntmps37
  go_wp2_with (go_at_call 47; refine (hc _).mono ?_; rintro e w1 ⟨rfl, k, rfl⟩)
  generalize hw1 : World.drewN _ _ = w1
  have hk1 : Nw (w.alloc (.cells #[.int .i64 0, .int .i64 0] 23)) w1 := by rw [← hw1]; exact nw_drewN _ _
  have HK := Lib.hid ((nw_alloc w _).tr hk1)
  have HB1 := Lib.hid (HB.out.kp hk1 id)
  have HB2 := Lib.hid HB1.out.drew
  obtain ⟨r0, r1, r2, r3⟩ := HB1.out.two
  obtain ⟨t0, t1, t2, t3⟩ := HB2.out.two
  clear hw1 hk1 hc
  go_region
  go_wp2
  refine bodyPost_ret (v := resV (n.tdiv g, d.tdiv g, 0)) (by simp [results, Try.results37, go_sem, r0, r1]) rfl ⟨rfl, ?_⟩
  exact (HK.out.drew.new (by omega) _ _).new (by omega) _ _
end Go.Proofs.Ythefkomalakfeaa.W
