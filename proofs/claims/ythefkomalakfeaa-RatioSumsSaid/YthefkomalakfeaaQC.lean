/-
  ratio: compareMagnitudes, Cmp: what they return. Condition: the parts are ints.
-/
import Derived.Test.YthefkomalakfeaaQN
namespace Go.Proofs.Ythefkomalakfeaa.W
open Go.RowKit Go.Proofs.Ythefkomalakfeaa.Q

theorem sgn_of (a b : Nat) : sgn ((a : Int) - b) = if a < b then -1 else if a = b then 0 else 1 := by unfold sgn; grind
/-- two numbers of two words, compared -/
theorem sgn_two (a b : Nat) : (if sgn (((a / 18446744073709551616 : Nat) : Int) - (b / 18446744073709551616 : Nat)) ≠ 0 then sgn (((a / 18446744073709551616 : Nat) : Int) - (b / 18446744073709551616 : Nat)) else sgn (((a % 18446744073709551616 : Nat) : Int) - (b % 18446744073709551616 : Nat))) = sgn ((a : Int) - b) := by
  rw [sgn_of, sgn_of, sgn_of]
  grind

set_option maxHeartbeats 1600000 in
theorem or_any (g : Nat) (x y : Int) (w : World) (h0 : w.cell? ⟨g, 0, none⟩ = some (.int .i64 x)) (h1 : w.cell? ⟨g, 1, none⟩ = some (.int .i64 y)) : Calls Try.prog 60 #[.slice (some ⟨g, 0, none⟩) 2 2] w fun e w' => e = .returned (.int .i64 (if x ≠ 0 then x else y)) ∧ Nw w w' := by
  go_enter Try.func60, Try.ntmps60
  go_wp2
  go_loopw [8] (fun i wr => ∃ k : Nat, i = .int .i64 k ∧ k ≤ 2 ∧ (1 ≤ k → x = 0) ∧ (2 ≤ k → y = 0) ∧ wr = w) (fun i _ => 2 - (intOf i).toNat)
  case atStart => exact ⟨0, rfl, by omega, by omega, by omega, rfl⟩
  case round =>
    obtain ⟨k, rfl, hk, hx, hy, rfl⟩ := hrel
    obtain rfl | rfl | rfl : k = 0 ∨ k = 1 ∨ k = 2 := by omega
    · clear hk hx hy
      by_cases hx : x = 0
      · subst hx
        go_wp2
        go_roundw
        case rel => exact ⟨1, by simp⟩
        case measure => simp [intOf]
      · have e1 : (x != 0) = true := by simp [hx]
        go_wp2
        go_ret
        exact ⟨rfl, Kp.refl _ _⟩
    · obtain rfl := hx (by omega)
      clear hk hx hy
      by_cases hy : y = 0
      · subst hy
        go_wp2
        go_roundw
        case rel => exact ⟨2, by simp⟩
        case measure => simp [intOf]
      · have e1 : (y != 0) = true := by simp [hy]
        clear hy
        go_wp2
        go_ret
        exact ⟨by simp, Kp.refl _ _⟩
    · obtain rfl := hx (by omega)
      obtain rfl := hy (by omega)
      clear hk hx hy
      go_wp2
      go_ret
      exact ⟨by simp, Kp.refl _ _⟩

set_option maxHeartbeats 1600000 in
theorem compareMagnitudes_any (an ad bn bd : Int) (ha : Vld an ad) (hb : Vld bn bd) (w : World) : Calls Try.prog 49 #[raV an ad, raV bn bd] w fun e w' => e = .returned (.int .i64 (sgn ((an.natAbs * bd.natAbs : Nat) - (bn.natAbs * ad.natAbs : Nat) : Int))) ∧ Nw w w' := by
  have HB := Lib.hid (blk2 w 23 #[.int .i64 an, .int .i64 ad] #[.int .i64 bn, .int .i64 bd])
  obtain ⟨a1, a2⟩ := vld_n ha
  obtain ⟨a3, a4⟩ := vld_d ha
  obtain ⟨b1, b2⟩ := vld_n hb
  obtain ⟨b3, b4⟩ := vld_d hb
  have m1 := fun w1 => magnitude_any an ⟨by omega, by omega⟩ w1
  have m2 := fun w1 => magnitude_any bn ⟨by omega, by omega⟩ w1
  have p1 := fun w1 => mul64_any an.natAbs bd.natAbs (by unfold U64; omega) (by unfold U64; omega) w1
  have p2 := fun w1 => mul64_any bn.natAbs ad.natAbs (by unfold U64; omega) (by unfold U64; omega) w1
  have e1 : IntKind.u64.wrap ad = (ad.natAbs : Int) := by rw [IntKind.wrap_u64]; omega
  have e2 : IntKind.u64.wrap bd = (bd.natAbs : Int) := by rw [IntKind.wrap_u64]; omega
  rw [← sgn_two]
  generalize an.natAbs * bd.natAbs = X at *
  generalize bn.natAbs * ad.natAbs = Y at *
  have c1 := fun w1 => compareWord_any (X / 18446744073709551616) (Y / 18446744073709551616) w1
  have c2 := fun w1 => compareWord_any (X % 18446744073709551616) (Y % 18446744073709551616) w1
  generalize X / 18446744073709551616 = X1 at *
  generalize Y / 18446744073709551616 = Y1 at *
  generalize X % 18446744073709551616 = X0 at *
  generalize Y % 18446744073709551616 = Y0 at *
  generalize sgn ((X1 : Int) - Y1) = s1 at *
  generalize sgn ((X0 : Int) - Y0) = s0 at *
  have hO := fun g w3 h0 h1 => or_any g s1 s0 w3 h0 h1
  generalize (if s1 ≠ 0 then s1 else s0) = r at *
  clear a1 a2 a3 a4 b1 b2 b3 b4 ha hb
  go_enter Try.func49, Try.ntmps49
  go_wp2_with fail
  go_quiet (first
    | (go_at_call 41; exact Calls.quiet_of_same ((m1 _).mono fun _ _ h => ⟨h.1, h.2.symm⟩))
    | (go_at_call 43; exact Calls.quiet_of_same ((p1 _).mono fun _ _ h => ⟨h.1, h.2.symm⟩)))
  generalize hw1 : World.drewN _ _ = w1
  have hk1 : Nw ((w.alloc (.cells #[.int .i64 an, .int .i64 ad] 23)).alloc (.cells #[.int .i64 bn, .int .i64 bd] 23)) w1 := by rw [← hw1]; exact nw_drewN _ _
  have HK := Lib.hid (((nw_alloc w _).alloc _).tr hk1)
  obtain ⟨q0, q1, q2, q3⟩ := (HB.out.1.kp hk1 id).two
  obtain ⟨r0, r1, r2, r3⟩ := (HB.out.2.kp hk1 id).two
  clear hw1 hk1 m1 p1
  go_wp2_with fail
  go_quiet (first
    | (go_at_call 41; exact Calls.quiet_of_same ((m2 _).mono fun _ _ h => ⟨h.1, h.2.symm⟩))
    | (go_at_call 43; exact Calls.quiet_of_same ((p2 _).mono fun _ _ h => ⟨h.1, h.2.symm⟩)))
  generalize hw2 : World.drewN w1 _ = w2
  have hk2 : Nw w1 w2 := by rw [← hw2]; exact nw_drewN _ _
  have HK2 := Lib.hid (HK.out.tr hk2)
  clear hw2 hk2 q0 q1 q2 q3 r0 r1 r2 r3 m2 p2
  go_wp2_with fail
  with_reducible refine (c1 _).mono ?_
  rintro e w3 ⟨rfl, rfl⟩
  go_wp2_with fail
  with_reducible refine (c2 _).mono ?_
  rintro e w3 ⟨rfl, rfl⟩
  go_wp2_with fail
  refine (hO _ _ ?_ ?_).mono ?_
  · exact (Blk.new w2 _ _).cell 0
  · exact (Blk.new w2 _ _).cell 1
  rintro e w4 ⟨rfl, hk4⟩
  go_wp2
  go_ret
  exact ⟨rfl, (HK2.out.tr (nw_alloc _ _)).tr hk4⟩

theorem cmp_way {an ad bn bd : Int} (ha : Vld an ad) (hb : Vld bn bd) :
    sgn (an * bd - bn * ad) = if (an < 0) ≠ (bn < 0) then sgn (an - bn) else if an < 0 then sgn ((bn.natAbs * ad.natAbs : Nat) - (an.natAbs * bd.natAbs : Nat) : Int) else sgn ((an.natAbs * bd.natAbs : Nat) - (bn.natAbs * ad.natAbs : Nat) : Int) := by
  obtain ⟨a3, a4⟩ := vld_d ha
  obtain ⟨b3, b4⟩ := vld_d hb
  have hd : ((bd.natAbs : Nat) : Int) = bd := by omega
  have hc : ((ad.natAbs : Nat) : Int) = ad := by omega
  rw [Int.natCast_mul, Int.natCast_mul, hd, hc]
  by_cases h1 : an < 0
  · by_cases h2 : bn < 0
    · rw [if_neg (by simp [h1, h2]), if_pos h1]
      rw [show ((bn.natAbs : Nat) : Int) = -bn by omega, show ((an.natAbs : Nat) : Int) = -an by omega, Int.neg_mul, Int.neg_mul]
      congr 1
      omega
    · rw [if_pos (by simp [h1, h2])]
      have t1 := Int.mul_neg_of_neg_of_pos h1 (show 0 < bd by omega)
      have t2 := Int.mul_nonneg (show 0 ≤ bn by omega) (show 0 ≤ ad by omega)
      unfold sgn
      rw [if_pos (by omega), if_pos (by omega)]
  · by_cases h2 : bn < 0
    · rw [if_pos (by simp [h1, h2])]
      have t1 := Int.mul_neg_of_neg_of_pos h2 (show 0 < ad by omega)
      have t2 := Int.mul_nonneg (show 0 ≤ an by omega) (show 0 ≤ bd by omega)
      unfold sgn
      rw [if_neg (by omega), if_neg (by omega), if_neg (by omega), if_neg (by omega)]
    · rw [if_neg (by simp [h1, h2]), if_neg h1]
      rw [show ((bn.natAbs : Nat) : Int) = bn by omega, show ((an.natAbs : Nat) : Int) = an by omega]

set_option maxHeartbeats 1600000 in
theorem cmp_any (an ad bn bd : Int) (ha1 : I64 an) (ha2 : I64 ad) (hb1 : I64 bn) (hb2 : I64 bd) (w : World) : Calls Try.prog 25 #[raV an ad, raV bn bd] w fun e w' => e = .returned (.int .i64 (cmpR an ad bn bd)) ∧ Nw w w' := by
  have HB := Lib.hid (blk2 w 23 #[.int .i64 an, .int .i64 ad] #[.int .i64 bn, .int .i64 bd])
  have hva := fun w1 => valid_any an ad ha1 ha2 w1
  have hvb := fun w1 => valid_any bn bd hb1 hb2 w1
  by_cases ha : Vld an ad
  · rw [decide_eq_true ha] at hva
    by_cases hb : Vld bn bd
    · rw [decide_eq_true hb] at hvb
      have hr : cmpR an ad bn bd = sgn (an * bd - bn * ad) := if_pos ⟨ha, hb⟩
      have hc := fun w1 => compareInt_any an bn w1
      have hm1 := fun w1 => compareMagnitudes_any an ad bn bd ha hb w1
      have hm2 := fun w1 => compareMagnitudes_any bn bd an ad hb ha w1
      rw [cmp_way ha hb] at hr
      generalize sgn (an - bn) = s1 at *
      generalize sgn ((bn.natAbs * ad.natAbs : Nat) - (an.natAbs * bd.natAbs : Nat) : Int) = s2 at *
      generalize sgn ((an.natAbs * bd.natAbs : Nat) - (bn.natAbs * ad.natAbs : Nat) : Int) = s3 at *
      generalize cmpR an ad bn bd = r at *
      clear ha hb ha1 ha2 hb1 hb2
      have HR := Lib.hid hr
      clear hr
      go_enter Try.func25, Try.ntmps25
      go_wp2_with fail
      with_reducible refine (hva _).mono ?_
      rintro e w1 ⟨rfl, hk1⟩
      obtain ⟨r0, r1, r2, r3⟩ := (HB.out.2.kp hk1 id).two
      have HK1 := Lib.hid hk1
      clear hk1
      go_wp2_with fail
      with_reducible refine (hvb _).mono ?_
      rintro e w2 ⟨rfl, hk2⟩
      have HK2 := Lib.hid (HK1.out.tr hk2)
      clear hk2 r0 r1 r2 r3
      have HK := Lib.hid (((nw_alloc w _).alloc _).tr HK2.out)
      obtain ⟨q0, q1, q2, q3⟩ := (HB.out.1.kp HK2.out id).two
      obtain ⟨r0, r1, r2, r3⟩ := (HB.out.2.kp HK2.out id).two
      by_cases h1 : an < 0
      · have e1 : decide (an < 0) = true := decide_eq_true h1
        by_cases h2 : bn < 0
        · have e2 : decide (bn < 0) = true := decide_eq_true h2
          have HR2 := Lib.hid (HR.out.trans ((if_neg (by simp [h1, h2])).trans (if_pos h1)))
          clear h1 h2
          go_wp2_with fail
          with_reducible refine (hm2 _).mono ?_
          rintro e w3 ⟨rfl, hk3⟩
          go_wp2
          go_ret
          exact ⟨by rw [HR2.out]; rfl, HK.out.tr hk3⟩
        · have e2 : decide (bn < 0) = false := decide_eq_false h2
          have HR2 := Lib.hid (HR.out.trans (if_pos (by simp [h1, h2])))
          clear h1 h2
          go_wp2_with fail
          with_reducible refine (hc _).mono ?_
          rintro e w3 ⟨rfl, rfl⟩
          go_wp2
          go_ret
          exact ⟨by rw [HR2.out]; rfl, HK.out⟩
      · have e1 : decide (an < 0) = false := decide_eq_false h1
        by_cases h2 : bn < 0
        · have e2 : decide (bn < 0) = true := decide_eq_true h2
          have HR2 := Lib.hid (HR.out.trans (if_pos (by simp [h1, h2])))
          clear h1 h2
          go_wp2_with fail
          with_reducible refine (hc _).mono ?_
          rintro e w3 ⟨rfl, rfl⟩
          go_wp2
          go_ret
          exact ⟨by rw [HR2.out]; rfl, HK.out⟩
        · have e2 : decide (bn < 0) = false := decide_eq_false h2
          have HR2 := Lib.hid (HR.out.trans ((if_neg (by simp [h1, h2])).trans (if_neg h1)))
          clear h1 h2
          go_wp2_with fail
          with_reducible refine (hm1 _).mono ?_
          rintro e w3 ⟨rfl, hk3⟩
          go_wp2
          go_ret
          exact ⟨by rw [HR2.out]; rfl, HK.out.tr hk3⟩
    · rw [decide_eq_false hb] at hvb
      have hr : cmpR an ad bn bd = 0 := if_neg fun h => hb h.2
      rw [hr]
      clear hr hb
      go_enter Try.func25, Try.ntmps25
      go_wp2_with fail
      with_reducible refine (hva _).mono ?_
      rintro e w1 ⟨rfl, hk1⟩
      obtain ⟨r0, r1, r2, r3⟩ := (HB.out.2.kp hk1 id).two
      have HK1 := Lib.hid hk1
      clear hk1
      go_wp2_with fail
      with_reducible refine (hvb _).mono ?_
      rintro e w2 ⟨rfl, hk2⟩
      have HK2 := Lib.hid (HK1.out.tr hk2)
      clear hk2
      go_wp2
      go_ret
      exact ⟨rfl, ((nw_alloc w _).alloc _).tr HK2.out⟩
  · rw [decide_eq_false ha] at hva
    have hr : cmpR an ad bn bd = 0 := if_neg fun h => ha h.1
    rw [hr]
    clear hr ha
    go_enter Try.func25, Try.ntmps25
    go_wp2_with fail
    with_reducible refine (hva _).mono ?_
    rintro e w1 ⟨rfl, hk1⟩
    have HK1 := Lib.hid hk1
    clear hk1
    go_wp2
    go_ret
    exact ⟨rfl, ((nw_alloc w _).alloc _).tr HK1.out⟩
end Go.Proofs.Ythefkomalakfeaa.W
