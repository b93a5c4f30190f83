/-
  ring: Valid, Area2, Convex: what they return. Condition: the list is not longer than 2^40.
-/
import Derived.Test.YthifljljaejfmaaJ34
import Derived.Test.YthifljljaejfmaaJ20
namespace Go.Proofs.Ythifljljaejfmaa.W
open Go.RowKit Go.Proofs.Ythifljljaejfmaa.V Go.Proofs.Ythifljljaejfmaa.G


set_option maxRecDepth 100000 in
set_option maxHeartbeats 6400000 in
theorem ringValid_any (l : List (Int × Int)) (v : Value) (w : World) (hv : SrcV w v l) (hl : l.length ≤ 1099511627776) : Calls Try.prog 6 #[v] w fun e w' => e = .returned (.bool (validR l)) ∧ Nw w w' := by
  obtain ⟨A, c, rfl⟩ := hv.shape
  obtain ⟨n, hn⟩ : ∃ n, l.length = n := ⟨_, rfl⟩
  replace hv := src_n hv hn
  rw [hn] at hl ⊢
  have HV := Lib.hid hv
  have HN := Lib.hid hn
  have hmx := src_max hv
  clear hv hn
  have hr : validR l = (decide (3 ≤ n) && decide (n ≤ 40) && allW l && turnsP l && decide (0 < areaP l) && simpleP l) := by unfold validR; rw [HN.out]
  rw [hr]
  clear hr
  have hsv := src_v HV.out HN.out
  have cw := fun w1 (h : Nw w w1) => isWithinL_any l (.slice A n c) w1 (hsv.nw h)
  have ct := fun w1 (h : Nw w w1) => turnsEv_any l (.slice A n c) w1 (hsv.nw h) (by rw [HN.out]; exact hl)
  have ca := fun w1 (h : Nw w w1) => dArea_any l (.slice A n c) w1 (hsv.nw h) (by rw [HN.out]; exact hl)
  by_cases g0 : 3 ≤ n
  case neg =>
    have f0 : decide (3 ≤ n) = false := decide_eq_false g0
    have f0' : decide ((3 : Int) ≤ (n : Int)) = false := decide_eq_false (by omega)
    clear g0
    go_enter Try.func6, Try.ntmps6
    go_wp2_with fail
    go_ret
    exact ⟨by simp [f0], Kp.refl _ _⟩
  have f0 : decide (3 ≤ n) = true := decide_eq_true g0
  have f0' : decide ((3 : Int) ≤ (n : Int)) = true := decide_eq_true (by omega)
  have cs := fun w1 (h : Nw w w1) => isSimple_any l (.slice A n c) w1 (hsv.nw h) (by rw [HN.out]; exact hl) (by rw [HN.out]; exact g0)
  clear g0 hsv
  by_cases g1 : n ≤ 40
  case neg =>
    have f1 : decide (n ≤ 40) = false := decide_eq_false g1
    have f1' : decide ((n : Int) ≤ 40) = false := decide_eq_false (by omega)
    clear g1
    go_enter Try.func6, Try.ntmps6
    go_wp2_with fail
    go_ret
    exact ⟨by simp [f1], Kp.refl _ _⟩
  have f1 : decide (n ≤ 40) = true := decide_eq_true g1
  have f1' : decide ((n : Int) ≤ 40) = true := decide_eq_true (by omega)
  clear g1
  generalize allW l = b2 at *
  generalize turnsP l = b3 at *
  obtain ⟨ar, har⟩ : ∃ a, areaP l = a := ⟨_, rfl⟩
  rw [har] at ca ⊢
  clear har
  generalize simpleP l = b5 at *
  cases b2
  case false =>
    go_enter Try.func6, Try.ntmps6
    go_wp2_with fail
    with_reducible refine (cw _ (Kp.refl _ _)).mono ?_
    rintro e w1 ⟨rfl, k1⟩
    go_wp2_with fail
    go_ret
    exact ⟨by simp, k1⟩
  cases b3
  case false =>
    go_enter Try.func6, Try.ntmps6
    go_wp2_with fail
    with_reducible refine (cw _ (Kp.refl _ _)).mono ?_
    rintro e w1 ⟨rfl, k1⟩
    go_wp2_with fail
    with_reducible refine (ct _ (k1)).mono ?_
    rintro e w2 ⟨rfl, k2⟩
    go_wp2_with fail
    go_ret
    exact ⟨by simp, (k1).tr k2⟩
  by_cases g4 : 0 < ar
  case neg =>
    have f4 : decide (0 < ar) = false := decide_eq_false g4
    clear g4
    go_enter Try.func6, Try.ntmps6
    go_wp2_with fail
    with_reducible refine (cw _ (Kp.refl _ _)).mono ?_
    rintro e w1 ⟨rfl, k1⟩
    go_wp2_with fail
    with_reducible refine (ct _ (k1)).mono ?_
    rintro e w2 ⟨rfl, k2⟩
    go_wp2_with fail
    with_reducible refine (ca _ ((k1).tr k2)).mono ?_
    rintro e w3 ⟨rfl, k3⟩
    go_wp2_with fail
    go_ret
    exact ⟨by simp [f4], ((k1).tr k2).tr k3⟩
  have f4 : decide (0 < ar) = true := decide_eq_true g4
  clear g4
  go_enter Try.func6, Try.ntmps6
  go_wp2_with fail
  with_reducible refine (cw _ (Kp.refl _ _)).mono ?_
  rintro e w1 ⟨rfl, k1⟩
  go_wp2_with fail
  with_reducible refine (ct _ (k1)).mono ?_
  rintro e w2 ⟨rfl, k2⟩
  go_wp2_with fail
  with_reducible refine (ca _ ((k1).tr k2)).mono ?_
  rintro e w3 ⟨rfl, k3⟩
  go_wp2_with fail
  with_reducible refine (cs _ (((k1).tr k2).tr k3)).mono ?_
  rintro e w4 ⟨rfl, k4⟩
  go_wp2_with fail
  go_ret
  exact ⟨by simp [f0, f1, f4], (((k1).tr k2).tr k3).tr k4⟩

set_option maxRecDepth 100000 in
set_option maxHeartbeats 3200000 in
theorem area2_any (l : List (Int × Int)) (v : Value) (w : World) (hv : SrcV w v l) (hl : l.length ≤ 1099511627776) : Calls Try.prog 13 #[v] w fun e w' => e = .returned (.int .i64 (area2R l)) ∧ Nw w w' := by
  have cv := fun w1 (h : Nw w w1) => ringValid_any l v w1 (hv.nw h) hl
  have ca := fun w1 (h : Nw w w1) => dArea_any l v w1 (hv.nw h) hl
  clear hv hl
  obtain ⟨r, hr⟩ : ∃ r, area2R l = r := ⟨_, rfl⟩
  rw [hr]
  unfold area2R at hr
  generalize validR l = b at *
  generalize areaP l = a at *
  have HR := Lib.hid hr
  clear hr
  cases b
  · go_enter Try.func13, Try.ntmps13
    go_wp2_with fail
    with_reducible refine (cv _ (Kp.refl _ _)).mono ?_
    rintro e w1 ⟨rfl, k1⟩
    go_wp2_with fail
    go_ret
    exact ⟨by rw [← HR.out]; rfl, k1⟩
  · go_enter Try.func13, Try.ntmps13
    go_wp2_with fail
    with_reducible refine (cv _ (Kp.refl _ _)).mono ?_
    rintro e w1 ⟨rfl, k1⟩
    go_wp2_with fail
    with_reducible refine (ca _ k1).mono ?_
    rintro e w2 ⟨rfl, k2⟩
    go_wp2_with fail
    go_ret
    exact ⟨by rw [← HR.out]; rfl, k1.tr k2⟩

set_option maxRecDepth 100000 in
set_option maxHeartbeats 3200000 in
theorem convex_any (l : List (Int × Int)) (v : Value) (w : World) (hv : SrcV w v l) (hl : l.length ≤ 1099511627776) : Calls Try.prog 10 #[v] w fun e w' => e = .returned (.bool (convexR l)) ∧ Nw w w' := by
  obtain ⟨A, c, rfl⟩ := hv.shape
  obtain ⟨n, hn⟩ : ∃ n, l.length = n := ⟨_, rfl⟩
  replace hv := src_n hv hn
  rw [hn] at hl ⊢
  have HV := Lib.hid hv
  have HN := Lib.hid hn
  have hmx := src_max hv
  clear hv hn
  obtain ⟨r, hr⟩ : ∃ r, convexR l = r := ⟨_, rfl⟩
  rw [hr]
  have HR := Lib.hid hr
  clear hr
  have hsv := src_v HV.out HN.out
  have cv := fun w1 (h : Nw w w1) => ringValid_any l (.slice A n c) w1 (hsv.nw h) (by rw [HN.out]; exact hl)
  obtain ⟨b, hb⟩ : ∃ b, validR l = b := ⟨_, rfl⟩
  rw [hb] at cv
  have HB := Lib.hid hb
  clear hb hsv
  cases b
  · go_enter Try.func10, Try.ntmps10
    go_wp2_with fail
    with_reducible refine (cv _ (Kp.refl _ _)).mono ?_
    rintro e w1 ⟨rfl, k1⟩
    go_wp2_with fail
    go_ret
    exact ⟨by show Ending.returned (.bool false) = _; rw [← HR.out]; unfold convexR; rw [HB.out]; rfl, k1⟩
  · go_enter Try.func10, Try.ntmps10
    go_wp2_with fail
    with_reducible refine (cv _ (Kp.refl _ _)).mono ?_
    rintro e w1 ⟨rfl, k1⟩
    have HK1 := Lib.hid k1
    clear k1 cv
    go_wp2_with fail
    go_loopw [9] (fun i wr => ∃ k : Nat, i = .int .i64 k ∧ k ≤ n ∧ (∀ j, j < k → (!decide (turnI l j < 0)) = true) ∧ Nw w wr) (fun i _ => n - (intOf i).toNat)
    case atStart => exact ⟨0, rfl, Nat.zero_le _, fun j h => absurd h (Nat.not_lt_zero _), HK1.out⟩
    case round =>
      obtain ⟨k, rfl, hk, hall, hnw⟩ := hrel
      have HA := Lib.hid hall
      clear hall
      have HK := Lib.hid hnw
      clear hnw
      by_cases hkn : k < n
      · have i0 : (0 : Int) ≤ (k : Int) := by omega
        have i1 : (k : Int) < (n : Int) := by omega
        obtain ⟨s4, hs4⟩ : ∃ s : Nat, k + 1 = s := ⟨_, rfl⟩
        have a4 : IntKind.i64.wrap ((k : Int) + 1) = (s4 : Int) := by rw [IntKind.wrap_i64]; omega
        have H4 := Lib.hid hs4
        have ct := fun w1 (h : Nw w w1) => turnAt_any l (.slice A n c) w1 ((src_v HV.out HN.out).nw h) (by rw [HN.out]; exact hl) k (by rw [HN.out]; exact hkn)
        obtain ⟨t, ht⟩ : ∃ t, turnI l k = t := ⟨_, rfl⟩
        rw [ht] at ct
        have HT := Lib.hid ht
        clear hs4 ht
        by_cases h0 : t < 0
        · have z0 : decide (t < 0) = true := by simp [h0]
          go_wp2_with fail
          with_reducible refine (ct _ HK.out).mono ?_
          rintro e w5 ⟨rfl, hk5⟩
          go_wp2_with fail
          go_ret
          refine ⟨?_, HK.out.tr hk5⟩
          show Ending.returned (.bool false) = _
          rw [← HR.out]
          unfold convexR
          rw [allTo_not (i := k) (by rw [HN.out]; exact hkn) (by rw [HT.out]; simp [h0]), Bool.and_false]
        · have z0 : decide (t < 0) = false := by simp [h0]
          go_wp2_with fail
          with_reducible refine (ct _ HK.out).mono ?_
          rintro e w5 ⟨rfl, hk5⟩
          go_wp2_with fail
          go_roundw
          case rel =>
            refine ⟨k + 1, by rw [← H4.out], by omega, fun j hj => ?_, HK.out.tr hk5⟩
            rcases Nat.lt_or_ge j k with h | h
            · exact HA.out j h
            · obtain rfl : j = k := by omega
              rw [HT.out]
              simp [h0]
          case measure => (have := H4.out; simp [intOf]; try omega)
      · obtain rfl : k = n := by omega
        have i5 : ¬ ((k : Int) < (k : Int)) := by omega
        go_wp2_with fail
        go_ret
        refine ⟨?_, HK.out⟩
        show Ending.returned (.bool true) = _
        rw [← HR.out]
        unfold convexR
        rw [HB.out, allTo_iff.2 fun i hi => HA.out i (by rw [HN.out] at hi; exact hi)]
        rfl

end Go.Proofs.Ythifljljaejfmaa.W
