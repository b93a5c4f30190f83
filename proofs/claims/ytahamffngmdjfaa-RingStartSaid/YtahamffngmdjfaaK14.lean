/-
  ring: whether all points of a list are within the limits, of both sides. No condition.
-/
import Derived.Test.YtahamffngmdjfaaK13
namespace Go.Proofs.Ytahamffngmdjfaa.W
open Go.RowKit Go.Proofs.Ytahamffngmdjfaa.V Go.Proofs.Ytahamffngmdjfaa.G


set_option maxRecDepth 100000 in
set_option maxHeartbeats 3200000 in
theorem isWithinL_any (l : List (Int × Int)) (v : Value) (w : World) (hv : SrcV w v l) : Calls Try.prog 119 #[v] w fun e w' => e = .returned (.bool (allW l)) ∧ Nw w w' := by
  obtain ⟨A, c, rfl⟩ := hv.shape
  obtain ⟨n, hn⟩ : ∃ n, l.length = n := ⟨_, rfl⟩
  replace hv := src_n hv hn
  rw [hn]
  have HV := Lib.hid hv
  have HN := Lib.hid hn
  have hmx := src_max hv
  clear hv hn
  go_enter Try.func119, Try.ntmps119
  go_wp2_with fail
  go_loopw [7] (fun i wr => ∃ k : Nat, i = .int .i64 k ∧ k ≤ n ∧ (∀ j, j < k → wOk (at_ l j) = true) ∧ Nw w wr) (fun i _ => n - (intOf i).toNat)
  case atStart => exact ⟨0, rfl, Nat.zero_le _, fun j h => absurd h (Nat.not_lt_zero _), by repeat (first | exact Kp.refl _ _ | refine Kp.drew ?_)⟩
  case round =>
    obtain ⟨k, rfl, hk, hall, hnw⟩ := hrel
    have HA := Lib.hid hall
    have HK := Lib.hid hnw
    clear hall hnw
    by_cases hkn : k < n
    · have i0 : (0 : Int) ≤ (k : Int) := by omega
      have i1 : (k : Int) < (n : Int) := by omega
      have e3 : IntKind.i64.wrap ((k : Int) + 1) = ((k + 1 : Nat) : Int) := by rw [IntKind.wrap_i64]; omega
      obtain ⟨g, o, rfl, hg, hc⟩ := src_at HV.out (by omega)
      obtain ⟨q0, q1⟩ := hc wr HK.out k hkn
      obtain ⟨⟨px, py⟩, hp⟩ : ∃ p, at_ l k = p := ⟨_, rfl⟩
      rw [hp] at q0 q1
      have HP := Lib.hid hp
      have cw := fun w1 => within_any px py 2000 w1
      obtain ⟨b, hb⟩ : ∃ b, withinV px py 2000 = b := ⟨_, rfl⟩
      rw [hb] at cw
      have HB := Lib.hid hb
      clear hp hb hc hg
      cases b
      · go_wp2_with (first | (go_at_call 42; ((with_reducible refine (cw _).mono ?_); rintro e w5 ⟨rfl, hk5⟩)))
        go_ret
        refine ⟨by show Ending.returned (.bool false) = _; rw [show allW l = false from allTo_not (i := k) (by rw [HN.out]; exact hkn) (by rw [HP.out]; exact HB.out)], ?_⟩
        exact (by repeat (first | exact HK.out | refine Kp.alloc ?_ _ | refine Kp.drew ?_) : Nw w _).tr hk5
      · go_wp2_with (first | (go_at_call 42; ((with_reducible refine (cw _).mono ?_); rintro e w5 ⟨rfl, hk5⟩)))
        go_roundw
        case rel =>
          refine ⟨k + 1, rfl, by omega, fun j hj => ?_, (by repeat (first | exact HK.out | refine Kp.alloc ?_ _ | refine Kp.drew ?_) : Nw w _).tr hk5⟩
          rcases Nat.lt_or_ge j k with h | h
          · exact HA.out j h
          · obtain rfl : j = k := by omega
            rw [HP.out]
            exact HB.out
        case measure => (simp [intOf]; try omega)
    · obtain rfl : k = n := by omega
      have i5 : ¬ ((k : Int) < (k : Int)) := by omega
      go_wp2_with fail
      go_ret
      exact ⟨by show Ending.returned (.bool true) = _; rw [show allW l = true from allTo_iff.2 fun i hi => HA.out i (by rw [HN.out] at hi; exact hi)], HK.out⟩

set_option maxRecDepth 100000 in
set_option maxHeartbeats 3200000 in
theorem rwithinL_any (l : List (Int × Int)) (v : Value) (w : World) (hv : SrcV w v l) : Calls Try.prog 123 #[v] w fun e w' => e = .returned (.bool (allW l)) ∧ Nw w w' := by
  obtain ⟨A, c, rfl⟩ := hv.shape
  obtain ⟨n, hn⟩ : ∃ n, l.length = n := ⟨_, rfl⟩
  replace hv := src_n hv hn
  rw [hn]
  have HV := Lib.hid hv
  have HN := Lib.hid hn
  have hmx := src_max hv
  clear hv hn
  go_enter Try.func123, Try.ntmps123
  go_wp2_with fail
  go_loopw [3] (fun i wr => ∃ k : Nat, i = .int .i64 k ∧ k ≤ n ∧ (∀ j, j < k → wOk (at_ l j) = true) ∧ Nw w wr) (fun i _ => n - (intOf i).toNat)
  case atStart => exact ⟨0, rfl, Nat.zero_le _, fun j h => absurd h (Nat.not_lt_zero _), by repeat (first | exact Kp.refl _ _ | refine Kp.drew ?_)⟩
  case round =>
    obtain ⟨k, rfl, hk, hall, hnw⟩ := hrel
    have HA := Lib.hid hall
    have HK := Lib.hid hnw
    clear hall hnw
    by_cases hkn : k < n
    · have i0 : (0 : Int) ≤ (k : Int) := by omega
      have i1 : (k : Int) < (n : Int) := by omega
      have e3 : IntKind.i64.wrap ((k : Int) + 1) = ((k + 1 : Nat) : Int) := by rw [IntKind.wrap_i64]; omega
      obtain ⟨g, o, rfl, hg, hc⟩ := src_at HV.out (by omega)
      obtain ⟨q0, q1⟩ := hc wr HK.out k hkn
      obtain ⟨⟨px, py⟩, hp⟩ : ∃ p, at_ l k = p := ⟨_, rfl⟩
      rw [hp] at q0 q1
      have HP := Lib.hid hp
      have cw := fun w1 => rwithin_any px py 2000 w1
      obtain ⟨b, hb⟩ : ∃ b, withinV px py 2000 = b := ⟨_, rfl⟩
      rw [hb] at cw
      have HB := Lib.hid hb
      clear hp hb hc hg
      cases b
      · go_wp2_with (first | (go_at_call 43; ((with_reducible refine (cw _).mono ?_); rintro e w5 ⟨rfl, hk5⟩)))
        go_ret
        refine ⟨by show Ending.returned (.bool false) = _; rw [show allW l = false from allTo_not (i := k) (by rw [HN.out]; exact hkn) (by rw [HP.out]; exact HB.out)], ?_⟩
        exact (by repeat (first | exact HK.out | refine Kp.alloc ?_ _ | refine Kp.drew ?_) : Nw w _).tr hk5
      · go_wp2_with (first | (go_at_call 43; ((with_reducible refine (cw _).mono ?_); rintro e w5 ⟨rfl, hk5⟩)))
        go_roundw
        case rel =>
          refine ⟨k + 1, rfl, by omega, fun j hj => ?_, (by repeat (first | exact HK.out | refine Kp.alloc ?_ _ | refine Kp.drew ?_) : Nw w _).tr hk5⟩
          rcases Nat.lt_or_ge j k with h | h
          · exact HA.out j h
          · obtain rfl : j = k := by omega
            rw [HP.out]
            exact HB.out
        case measure => (simp [intOf]; try omega)
    · obtain rfl : k = n := by omega
      have i5 : ¬ ((k : Int) < (k : Int)) := by omega
      go_wp2_with fail
      go_ret
      exact ⟨by show Ending.returned (.bool true) = _; rw [show allW l = true from allTo_iff.2 fun i hi => HA.out i (by rw [HN.out] at hi; exact hi)], HK.out⟩

end Go.Proofs.Ytahamffngmdjfaa.W
