/-
  ring: turnsEverywhere, needless; the reference's Signed and extra. Condition: the list is not longer than 2^40.
  A guard that looks at an operation that was not carried out. No condition.
  The reference's Sorted: the list in ascending order, each vector once. Condition: the list is not longer than a slice may be.
  The reference's common: the ends that lie on both segments, in ascending order. Condition: the segments are valid.
-/
import Derived.Test.YtahamffngmdjfaaK17
import Derived.Test.YtahamffngmdjfaaK12
import Derived.Test.YtahamffngmdjfaaK04
import Derived.Test.YtahamffngmdjfaaK16
import Derived.BigRegion
namespace Go.Proofs.Ytahamffngmdjfaa.W
open Go.RowKit Go.Proofs.Ytahamffngmdjfaa.V Go.Proofs.Ytahamffngmdjfaa.G


set_option maxRecDepth 100000 in
set_option maxHeartbeats 3200000 in
theorem turnsEv_any (l : List (Int × Int)) (v : Value) (w : World) (hv : SrcV w v l) (hl : l.length ≤ 1099511627776) : Calls Try.prog 120 #[v] w fun e w' => e = .returned (.bool (turnsP l)) ∧ Nw w w' := by
  obtain ⟨A, c, rfl⟩ := hv.shape
  obtain ⟨n, hn⟩ : ∃ n, l.length = n := ⟨_, rfl⟩
  replace hv := src_n hv hn
  rw [hn] at hl ⊢
  have HV := Lib.hid hv
  have HN := Lib.hid hn
  have hmx := src_max hv
  clear hv hn
  go_enter Try.func120, Try.ntmps120
  go_wp2_with fail
  go_loopw [6] (fun i wr => ∃ k : Nat, i = .int .i64 k ∧ k ≤ n ∧ (∀ j, j < k → (!(turnI l j == 0)) = true) ∧ Nw w wr) (fun i _ => n - (intOf i).toNat)
  case atStart => exact ⟨0, rfl, Nat.zero_le _, fun j h => absurd h (Nat.not_lt_zero _), (by repeat (first | exact Kp.refl _ _ | refine Kp.alloc ?_ _ | refine Kp.drew ?_))⟩
  case round =>
    obtain ⟨k, rfl, hk, hall, hnw⟩ := hrel
    have HA := Lib.hid hall
    clear hall
    have HK := Lib.hid hnw
    clear hnw
    by_cases hkn : k < n
    · have i0 : (0 : Int) ≤ (k : Int) := by omega
      have i1 : (k : Int) < (n : Int) := by omega
      obtain ⟨s4, hs4⟩ : ∃ s : Nat, k + 1 = s := ⟨_, rfl⟩
      have a4 : IntKind.i64.wrap ((k : Int) + 1) = (s4 : Int) := by rw [IntKind.wrap_i64]; omega
      have H4 := Lib.hid hs4
      have ct := fun w1 (h : Nw w w1) => turnAt_any l (.slice A n c) w1 ((src_v HV.out HN.out).nw h) (by rw [HN.out]; exact hl) k (by rw [HN.out]; exact hkn)
      obtain ⟨t, ht⟩ : ∃ t, turnI l k = t := ⟨_, rfl⟩
      rw [ht] at ct
      have HT := Lib.hid ht
      clear hs4 ht
      by_cases h0 : t = 0
      · have z0 : (t == 0) = true := by simp [h0]
        go_wp2_with (first | (go_at_call 124; ((with_reducible refine (ct _ (by repeat (first | exact HK.out | refine Kp.drew ?_))).mono ?_); rintro e w5 ⟨rfl, hk5⟩)))
        go_ret
        refine ⟨?_, HK.out.tr hk5⟩
        show Ending.returned (.bool false) = _
        rw [show turnsP l = false from allTo_not (i := k) (by rw [HN.out]; exact hkn) (by rw [HT.out]; simp [h0])]
      · have z0 : (t == 0) = false := by simp [h0]
        go_wp2_with (first | (go_at_call 124; ((with_reducible refine (ct _ (by repeat (first | exact HK.out | refine Kp.drew ?_))).mono ?_); rintro e w5 ⟨rfl, hk5⟩)))
        go_roundw
        case rel =>
          refine ⟨k + 1, by rw [← H4.out], by omega, fun j hj => ?_, HK.out.tr hk5⟩
          rcases Nat.lt_or_ge j k with h | h
          · exact HA.out j h
          · obtain rfl : j = k := by omega
            rw [HT.out]
            simp [h0]
        case measure => (have := H4.out; simp [intOf]; try omega)
    · obtain rfl : k = n := by omega
      have i5 : ¬ ((k : Int) < (k : Int)) := by omega
      go_wp2_with fail
      go_ret
      exact ⟨by show Ending.returned (.bool true) = _; rw [show turnsP l = true from allTo_iff.2 fun i hi => HA.out i (by rw [HN.out] at hi; exact hi)], HK.out⟩

set_option maxRecDepth 100000 in
set_option maxHeartbeats 3200000 in
theorem rsigned_any (l : List (Int × Int)) (v : Value) (w : World) (hv : SrcV w v l) (hl : l.length ≤ 1099511627776) : Calls Try.prog 129 #[v] w fun e w' => e = .returned (.int .i64 (areaP l)) ∧ Nw w w' := by
  obtain ⟨A, c, rfl⟩ := hv.shape
  obtain ⟨n, hn⟩ : ∃ n, l.length = n := ⟨_, rfl⟩
  replace hv := src_n hv hn
  rw [hn] at hl ⊢
  have HV := Lib.hid hv
  have HN := Lib.hid hn
  have hmx := src_max hv
  clear hv hn
  have hmix := mixed7
  go_enter Try.func129, Try.ntmps129
  go_wp2_with fail
  go_loopw [3, 4] (fun s i wr => ∃ k : Nat, i = .int .i64 k ∧ k ≤ n ∧ s = .int .i64 (areaTo l k) ∧ Nw w wr) (fun s i _ => n - (intOf i).toNat)
  case atStart => exact ⟨0, rfl, Nat.zero_le _, rfl, (by repeat (first | exact Kp.refl _ _ | refine Kp.alloc ?_ _ | refine Kp.drew ?_))⟩
  case round =>
    obtain ⟨k, rfl, hk, rfl, hnw⟩ := hrel
    have HK := Lib.hid hnw
    clear hnw
    by_cases hkn : k < n
    · have i0 : (0 : Int) ≤ (k : Int) := by omega
      have i1 : (k : Int) < (n : Int) := by omega
      obtain ⟨s4, hs4⟩ : ∃ s : Nat, k + 1 = s := ⟨_, rfl⟩
      have a4 : IntKind.i64.wrap ((k : Int) + 1) = (s4 : Int) := by rw [IntKind.wrap_i64]; omega
      have H4 := Lib.hid hs4
      have hn0 : 0 < n := by omega
      obtain ⟨s5, hs5⟩ : ∃ s : Nat, (k + 1) % n = s := ⟨_, rfl⟩
      have l5 : s5 < n := by rw [← hs5]; exact Nat.mod_lt _ hn0
      have a5 : (s4 : Int).tmod (n : Int) = (s5 : Int) := by rw [tmod_nat, ← hs4, hs5]
      have z0 : ¬ (n = 0) := by omega
      have b4 : (0 : Int) ≤ (s5 : Int) := by omega
      have b5 : (s5 : Int) < (n : Int) := by omega
      obtain ⟨g, o, rfl, hg, hc⟩ := src_at HV.out (by omega)
      obtain ⟨⟨ax, ay⟩, ha⟩ : ∃ p, at_ l k = p := ⟨_, rfl⟩
      obtain ⟨⟨bx, bz⟩, hb⟩ : ∃ p, at_ l s5 = p := ⟨_, rfl⟩
      have hS : areaTo l (k + 1) = w64 (areaTo l k + crossV ax ay bx bz) := by
        show w64 (areaTo l k + crossP (at_ l k) (at_ l ((k + 1) % l.length))) = _
        rw [HN.out, hs5, ha, hb]
        rfl
      have HS := Lib.hid hS
      have cc := fun w1 => rcross_any ax ay bx bz w1
      obtain ⟨u, hu⟩ : ∃ u, crossV ax ay bx bz = u := ⟨_, rfl⟩
      obtain ⟨t, ht⟩ : ∃ t, areaTo l k = t := ⟨_, rfl⟩
      rw [hu] at cc HS
      rw [ht] at HS ⊢
      have q0 := fun p : KeptW wr => (hc p.wd (HK.out.tr p.since) k hkn).1
      have q1 := fun p : KeptW wr => (hc p.wd (HK.out.tr p.since) k hkn).2
      have q2 := fun p : KeptW wr => (hc p.wd (HK.out.tr p.since) s5 l5).1
      have q3 := fun p : KeptW wr => (hc p.wd (HK.out.tr p.since) s5 l5).2
      rw [ha] at q0 q1
      rw [hb] at q2 q3
      clear hc hg hs5 hs4 l5 ha hb hS hu ht
      go_wp2_with fail
      refine wp_region_kept (Kp.refl _ _) (by assumption) (by kernel_rfl) ?_
      repeat (with_reducible refine wpQuiet_step (fun K hK => ?_); go_simp; first | ((with_reducible refine hK _ ?_); clear hK K) | (with_reducible apply Exists.intro; (with_reducible refine ⟨fun _ => ?_, hK _ ?_⟩); ((first | (go_at_call 33; with_reducible exact Calls.kept_of (cc _)) | fail)); clear hK K) | (simp only [undef, reduceCtorEq, if_false]; (with_reducible refine hK _ ?_); clear hK K))
      with_reducible refine wpQuiet_nil ?_
      rintro _ ⟨p, rfl⟩
      go_wp2_with fail
      go_roundw
      case rel => exact ⟨k + 1, by rw [← H4.out], by omega, by rw [HS.out, wrapI], HK.out.tr p.since⟩
      case measure => (have := H4.out; simp [intOf]; try omega)
    · obtain rfl : k = n := by omega
      have i5 : ¬ ((k : Int) < (k : Int)) := by omega
      go_wp2_with fail
      go_ret
      exact ⟨by show Ending.returned (.int .i64 (areaTo l k)) = Ending.returned (.int .i64 (areaTo l l.length)); rw [HN.out], HK.out⟩

set_option maxRecDepth 100000 in
set_option maxHeartbeats 6400000 in
theorem needless_any (l : List (Int × Int)) (v : Value) (w : World) (hv : SrcV w v l) (hl : l.length ≤ 1099511627776) : Calls Try.prog 125 #[v] w fun e w' => e = .returned (.int .i64 (need l)) ∧ Nw w w' := by
  obtain ⟨A, c, rfl⟩ := hv.shape
  obtain ⟨n, hn⟩ : ∃ n, l.length = n := ⟨_, rfl⟩
  replace hv := src_n hv hn
  rw [hn] at hl ⊢
  have HV := Lib.hid hv
  have HN := Lib.hid hn
  have hmx := src_max hv
  clear hv hn
  have hmix := mixed7
  go_enter Try.func125, Try.ntmps125
  go_wp2_with fail
  go_loopw [7] (fun i wr => ∃ k : Nat, i = .int .i64 k ∧ k ≤ n ∧ (∀ j, j < k → spare l j = false) ∧ Nw w wr) (fun i _ => n - (intOf i).toNat)
  case atStart => exact ⟨0, rfl, Nat.zero_le _, fun j h => absurd h (Nat.not_lt_zero _), (by repeat (first | exact Kp.refl _ _ | refine Kp.alloc ?_ _ | refine Kp.drew ?_))⟩
  case round =>
    obtain ⟨k, rfl, hk, hall, hnw⟩ := hrel
    have HA := Lib.hid hall
    clear hall
    have HK := Lib.hid hnw
    clear hnw
    by_cases hkn : k < n
    · have i0 : (0 : Int) ≤ (k : Int) := by omega
      have i1 : (k : Int) < (n : Int) := by omega
      obtain ⟨s4, hs4⟩ : ∃ s : Nat, k + 1 = s := ⟨_, rfl⟩
      have a4 : IntKind.i64.wrap ((k : Int) + 1) = (s4 : Int) := by rw [IntKind.wrap_i64]; omega
      have H4 := Lib.hid hs4
      have hn0 : 0 < n := by omega
      obtain ⟨s5, hs5⟩ : ∃ s : Nat, (k + 1) % n = s := ⟨_, rfl⟩
      have l5 : s5 < n := by rw [← hs5]; exact Nat.mod_lt _ hn0
      have a5 : (s4 : Int).tmod (n : Int) = (s5 : Int) := by rw [tmod_nat, ← hs4, hs5]
      have z0 : ¬ (n = 0) := by omega
      have b4 : (0 : Int) ≤ (s5 : Int) := by omega
      have b5 : (s5 : Int) < (n : Int) := by omega
      obtain ⟨g, o, rfl, hg, hc⟩ := src_at HV.out (by omega)
      obtain ⟨⟨ax, ay⟩, ha⟩ : ∃ p, at_ l k = p := ⟨_, rfl⟩
      obtain ⟨⟨bx, bz⟩, hb⟩ : ∃ p, at_ l s5 = p := ⟨_, rfl⟩
      have hS : spare l k = ((ax == bx && ay == bz) || (turnI l k == 0)) := by
        unfold spare
        rw [HN.out, hs5, ha, hb]
        rfl
      have HS := Lib.hid hS
      have hsv := src_v HV.out HN.out
      obtain ⟨y0, y1⟩ := hc wr HK.out k hkn
      rw [ha] at y0 y1
      have hq := fun w1 => eql_vecg ax ay bx bz w1
      have ct0 := fun w1 (h : Nw w w1) => turnAt_any l (.slice (some ⟨g, o, none⟩) n c) w1 (hsv.nw h) (by rw [HN.out]; exact hl) k (by rw [HN.out]; exact hkn)
      obtain ⟨t, ht⟩ : ∃ t, turnI l k = t := ⟨_, rfl⟩
      rw [ht] at ct0 HS
      obtain ⟨q, hqq⟩ : ∃ q, (ax == bx && ay == bz) = q := ⟨_, rfl⟩
      rw [hqq] at hq HS
      obtain ⟨z, hz⟩ : ∃ z, (t == 0) = z := ⟨_, rfl⟩
      rw [hz] at HS
      have hH := Lib.hid hc
      have HL5 := Lib.hid l5
      have HB := Lib.hid hb
      have HCT := Lib.hid ct0
      clear hc hg hs5 hs4 l5 ha hb hS ht hqq hsv ct0
      go_upto_region 4 with fail
      generalize hwb : World.alloc _ (.cells #[.int .i64 ax, .int .i64 ay] _) = wb
      have HKB := Lib.hid (show Nw w wb by rw [← hwb]; exact HK.out.alloc _)
      have HBB := Lib.hid (show Blk wb wr.heap.size 23 #[.int .i64 ax, .int .i64 ay] by rw [← hwb]; exact Blk.new _ _ _)
      have q0 := fun p : KeptW wb => (HBB.out.kept p).cell 0
      have q1 := fun p : KeptW wb => (HBB.out.kept p).cell 1
      have q2 := fun p : KeptW wb => (hH.out p.wd (HKB.out.tr p.since) s5 HL5.out).1
      have q3 := fun p : KeptW wb => (hH.out p.wd (HKB.out.tr p.since) s5 HL5.out).2
      have ct := fun (p : KeptW wb) => HCT.out p.wd (HKB.out.tr p.since)
      rw [HB.out] at q2 q3
      clear hwb y0 y1
      cases q
      · cases z
        · skip
          refine wp_region_kept (Kp.refl _ _) (by assumption) (by kernel_rfl) ?_
          repeat (with_reducible refine wpQuiet_step (fun K hK => ?_); go_simp; first | ((with_reducible refine hK _ ?_); clear hK K) | (with_reducible apply Exists.intro; (with_reducible refine ⟨fun _ => ?_, hK _ ?_⟩); ((first | (go_at_call 124; with_reducible exact Calls.kept_of (ct _)) | fail)); clear hK K) | (simp only [undef, reduceCtorEq, if_false]; (with_reducible refine hK _ ?_); clear hK K))
          with_reducible refine wpQuiet_nil ?_
          rintro _ ⟨p, rfl⟩
          go_wp2_with fail
          go_roundw
          case rel =>
            refine ⟨k + 1, by rw [← H4.out], by omega, fun j hj => ?_, HKB.out.tr p.since⟩
            rcases Nat.lt_or_ge j k with h | h
            · exact HA.out j h
            · obtain rfl : j = k := by omega
              exact HS.out
          case measure => (have := H4.out; simp [intOf]; try omega)
        · skip
          refine wp_region_kept (Kp.refl _ _) (by assumption) (by kernel_rfl) ?_
          repeat (with_reducible refine wpQuiet_step (fun K hK => ?_); go_simp; first | ((with_reducible refine hK _ ?_); clear hK K) | (with_reducible apply Exists.intro; (with_reducible refine ⟨fun _ => ?_, hK _ ?_⟩); ((first | (go_at_call 124; with_reducible exact Calls.kept_of (ct _)) | fail)); clear hK K) | (simp only [undef, reduceCtorEq, if_false]; (with_reducible refine hK _ ?_); clear hK K))
          with_reducible refine wpQuiet_nil ?_
          rintro _ ⟨p, rfl⟩
          go_wp2_with fail
          go_ret
          refine ⟨?_, HKB.out.tr p.since⟩
          show Ending.returned (.int .i64 k) = _
          rw [need_of (l := l) (k := k) (by rw [HN.out]; omega) HA.out fun _ => HS.out]
      · skip
        refine wp_region_kept (Kp.refl _ _) (by assumption) (by kernel_rfl) ?_
        repeat (with_reducible refine wpQuiet_step (fun K hK => ?_); go_simp; first | ((with_reducible refine hK _ ?_); clear hK K) | (with_reducible apply Exists.intro; (with_reducible refine ⟨fun _ => ?_, hK _ ?_⟩); ((first | (go_at_call 124; with_reducible exact Calls.kept_of (ct _)) | fail)); clear hK K) | (simp only [undef, reduceCtorEq, if_false]; (with_reducible refine hK _ ?_); clear hK K))
        with_reducible refine wpQuiet_nil ?_
        rintro _ ⟨p, rfl⟩
        go_wp2_with fail
        go_ret
        refine ⟨?_, HKB.out.tr p.since⟩
        show Ending.returned (.int .i64 k) = _
        rw [need_of (l := l) (k := k) (by rw [HN.out]; omega) HA.out fun _ => HS.out]
    · obtain rfl : k = n := by omega
      have i5 : ¬ ((k : Int) < (k : Int)) := by omega
      go_wp2_with fail
      go_ret
      refine ⟨?_, HK.out⟩
      show Ending.returned (.int .i64 k) = _
      rw [need_of (l := l) (k := k) (by rw [HN.out]; omega) HA.out fun h => absurd h (by rw [HN.out]; omega)]

end Go.Proofs.Ytahamffngmdjfaa.W

namespace Go.Proofs.Ytahamffngmdjfaa.W
theorem none_some {A B : Prop} {b : Bool} [inst : Decidable ((none : Option Bool) = some b)] (h : B) : @ite Prop ((none : Option Bool) = some b) inst A B := by
  rw [if_neg (by simp)]
  exact h
end Go.Proofs.Ytahamffngmdjfaa.W

namespace Go.Proofs.Ytahamffngmdjfaa.W
open Go.RowKit Go.Proofs.Ytahamffngmdjfaa.V

set_option maxRecDepth 100000 in
set_option maxHeartbeats 6400000 in
theorem rsorted_any (l : List (Int × Int)) (v : Value) (w : World) (hv : SrcV w v l) (hl : l.length ≤ 1099511627776) :
    Calls Try.prog 48 #[v] w fun e w' => ∃ v', e = .returned v' ∧ SrcV w' v' (insAll l) ∧ Nw w w' := by
  obtain ⟨A, c, rfl⟩ := hv.shape
  obtain ⟨n, hn⟩ : ∃ n, l.length = n := ⟨_, rfl⟩
  have HV := Lib.hid hv
  have HN := Lib.hid hn
  rw [hn] at hl ⊢
  clear hv hn
  go_enter Try.func48, Try.ntmps48
  go_wp2
  go_loopw [4, 3] (fun i ov wr => ∃ k : Nat, i = .int .i64 k ∧ k ≤ n ∧ (insAll (l.take k)).length ≤ k ∧ SrcV wr ov (insAll (l.take k)) ∧ Nw w wr) (fun i _ _ => n - (intOf i).toNat)
  case atStart => exact ⟨0, rfl, Nat.zero_le _, by simp [insAll], src_none _ _ _ (Nat.zero_le _), Kp.refl _ _⟩
  case round =>
    obtain ⟨k, rfl, hk, hlen, hso, hnw⟩ := hrel
    obtain ⟨wo, rfl⟩ : ∃ x, x = wr := ⟨_, rfl⟩
    obtain ⟨B, d, rfl⟩ := hso.shape
    obtain ⟨L, hL⟩ : ∃ L, insAll (l.take k) = L := ⟨_, rfl⟩
    rw [hL] at hlen hso ⊢
    obtain ⟨m, hm⟩ : ∃ m, L.length = m := ⟨_, rfl⟩
    rw [hm] at hlen ⊢
    have HS := Lib.hid hso
    have HK := Lib.hid hnw
    have HLL := Lib.hid hL
    have HM := Lib.hid hm
    clear hso hnw hL hm
    by_cases hkn : k < n
    · have i0 : (0 : Int) ≤ (k : Int) := by omega
      have i1 : (k : Int) < (n : Int) := by omega
      obtain ⟨⟨ax, ay⟩, ha⟩ : ∃ x, l[k]? = some x := ⟨l[k]'(by rw [HN.out]; omega), List.getElem?_eq_getElem _⟩
      have HA := Lib.hid ha
      have HP := Lib.hid (show ∀ w', Nw wo w' → ∃ g o, A = some ⟨g, o, none⟩ ∧ w'.cell? (⟨g, o + k * 2, none⟩ : Addr) = some (.int .i64 ax) ∧ w'.cell? (⟨g, o + k * 2 + 1, none⟩ : Addr) = some (.int .i64 ay) from fun w' h => by
        obtain ⟨_, A', c', hA, _, _, hc⟩ := HV.out
        injection hA with hA1 hA2 hA3
        obtain ⟨g, o, hA4, hg, hc⟩ := hc (by rw [HN.out]; omega)
        obtain ⟨f1, f2⟩ := flatV_at l k (ax, ay) ha
        exact ⟨g, o, hA1.trans hA4, ((HK.out.tr h).cell (p := ⟨g, o + k * 2, none⟩) hg id).trans (hc _ _ f1), ((HK.out.tr h).cell (p := ⟨g, o + (k * 2 + 1), none⟩) hg id).trans (hc _ _ f2)⟩)
      obtain ⟨g, o, rfl, _, _⟩ := HP.out wo (Kp.refl _ _)
      clear ha
      go_wp2_with fail
      go_loopw [5] (fun i wx => ∃ q : Nat, i = .int .i64 q ∧ q ≤ place (ax, ay) L ∧ Nw wo wx) (fun i _ => place (ax, ay) L - (intOf i).toNat)
      case atStart => exact ⟨0, rfl, Nat.zero_le _, Kp.refl _ _⟩
      case round =>
        obtain ⟨q, rfl, hq, hnx⟩ := hrel
        have HX := Lib.hid hnx
        clear hnx
        have j0 : (0 : Int) ≤ (q : Int) := by omega
        have hpl := place_le (ax, ay) L
        rw [HM.out] at hpl
        by_cases hqm : q < m
        · have j1 : (q : Int) < (m : Int) := by omega
          obtain ⟨⟨bx, bz⟩, hb⟩ : ∃ x, L[q]? = some x := ⟨L[q]'(by rw [HM.out]; omega), List.getElem?_eq_getElem _⟩
          obtain ⟨_, B', d', hB, _, _, hc⟩ := HS.out
          injection hB with hB1 hB2 hB3
          subst hB1 hB3
          clear hB2
          obtain ⟨bg, bo, rfl, hbg, hc⟩ := hc (by rw [HM.out]; omega)
          obtain ⟨f1, f2⟩ := flatV_at L q (bx, bz) hb
          have HQ := Lib.hid (show ∀ w' : World, Nw wr w' → w'.cell? (⟨g, o + k * 2, none⟩ : Addr) = some (.int .i64 ax) ∧ w'.cell? (⟨g, o + k * 2 + 1, none⟩ : Addr) = some (.int .i64 ay) ∧ w'.cell? (⟨bg, bo + q * 2, none⟩ : Addr) = some (.int .i64 bx) ∧ w'.cell? (⟨bg, bo + q * 2 + 1, none⟩ : Addr) = some (.int .i64 bz) from fun w' h => by
            obtain ⟨g', o', hg', z1, z2⟩ := HP.out w' (HX.out.tr h)
            injection hg' with hg'
            injection hg' with hg1 hg2
            subst hg1 hg2
            exact ⟨z1, z2, ((HX.out.tr h).cell (p := ⟨bg, bo + q * 2, none⟩) hbg id).trans (hc _ _ f1), ((HX.out.tr h).cell (p := ⟨bg, bo + (q * 2 + 1), none⟩) hbg id).trans (hc _ _ f2)⟩)
          have cl := fun w1 => rless_any bx bz ax ay w1
          have HBL := Lib.hid hb
          clear hc f1 f2 hb
          by_cases hqp : q < place (ax, ay) L
          · have hle : lessV bx bz ax ay = true := by
              obtain ⟨y, hy, hl⟩ := place_lt hqp
              rw [HBL.out] at hy
              injection hy with hy
              subst hy
              exact hl
            rw [hle] at cl
            have e4 : IntKind.i64.wrap ((q : Int) + 1) = (q : Int) + 1 := by rw [IntKind.wrap_i64]; omega
            clear hle
            go_wp2_with fail
            go_region_held3 (fun w' : World => w'.cell? (⟨g, o + k * 2, none⟩ : Addr) = some (.int .i64 ax) ∧ w'.cell? (⟨g, o + k * 2 + 1, none⟩ : Addr) = some (.int .i64 ay) ∧ w'.cell? (⟨bg, bo + q * 2, none⟩ : Addr) = some (.int .i64 bx) ∧ w'.cell? (⟨bg, bo + q * 2 + 1, none⟩ : Addr) = some (.int .i64 bz))
              (first | exact HQ.out _ (Kp.refl _ _) | exact HQ.out _ (Kp.drew (Kp.refl _ _)) | exact HQ.out _ hb | fail)
              (first
                | (go_at_call 41; ((with_reducible refine (cl _).mono ?_); rintro e x0 ⟨rfl, hk⟩; have hb : Nw wr x0 := (Kp.drew (Kp.refl _ _)).tr hk)))
            go_wp2_with fail
            go_roundw
            case rel => exact ⟨q + 1, by go_num, by omega, HX.out.tr hb⟩
            case measure => simp [intOf]; omega
          · obtain rfl : q = place (ax, ay) L := by omega
            have hle : lessV bx bz ax ay = false := by
              obtain ⟨y, hy, hl⟩ := place_at (x := (ax, ay)) (l := L) (by rw [HM.out]; omega)
              rw [HBL.out] at hy
              injection hy with hy
              subst hy
              exact hl
            rw [hle] at cl
            clear hle
            obtain ⟨q, hqq⟩ : ∃ q, place (ax, ay) L = q := ⟨_, rfl⟩
            rw [hqq] at HQ HBL j0 j1 hqm ⊢
            go_wp2_with fail
            go_region_held3 (fun w' : World => w'.cell? (⟨g, o + k * 2, none⟩ : Addr) = some (.int .i64 ax) ∧ w'.cell? (⟨g, o + k * 2 + 1, none⟩ : Addr) = some (.int .i64 ay) ∧ w'.cell? (⟨bg, bo + q * 2, none⟩ : Addr) = some (.int .i64 bx) ∧ w'.cell? (⟨bg, bo + q * 2 + 1, none⟩ : Addr) = some (.int .i64 bz))
              (first | exact HQ.out _ (Kp.refl _ _) | exact HQ.out _ (Kp.drew (Kp.refl _ _)) | exact HQ.out _ hb | fail)
              (first
                | (go_at_call 41; ((with_reducible refine (cl _).mono ?_); rintro e x0 ⟨rfl, hk⟩; have hb : Nw wr x0 := (Kp.drew (Kp.refl _ _)).tr hk)))
            go_wp2_with fail
            have HX0 := Lib.hid (HX.out.tr hb)
            obtain ⟨z0, z1, z2, z3⟩ := HQ.out _ hb
            have hq := fun w1 => eql_vec bx bz ax ay w1
            clear hb hk cl
            by_cases h1 : (bx, bz) = (ax, ay)
            · rw [show (bx == ax && bz == ay) = true by injection h1 with h1 h2; simp [h1, h2]] at hq
              have HE := Lib.hid h1
              have e4 : IntKind.i64.wrap ((k : Int) + 1) = ((k + 1 : Nat) : Int) := by rw [IntKind.wrap_i64]; omega
              clear h1
              go_wp2_with fail
              go_region
              go_wp2_with fail
              go_roundw
              case rel =>
                have hi : insAll (l.take (k + 1)) = L := by
                  rw [ins_take HA.out, HLL.out]
                  unfold insU
                  rw [hqq, HBL.out, if_pos (by rw [HE.out])]
                refine ⟨k + 1, rfl, by omega, by rw [hi, HM.out]; omega, ?_, by repeat (first | exact HK.out.tr HX0.out | refine Kp.drew ?_)⟩
                rw [hi]
                have h := HS.out.nw HX0.out
                rw [HM.out] at h
                show Src _ 2 _ L.length _
                rw [HM.out]
                exact h
              case measure => simp [intOf]; omega
            · rw [show (bx == ax && bz == ay) = false by
                apply Bool.eq_false_iff.2
                intro h
                simp at h
                exact h1 (by rw [h.1, h.2])] at hq
              have HE := Lib.hid h1
              clear h1
              go_wp2_with fail
              go_region
              generalize hw9 : World.drew _ = w9
              have HW9 := Lib.hid (show Nw wo w9 by rw [← hw9]; exact HX0.out.drew)
              have hqm2 : q ≤ m := by omega
              have HI := Lib.hid (show insAll (l.take (k + 1)) = L.take q ++ (ax, ay) :: L.drop q by
                rw [ins_take HA.out, HLL.out]
                unfold insU
                rw [hqq, HBL.out, if_neg (fun e => HE.out (by injection e))])
              clear hw9 hq z0 z1 z2 z3 j1
              obtain ⟨B1, d1, hr1, hs1, _⟩ := (show Src w9 2 (.slice (some ⟨bg, bo, none⟩) m d) m (L.flatMap vC) from by have h := HS.out.nw HW9.out; rw [HM.out] at h; exact h).cuth elemVec Try.underlying36 infoVec q hqm2
              obtain ⟨B3, d3, hr3, hs3, _⟩ := (show Src w9 2 (.slice (some ⟨bg, bo, none⟩) m d) m (L.flatMap vC) from by have h := HS.out.nw HW9.out; rw [HM.out] at h; exact h).cutl elemVec Try.underlying36 infoVec q hqm2
              have HS1 := Lib.hid hs1
              have HS3 := Lib.hid hs3
              have HP9 := Lib.hid (show ∀ w', Nw w9 w' → w'.cell? (⟨g, o + k * 2, none⟩ : Addr) = some (.int .i64 ax) ∧ w'.cell? (⟨g, o + k * 2 + 1, none⟩ : Addr) = some (.int .i64 ay) from fun w' h => by
                obtain ⟨g', o', hg', z1, z2⟩ := HP.out w' (HW9.out.tr h)
                injection hg' with hg'
                injection hg' with hg1 hg2
                subst hg1 hg2
                exact ⟨z1, z2⟩)
              clear hs1 hs3
              go_wp2_with fail
              go_region_held3 (fun w' : World => w'.cell? (⟨g, o + k * 2, none⟩ : Addr) = some (.int .i64 ax) ∧ w'.cell? (⟨g, o + k * 2 + 1, none⟩ : Addr) = some (.int .i64 ay))
                (first | exact HP9.out _ (Kp.refl _ _) | exact HP9.out _ (Kp.drew (Kp.refl _ _)) | exact HP9.out _ (Kp.alloc (Kp.drew (Kp.refl _ _)) _) | exact HP9.out _ (Kp.alloc (Kp.alloc (Kp.drew (Kp.refl _ _)) _) _) | exact HP9.out _ hk5 | exact HP9.out _ hk4 | exact HP9.out _ hk3 | exact HP9.out _ (Kp.alloc hk3 _) | fail)
                (first
                  | (refine step_appV (by rfl) (.tmp 44) (.tmp 47) (by rfl) w9.heap.size 0 q _ (.slice B1 q d1) [] _ (by rfl) (own_lit_at w9.drew w9.heap.size (by simp) (by omega)) (by rfl) (HS1.out.nw (show Nw w9 _ from by repeat (first | exact Kp.refl _ _ | refine Kp.alloc ?_ _ | refine Kp.drew ?_))) (take_one _ _) (by omega) (show Nw w9 _ from by repeat (first | exact Kp.refl _ _ | refine Kp.alloc ?_ _ | refine Kp.drew ?_)).size ?_; intro v3 w3 own3 gr3; simp only [Nat.zero_add, List.nil_append] at own3; have hk3 : Nw w9 w3 := gr3.nw (show Nw w9 _ from by repeat (first | exact Kp.refl _ _ | refine Kp.alloc ?_ _ | refine Kp.drew ?_)) (fun kk hkk => by simp [Value.ownBlock] at hkk; omega))
                  | (refine step_appV (by rfl) (.tmp 44) (.tmp 47) (by rfl) w9.heap.size 0 q _ (.slice B1 q d1) [] _ (by rfl) ((own_lit_at w9.drew w9.heap.size (by simp) (by omega)).alloc (.cells #[.int .i64 ax, .int .i64 ay] 23)) (by rfl) (HS1.out.nw (show Nw w9 _ from by repeat (first | exact Kp.refl _ _ | refine Kp.alloc ?_ _ | refine Kp.drew ?_))) (take_one _ _) (by omega) (show Nw w9 _ from by repeat (first | exact Kp.refl _ _ | refine Kp.alloc ?_ _ | refine Kp.drew ?_)).size ?_; intro v3 w3 own3 gr3; simp only [Nat.zero_add, List.nil_append] at own3; have hk3 : Nw w9 w3 := gr3.nw (show Nw w9 _ from by repeat (first | exact Kp.refl _ _ | refine Kp.alloc ?_ _ | refine Kp.drew ?_)) (fun kk hkk => by simp [Value.ownBlock] at hkk; omega); have sc3 := (src_one (Blk.new_at (w9.drew.alloc (.cells #[] 23)) 23 #[.int .i64 ax, .int .i64 ay] (n := w9.heap.size + 1) (by simp))).kp gr3.by_ (fun g1 _ e1 e2 => by simp [Value.ownBlock] at e1 e2; omega))
                  | (refine step_appV (by rfl) (.tmp 44) (.tmp 47) (by rfl) w9.heap.size 0 q _ (.slice B1 q d1) [] _ (by rfl) (own_lit_at (w9.drew.alloc (.cells #[.int .i64 ax, .int .i64 ay] 23)) (w9.heap.size + 1) (by simp) (by omega)) (by rfl) (HS1.out.nw (show Nw w9 _ from by repeat (first | exact Kp.refl _ _ | refine Kp.alloc ?_ _ | refine Kp.drew ?_))) (take_one _ _) (by omega) (show Nw w9 _ from by repeat (first | exact Kp.refl _ _ | refine Kp.alloc ?_ _ | refine Kp.drew ?_)).size ?_; intro v3 w3 own3 gr3; simp only [Nat.zero_add, List.nil_append] at own3; have hk3 : Nw w9 w3 := gr3.nw (show Nw w9 _ from by repeat (first | exact Kp.refl _ _ | refine Kp.alloc ?_ _ | refine Kp.drew ?_)) (fun kk hkk => by simp [Value.ownBlock] at hkk; omega); have sc3 := (src_one ((Blk.new_at w9.drew 23 #[.int .i64 ax, .int .i64 ay] (n := w9.heap.size) (by simp)).alloc (.cells #[] 23))).kp gr3.by_ (fun g1 _ e1 e2 => by simp [Value.ownBlock] at e1 e2; omega))
                  | (refine step_appV (by rfl) (.tmp 48) (.tmp 53) (by rfl) w9.heap.size q 1 v3 _ _ [.int .i64 ax, .int .i64 ay] (by rfl) own3 (by rfl) sc3 (by intro u hu; simp at hu; rcases hu with rfl | rfl <;> rfl) (by omega) hk3.size ?_; intro v4 w4 own4 gr4; have hk4 : Nw w9 w4 := gr4.nw hk3 (own_from own3))
                  | (refine step_appV (by rfl) (.tmp 48) (.tmp 53) (by rfl) w9.heap.size q 1 v3 _ _ [.int .i64 ax, .int .i64 ay] (by rfl) (own3.alloc _) (by rfl) (src_one (Blk.new _ _ _)) (by intro u hu; simp at hu; rcases hu with rfl | rfl <;> rfl) (by omega) (hk3.alloc _).size ?_; intro v4 w4 own4 gr4; have hk4 : Nw w9 w4 := gr4.nw (hk3.alloc _) (own_from own3))
                  | (refine step_appV (by rfl) (.tmp 54) (.tmp 57) (by rfl) w9.heap.size (q + 1) (m - q) v4 (.slice B3 (m - q) d3) _ _ (by rfl) own4 (by rfl) (HS3.out.nw hk4) (drop_one _ _) (by omega) hk4.size ?_; intro v5 w5 own5 gr5; have hk5 : Nw w9 w5 := gr5.nw hk4 (own_from own4)))
              all_goals (
                have e4 : IntKind.i64.wrap ((k : Int) + 1) = ((k + 1 : Nat) : Int) := by rw [IntKind.wrap_i64]; omega
                have HK5 := Lib.hid hk5
                have HO5 := Lib.hid own5
                clear hk5 own5 own4 gr4 hk4 own3 gr3 hk3 hr1 hr3 gr5
                go_wp2_with fail
                go_roundw
                case rel =>
                  have hsr : SrcV w5 v5 (L.take q ++ (ax, ay) :: L.drop q) := by
                    have h := own_src HO5.out
                    have e1 : (L.flatMap vC).take (q * 2) = (L.take q).flatMap vC := flat_take (f := vC) (fun _ => rfl) L q
                    have e2 : (L.flatMap vC).drop (q * 2) = (L.drop q).flatMap vC := flat_drop (f := vC) (fun _ => rfl) L q
                    rw [e1, e2] at h
                    have e3 : (L.take q).flatMap vC ++ [.int .i64 ax, .int .i64 ay] ++ (L.drop q).flatMap vC = (L.take q ++ (ax, ay) :: L.drop q).flatMap vC := by
                      rw [List.flatMap_append, List.flatMap_cons, List.append_assoc]
                    rw [e3] at h
                    have e4 : (L.take q ++ (ax, ay) :: L.drop q).length = q + 1 + (m - q) := by
                      rw [List.length_append, List.length_cons, List.length_take, List.length_drop, HM.out]
                      omega
                    show Src _ 2 _ _ _
                    rw [e4]
                    exact h
                  refine ⟨k + 1, rfl, by omega, ?_, ?_, (HK.out.tr HW9.out).tr HK5.out⟩
                  · rw [HI.out, List.length_append, List.length_cons, List.length_take, List.length_drop, HM.out]
                    omega
                  · rw [HI.out]
                    exact hsr
                case measure => (simp [intOf]; try omega))
        · obtain rfl : q = m := by omega
          have hp0 : place (ax, ay) L = q := by omega
          have HI := Lib.hid (show insAll (l.take (k + 1)) = L.take q ++ (ax, ay) :: L.drop q by
            rw [ins_take HA.out, HLL.out]
            unfold insU
            rw [hp0, List.getElem?_eq_none (by rw [HM.out]; exact Nat.le_refl _), if_neg (fun e => by cases e)])
          have j1 : ¬ ((q : Int) < (q : Int)) := by omega
          have j2 : decide ((q : Int) < (q : Int)) = false := by simp
          have hqm2 : q ≤ q := Nat.le_refl q
          clear hp0 hq hpl hqm
          go_wp2_with fail
          (refine wp_region_kept (w0 := wr) (by repeat (first | exact Kp.refl _ _ | refine Kp.drew ?_)) mixed7 (by kernel_rfl) ?_)
          repeat (with_reducible refine wpQuiet_step (fun K hK => ?_); go_simp; first | ((with_reducible refine hK _ ?_); clear hK K))
          with_reducible refine wpQuiet_nil ?_
          rintro _ ⟨p, rfl⟩
          go_wp2_with fail
          (refine wp_region_kept (w0 := wr) (by repeat (first | exact Kp.refl _ _ | exact p.since | refine Kp.drew ?_)) mixed7 (by kernel_rfl) ?_)
          repeat (with_reducible refine wpQuiet_step (fun K hK => ?_); go_simp; first | ((with_reducible refine hK _ ?_); clear hK K))
          with_reducible refine wpQuiet_nil ?_
          rintro _ ⟨p, rfl⟩
          go_wp2_with fail
          have HW9' := Lib.hid (HX.out.tr p.since)
          obtain ⟨w9, hw9⟩ : ∃ w9, p.wd = w9 := ⟨_, rfl⟩
          rw [hw9] at HW9'
          rw [hw9]
          have HW9 := HW9'
          clear hw9 HW9' j2
          obtain ⟨B1, d1, hr1, hs1, _⟩ := (show Src w9 2 (.slice B q d) q (L.flatMap vC) from by have h := HS.out.nw HW9.out; rw [HM.out] at h; exact h).cuth elemVec Try.underlying36 infoVec q hqm2
          obtain ⟨B3, d3, hr3, hs3, _⟩ := (show Src w9 2 (.slice B q d) q (L.flatMap vC) from by have h := HS.out.nw HW9.out; rw [HM.out] at h; exact h).cutl elemVec Try.underlying36 infoVec q hqm2
          rw [Nat.sub_self] at hr3 hs3
          have HS1 := Lib.hid hs1
          have HS3 := Lib.hid hs3
          have HP9 := Lib.hid (show ∀ w', Nw w9 w' → w'.cell? (⟨g, o + k * 2, none⟩ : Addr) = some (.int .i64 ax) ∧ w'.cell? (⟨g, o + k * 2 + 1, none⟩ : Addr) = some (.int .i64 ay) from fun w' h => by
            obtain ⟨g', o', hg', z1, z2⟩ := HP.out w' (HW9.out.tr h)
            injection hg' with hg'
            injection hg' with hg1 hg2
            subst hg1 hg2
            exact ⟨z1, z2⟩)
          clear hs1 hs3
          go_wp2_with fail
          go_region_held3 (fun w' : World => w'.cell? (⟨g, o + k * 2, none⟩ : Addr) = some (.int .i64 ax) ∧ w'.cell? (⟨g, o + k * 2 + 1, none⟩ : Addr) = some (.int .i64 ay))
            (first | exact HP9.out _ (Kp.refl _ _) | exact HP9.out _ (Kp.drew (Kp.refl _ _)) | exact HP9.out _ (Kp.alloc (Kp.drew (Kp.refl _ _)) _) | exact HP9.out _ (Kp.alloc (Kp.alloc (Kp.drew (Kp.refl _ _)) _) _) | exact HP9.out _ hk5 | exact HP9.out _ hk4 | exact HP9.out _ hk3 | exact HP9.out _ (Kp.alloc hk3 _) | fail)
            (first
              | (refine step_appV (by rfl) (.tmp 44) (.tmp 47) (by rfl) w9.heap.size 0 q _ (.slice B1 q d1) [] _ (by rfl) (own_lit_at w9.drew w9.heap.size (by simp) (by omega)) (by rfl) (HS1.out.nw (show Nw w9 _ from by repeat (first | exact Kp.refl _ _ | refine Kp.alloc ?_ _ | refine Kp.drew ?_))) (take_one _ _) (by omega) (show Nw w9 _ from by repeat (first | exact Kp.refl _ _ | refine Kp.alloc ?_ _ | refine Kp.drew ?_)).size ?_; intro v3 w3 own3 gr3; simp only [Nat.zero_add, List.nil_append] at own3; have hk3 : Nw w9 w3 := gr3.nw (show Nw w9 _ from by repeat (first | exact Kp.refl _ _ | refine Kp.alloc ?_ _ | refine Kp.drew ?_)) (fun kk hkk => by simp [Value.ownBlock] at hkk; omega))
              | (refine step_appV (by rfl) (.tmp 44) (.tmp 47) (by rfl) w9.heap.size 0 q _ (.slice B1 q d1) [] _ (by rfl) ((own_lit_at w9.drew w9.heap.size (by simp) (by omega)).alloc (.cells #[.int .i64 ax, .int .i64 ay] 23)) (by rfl) (HS1.out.nw (show Nw w9 _ from by repeat (first | exact Kp.refl _ _ | refine Kp.alloc ?_ _ | refine Kp.drew ?_))) (take_one _ _) (by omega) (show Nw w9 _ from by repeat (first | exact Kp.refl _ _ | refine Kp.alloc ?_ _ | refine Kp.drew ?_)).size ?_; intro v3 w3 own3 gr3; simp only [Nat.zero_add, List.nil_append] at own3; have hk3 : Nw w9 w3 := gr3.nw (show Nw w9 _ from by repeat (first | exact Kp.refl _ _ | refine Kp.alloc ?_ _ | refine Kp.drew ?_)) (fun kk hkk => by simp [Value.ownBlock] at hkk; omega); have sc3 := (src_one (Blk.new_at (w9.drew.alloc (.cells #[] 23)) 23 #[.int .i64 ax, .int .i64 ay] (n := w9.heap.size + 1) (by simp))).kp gr3.by_ (fun g1 _ e1 e2 => by simp [Value.ownBlock] at e1 e2; omega))
              | (refine step_appV (by rfl) (.tmp 44) (.tmp 47) (by rfl) w9.heap.size 0 q _ (.slice B1 q d1) [] _ (by rfl) (own_lit_at (w9.drew.alloc (.cells #[.int .i64 ax, .int .i64 ay] 23)) (w9.heap.size + 1) (by simp) (by omega)) (by rfl) (HS1.out.nw (show Nw w9 _ from by repeat (first | exact Kp.refl _ _ | refine Kp.alloc ?_ _ | refine Kp.drew ?_))) (take_one _ _) (by omega) (show Nw w9 _ from by repeat (first | exact Kp.refl _ _ | refine Kp.alloc ?_ _ | refine Kp.drew ?_)).size ?_; intro v3 w3 own3 gr3; simp only [Nat.zero_add, List.nil_append] at own3; have hk3 : Nw w9 w3 := gr3.nw (show Nw w9 _ from by repeat (first | exact Kp.refl _ _ | refine Kp.alloc ?_ _ | refine Kp.drew ?_)) (fun kk hkk => by simp [Value.ownBlock] at hkk; omega); have sc3 := (src_one ((Blk.new_at w9.drew 23 #[.int .i64 ax, .int .i64 ay] (n := w9.heap.size) (by simp)).alloc (.cells #[] 23))).kp gr3.by_ (fun g1 _ e1 e2 => by simp [Value.ownBlock] at e1 e2; omega))
              | (refine step_appV (by rfl) (.tmp 48) (.tmp 53) (by rfl) w9.heap.size q 1 v3 _ _ [.int .i64 ax, .int .i64 ay] (by rfl) own3 (by rfl) sc3 (by intro u hu; simp at hu; rcases hu with rfl | rfl <;> rfl) (by omega) hk3.size ?_; intro v4 w4 own4 gr4; have hk4 : Nw w9 w4 := gr4.nw hk3 (own_from own3))
              | (refine step_appV (by rfl) (.tmp 48) (.tmp 53) (by rfl) w9.heap.size q 1 v3 _ _ [.int .i64 ax, .int .i64 ay] (by rfl) (own3.alloc _) (by rfl) (src_one (Blk.new _ _ _)) (by intro u hu; simp at hu; rcases hu with rfl | rfl <;> rfl) (by omega) (hk3.alloc _).size ?_; intro v4 w4 own4 gr4; have hk4 : Nw w9 w4 := gr4.nw (hk3.alloc _) (own_from own3))
              | (refine step_appV (by rfl) (.tmp 54) (.tmp 57) (by rfl) w9.heap.size (q + 1) 0 v4 (.slice B3 0 d3) _ _ (by rfl) own4 (by rfl) (HS3.out.nw hk4) (drop_one _ _) (by omega) hk4.size ?_; intro v5 w5 own5 gr5; have hk5 : Nw w9 w5 := gr5.nw hk4 (own_from own4)))
          all_goals (
            have e4 : IntKind.i64.wrap ((k : Int) + 1) = ((k + 1 : Nat) : Int) := by rw [IntKind.wrap_i64]; omega
            have HK5 := Lib.hid hk5
            have HO5 := Lib.hid own5
            clear hk5 own5 own4 gr4 hk4 own3 gr3 hk3 hr1 hr3 gr5
            go_wp2_with fail
            go_roundw
            case rel =>
              have hsr : SrcV w5 v5 (L.take q ++ (ax, ay) :: L.drop q) := by
                have h := own_src HO5.out
                have e1 : (L.flatMap vC).take (q * 2) = (L.take q).flatMap vC := flat_take (f := vC) (fun _ => rfl) L q
                have e2 : (L.flatMap vC).drop (q * 2) = (L.drop q).flatMap vC := flat_drop (f := vC) (fun _ => rfl) L q
                rw [e1, e2] at h
                have e3 : (L.take q).flatMap vC ++ [.int .i64 ax, .int .i64 ay] ++ (L.drop q).flatMap vC = (L.take q ++ (ax, ay) :: L.drop q).flatMap vC := by
                  rw [List.flatMap_append, List.flatMap_cons, List.append_assoc]
                rw [e3] at h
                have e4 : (L.take q ++ (ax, ay) :: L.drop q).length = q + 1 + 0 := by
                  rw [List.length_append, List.length_cons, List.length_take, List.length_drop, HM.out]
                  omega
                show Src _ 2 _ _ _
                rw [e4]
                exact h
              refine ⟨k + 1, rfl, by omega, ?_, ?_, (HK.out.tr HW9.out).tr HK5.out⟩
              · rw [HI.out, List.length_append, List.length_cons, List.length_take, List.length_drop, HM.out]
                omega
              · rw [HI.out]
                exact hsr
            case measure => (simp [intOf]; try omega))
    · obtain rfl : k = n := by omega
      have i5 : ¬ ((k : Int) < (k : Int)) := by omega
      go_wp2_with fail
      go_ret
      refine ⟨_, rfl, ?_, HK.out⟩
      have h := HLL.out
      rw [List.take_of_length_le (by rw [HN.out]; exact Nat.le_refl _)] at h
      rw [h, ← HM.out]
      exact HS.out
end Go.Proofs.Ytahamffngmdjfaa.W

namespace Go.Proofs.Ytahamffngmdjfaa.W
open Go.RowKit Go.Proofs.Ytahamffngmdjfaa.V Go.Proofs.Ytahamffngmdjfaa.G

theorem end_lm {ax ay bx bz cx cy dx dy : Int} (h1 : validS ax ay bx bz = true) (h2 : validS cx cy dx dy = true) {z : Int × Int} (hz : z ∈ endsL ax ay bx bz cx cy dx dy) : Lm z.1 z.2 := by
  obtain ⟨ha, hb⟩ := valid_lm h1
  obtain ⟨hc, hd⟩ := valid_lm h2
  have : z = (ax, ay) ∨ z = (bx, bz) ∨ z = (cx, cy) ∨ z = (dx, dy) := by simpa [endsL] using hz
  rcases this with rfl | rfl | rfl | rfl <;> assumption
theorem on_con {ax ay bx bz px py : Int} (h : validS ax ay bx bz = true) (hp : Lm px py) : onS ax ay bx bz px py = conS ax ay bx bz px py := by
  unfold onS
  rw [h, within_lm.2 hp]
  rfl
set_option maxRecDepth 100000 in
set_option maxHeartbeats 6400000 in
theorem rcommon_any (ax ay bx bz cx cy dx dy : Int) (h1 : validS ax ay bx bz = true) (h2 : validS cx cy dx dy = true) (w : World) : Calls Try.prog 103 #[sV ax ay bx bz, sV cx cy dx dy] w fun e w' => ∃ v', e = .returned v' ∧ SrcV w' v' (comS ax ay bx bz cx cy dx dy) ∧ Nw w w' := by
  have hmix := mixed7
  have hF : ∀ w', Nw (((w.alloc (.cells #[.int .i64 ax, .int .i64 ay, .int .i64 bx, .int .i64 bz] 48)).alloc (.cells #[.int .i64 cx, .int .i64 cy, .int .i64 dx, .int .i64 dy] 48)).alloc (.cells #[.int .i64 ax, .int .i64 ay, .int .i64 bx, .int .i64 bz, .int .i64 cx, .int .i64 cy, .int .i64 dx, .int .i64 dy] 23)) w' → Blk w' w.heap.size 48 #[.int .i64 ax, .int .i64 ay, .int .i64 bx, .int .i64 bz] ∧ Blk w' (w.heap.size + 1) 48 #[.int .i64 cx, .int .i64 cy, .int .i64 dx, .int .i64 dy] ∧ Blk w' (w.heap.size + 1 + 1) 23 #[.int .i64 ax, .int .i64 ay, .int .i64 bx, .int .i64 bz, .int .i64 cx, .int .i64 cy, .int .i64 dx, .int .i64 dy] := fun w' h => ⟨(((Blk.new_at w 48 #[.int .i64 ax, .int .i64 ay, .int .i64 bx, .int .i64 bz] (n := w.heap.size) rfl).alloc _).alloc _).kp h id, ((Blk.new_at _ 48 #[.int .i64 cx, .int .i64 cy, .int .i64 dx, .int .i64 dy] (n := w.heap.size + 1) (by simp)).alloc _).kp h id, (Blk.new_at _ 23 #[.int .i64 ax, .int .i64 ay, .int .i64 bx, .int .i64 bz, .int .i64 cx, .int .i64 cy, .int .i64 dx, .int .i64 dy] (n := w.heap.size + 1 + 1) (by simp)).kp h id⟩
  have HF := Lib.hid hF
  have HW := Lib.hid (show Nw w (((w.alloc (.cells #[.int .i64 ax, .int .i64 ay, .int .i64 bx, .int .i64 bz] 48)).alloc (.cells #[.int .i64 cx, .int .i64 cy, .int .i64 dx, .int .i64 dy] 48)).alloc (.cells #[.int .i64 ax, .int .i64 ay, .int .i64 bx, .int .i64 bz, .int .i64 cx, .int .i64 cy, .int .i64 dx, .int .i64 dy] 23)) from ((nw_alloc _ _).alloc _).alloc _)
  have HV := Lib.hid (And.intro h1 h2)
  have HSZ := Lib.hid (show (((w.alloc (.cells #[.int .i64 ax, .int .i64 ay, .int .i64 bx, .int .i64 bz] 48)).alloc (.cells #[.int .i64 cx, .int .i64 cy, .int .i64 dx, .int .i64 dy] 48)).alloc (.cells #[.int .i64 ax, .int .i64 ay, .int .i64 bx, .int .i64 bz, .int .i64 cx, .int .i64 cy, .int .i64 dx, .int .i64 dy] 23)).heap.size = w.heap.size + 1 + 1 + 1 by simp)
  clear hF h1 h2
  go_enter Try.func103, Try.ntmps103
  go_wp2_with fail
  go_loopw [6, 7] (fun ov i wr => ∃ k : Nat, i = .int .i64 k ∧ k ≤ 4 ∧ wr.ownsRow (w.heap.size + 1 + 1 + 1) 23 2 ov (((endsL ax ay bx bz cx cy dx dy).take k).filter (bothS ax ay bx bz cx cy dx dy)).length ((((endsL ax ay bx bz cx cy dx dy).take k).filter (bothS ax ay bx bz cx cy dx dy)).flatMap vC) ∧ (((endsL ax ay bx bz cx cy dx dy).take k).filter (bothS ax ay bx bz cx cy dx dy)).length ≤ k ∧ Nw (((w.alloc (.cells #[.int .i64 ax, .int .i64 ay, .int .i64 bx, .int .i64 bz] 48)).alloc (.cells #[.int .i64 cx, .int .i64 cy, .int .i64 dx, .int .i64 dy] 48)).alloc (.cells #[.int .i64 ax, .int .i64 ay, .int .i64 bx, .int .i64 bz, .int .i64 cx, .int .i64 cy, .int .i64 dx, .int .i64 dy] 23)) wr) (fun _ i _ => 4 - (intOf i).toNat)
  case atStart => exact ⟨0, rfl, by omega, World.ownsRow_nil _ _ _ _, by simp, Kp.refl _ _⟩
  case round =>
    obtain ⟨k, rfl, hk, hown, hlen, hnr⟩ := hrel
    obtain ⟨A6, c6, rfl⟩ := (own_src hown).shape
    have HO := Lib.hid hown
    have HL := Lib.hid hlen
    have HN := Lib.hid hnr
    clear hown hlen hnr
    obtain ⟨FL, hFL⟩ : ∃ FL, ((endsL ax ay bx bz cx cy dx dy).take k).filter (bothS ax ay bx bz cx cy dx dy) = FL := ⟨_, rfl⟩
    have HFL := Lib.hid hFL
    rw [hFL] at HO HL ⊢
    clear hFL
    by_cases hk4 : k < 4
    · obtain ⟨⟨ex, ey⟩, he⟩ : ∃ z, (endsL ax ay bx bz cx cy dx dy)[k]? = some z := ⟨(endsL ax ay bx bz cx cy dx dy)[k]'(by simpa [endsL] using hk4), List.getElem?_eq_getElem _⟩
      have i0 : (0 : Int) ≤ (k : Int) := by omega
      have i1 : (k : Int) < 4 := by omega
      have e4 : IntKind.i64.wrap ((k : Int) + 1) = ((k + 1 : Nat) : Int) := by rw [IntKind.wrap_i64]; omega
      have hc : ∀ p : KeptW wr, p.wd.cell? ⟨w.heap.size + 1 + 1, k * 2, none⟩ = some (.int .i64 ex) ∧ p.wd.cell? ⟨w.heap.size + 1 + 1, k * 2 + 1, none⟩ = some (.int .i64 ey) := fun p => by
        have hb := (HF.out _ (HN.out.tr p.since)).2.2
        obtain rfl | rfl | rfl | rfl : k = 0 ∨ k = 1 ∨ k = 2 ∨ k = 3 := by omega
        all_goals (simp [endsL] at he; obtain ⟨rfl, rfl⟩ := he)
        · exact ⟨hb.cell 0, hb.cell 1⟩
        · exact ⟨hb.cell 2, hb.cell 3⟩
        · exact ⟨hb.cell 4, hb.cell 5⟩
        · exact ⟨hb.cell 6, hb.cell 7⟩
      have q0 := fun p : KeptW wr => (HF.out p.wd (HN.out.tr p.since)).1.cell 0
      have q1 := fun p : KeptW wr => (HF.out p.wd (HN.out.tr p.since)).1.cell 1
      have q2 := fun p : KeptW wr => (HF.out p.wd (HN.out.tr p.since)).1.cell 2
      have q3 := fun p : KeptW wr => (HF.out p.wd (HN.out.tr p.since)).1.cell 3
      have q4 := fun p : KeptW wr => (HF.out p.wd (HN.out.tr p.since)).2.1.cell 0
      have q5 := fun p : KeptW wr => (HF.out p.wd (HN.out.tr p.since)).2.1.cell 1
      have q6 := fun p : KeptW wr => (HF.out p.wd (HN.out.tr p.since)).2.1.cell 2
      have q7 := fun p : KeptW wr => (HF.out p.wd (HN.out.tr p.since)).2.1.cell 3
      have q8 := fun p => (hc p).1
      have q9 := fun p => (hc p).2
      have hel : Lm ex ey := end_lm HV.out.1 HV.out.2 (List.mem_of_getElem? he)
      have cu := fun w1 => ron_any ax ay bx bz ex ey w1
      have cv := fun w1 => ron_any cx cy dx dy ex ey w1
      rw [on_con HV.out.1 hel] at cu
      rw [on_con HV.out.2 hel] at cv
      have hst : ((endsL ax ay bx bz cx cy dx dy).take (k + 1)).filter (bothS ax ay bx bz cx cy dx dy) = if (conS ax ay bx bz ex ey && conS cx cy dx dy ex ey) then FL ++ [(ex, ey)] else FL := by
        rw [List.take_add_one, he, Option.toList_some, List.filter_append, HFL.out, List.filter_cons, List.filter_nil]
        show FL ++ (if (conS ax ay bx bz ex ey && conS cx cy dx dy ex ey) = true then [(ex, ey)] else []) = _
        split <;> simp
      have HST := Lib.hid hst
      clear hst hel he hc
      generalize conS ax ay bx bz ex ey = u at *
      generalize conS cx cy dx dy ex ey = v at *
      go_upto_region 6 with fail
      cases u
      · skip
        refine wp_region_kept (Kp.refl _ _) (by assumption) (by kernel_rfl) ?_
        repeat (with_reducible refine wpQuiet_step (fun K hK => ?_); go_simp; first | ((with_reducible refine hK _ ?_); clear hK K) | (with_reducible apply Exists.intro; (with_reducible refine ⟨fun _ => ?_, hK _ ?_⟩); ((first | (go_at_call 63; with_reducible exact Calls.kept_of (cu _)) | (go_at_call 63; with_reducible exact Calls.kept_of (cv _)) | fail)); clear hK K) | (simp only [undef, reduceCtorEq, if_false]; (with_reducible refine hK _ ?_); clear hK K))
        with_reducible refine wpQuiet_nil ?_
        rintro _ ⟨p, rfl⟩
        go_wp2_with fail
        go_roundw
        case rel => exact ⟨k + 1, rfl, by omega, by rw [HST.out]; exact own_nw HO.out p.since, by rw [HST.out]; have := HL.out; exact Nat.le_succ_of_le this, HN.out.tr p.since⟩
        case measure => (simp [intOf]; try omega)
      · cases v
        · skip
          refine wp_region_kept (Kp.refl _ _) (by assumption) (by kernel_rfl) ?_
          repeat (with_reducible refine wpQuiet_step (fun K hK => ?_); go_simp; first | ((with_reducible refine hK _ ?_); clear hK K) | (with_reducible apply Exists.intro; (with_reducible refine ⟨fun _ => ?_, hK _ ?_⟩); ((first | (go_at_call 63; with_reducible exact Calls.kept_of (cu _)) | (go_at_call 63; with_reducible exact Calls.kept_of (cv _)) | fail)); clear hK K) | (simp only [undef, reduceCtorEq, if_false]; (with_reducible refine hK _ ?_); clear hK K))
          with_reducible refine wpQuiet_nil ?_
          rintro _ ⟨p, rfl⟩
          go_wp2_with fail
          go_roundw
          case rel => exact ⟨k + 1, rfl, by omega, by rw [HST.out]; exact own_nw HO.out p.since, by rw [HST.out]; have := HL.out; exact Nat.le_succ_of_le this, HN.out.tr p.since⟩
          case measure => (simp [intOf]; try omega)
        · skip
          refine wp_region_kept (Kp.refl _ _) (by assumption) (by kernel_rfl) ?_
          repeat (with_reducible refine wpQuiet_step (fun K hK => ?_); go_simp; first | ((with_reducible refine hK _ ?_); clear hK K) | (with_reducible apply Exists.intro; (with_reducible refine ⟨fun _ => ?_, hK _ ?_⟩); ((first | (go_at_call 63; with_reducible exact Calls.kept_of (cu _)) | (go_at_call 63; with_reducible exact Calls.kept_of (cv _)) | fail)); clear hK K) | (simp only [undef, reduceCtorEq, if_false]; (with_reducible refine hK _ ?_); clear hK K))
          with_reducible refine wpQuiet_nil ?_
          rintro _ ⟨p, rfl⟩
          have HP := Lib.hid p.since
          have z8 := q8 p
          have z9 := q9 p
          generalize p.wd = wp at HP z8 z9 ⊢
          have hlen := HL.out
          have HB := Lib.hid (show w.heap.size + 1 + 1 + 1 ≤ wp.heap.size by have := HN.out.size; have := HP.out.size; have := HSZ.out; omega)
          clear q0 q1 q2 q3 q4 q5 q6 q7 q8 q9
          go_wp2_with (first
            | (at_builtin; refine wp_pushG rfl (.tmp 35) (.tmp 40) 36 23 2 16 (.agg #[.int .i64 0, .int .i64 0]) rfl Try.underlying36 infoVec rfl (by omega) (w.heap.size + 1 + 1 + 1) FL.length _ (FL.flatMap vC) [.int .i64 ex, .int .i64 ey] rfl (own_nw HO.out HP.out) rfl ?_ rfl ?_ ?_ HB.out ?_; (intro u hu; simp at hu; rcases hu with rfl | rfl <;> rfl); omega; omega; intro v5 w5 own5 gr5))
          have HN5 := Lib.hid (gr5.nw (HN.out.tr HP.out) (fun kk hkk => by have := own_from (own_nw HO.out HP.out) kk hkk; have := HSZ.out; omega))
          have HO5 := Lib.hid own5
          clear own5 gr5
          go_wp2_with fail
          go_roundw
          case rel =>
            refine ⟨k + 1, rfl, by omega, ?_, ?_, by first | exact HN5.out | exact HN5.out.alloc _⟩
            · rw [HST.out]
              have h := HO5.out
              show World.ownsRow _ _ _ _ _ (FL ++ [(ex, ey)]).length ((FL ++ [(ex, ey)]).flatMap vC)
              rw [List.length_append, List.flatMap_append]
              first | exact h | exact own_nw h (nw_alloc _ _)
            · rw [HST.out]
              show (FL ++ [(ex, ey)]).length ≤ _
              rw [List.length_append]
              exact Nat.succ_le_succ HL.out
          case measure => (simp [intOf]; try omega)
    · obtain rfl : k = 4 := by omega
      have i1 : ¬ (((4 : Nat) : Int) < 4) := by omega
      have hsrc : SrcV wr (.slice A6 FL.length c6) FL := own_src HO.out
      have cs := fun w1 h => rsorted_any FL (.slice A6 FL.length c6) w1 h (by have := HL.out; omega)
      have hcom : insAll FL = comS ax ay bx bz cx cy dx dy := by rw [← HFL.out]; rfl
      rw [hcom] at cs
      clear hcom
      go_wp2_with fail
      refine (cs _ hsrc).mono ?_
      rintro e w5 ⟨v5, rfl, hs5, hk5⟩
      go_wp2_with fail
      go_ret
      exact ⟨_, rfl, hs5, (HW.out.tr HN.out).tr hk5⟩
end Go.Proofs.Ytahamffngmdjfaa.W
