/-
  ring: the reference's extra. Condition: the list is not longer than 2^40.
-/
import Derived.Test.YtlogihcmmoldkaaK28
namespace Go.Proofs.Ytlogihcmmoldkaa.W
open Go.RowKit Go.Proofs.Ytlogihcmmoldkaa.V Go.Proofs.Ytlogihcmmoldkaa.G


set_option maxRecDepth 100000 in
set_option maxHeartbeats 6400000 in
theorem extra_any (l : List (Int × Int)) (v : Value) (w : World) (hv : SrcV w v l) (hl : l.length ≤ 1099511627776) : Calls Try.prog 52 #[v] w fun e w' => e = .returned (.int .i64 (if need l < l.length then (need l : Int) else -1)) ∧ Nw w w' := by
  obtain ⟨r, hr⟩ : ∃ r : Int, (if need l < l.length then (need l : Int) else -1) = r := ⟨_, rfl⟩
  rw [hr]
  have HR := Lib.hid hr
  clear hr
  obtain ⟨A, c, rfl⟩ := hv.shape
  obtain ⟨n, hn⟩ : ∃ n, l.length = n := ⟨_, rfl⟩
  replace hv := src_n hv hn
  rw [hn] at hl ⊢
  have HV := Lib.hid hv
  have HN := Lib.hid hn
  have hmx := src_max hv
  clear hv hn
  have hmix := mixed7
  go_enter Try.func52, Try.ntmps52
  go_wp2_with fail
  go_loopw [4] (fun i wr => ∃ k : Nat, i = .int .i64 k ∧ k ≤ n ∧ (∀ j, j < k → spare l j = false) ∧ Nw w wr) (fun i _ => n - (intOf i).toNat)
  case atStart => exact ⟨0, rfl, Nat.zero_le _, fun j h => absurd h (Nat.not_lt_zero _), (by repeat (first | exact Kp.refl _ _ | refine Kp.alloc ?_ _ | refine Kp.drew ?_))⟩
  case round =>
    obtain ⟨k, rfl, hk, hall, hnw⟩ := hrel
    have HA := Lib.hid hall
    clear hall
    have HK := Lib.hid hnw
    clear hnw
    by_cases hkn : k < n
    · have i0 : (0 : Int) ≤ (k : Int) := by omega
      have i1 : (k : Int) < (n : Int) := by omega
      obtain ⟨s4, hs4⟩ : ∃ s : Nat, k + 1 = s := ⟨_, rfl⟩
      have a4 : IntKind.i64.wrap ((k : Int) + 1) = (s4 : Int) := by rw [IntKind.wrap_i64]; omega
      have H4 := Lib.hid hs4
      have hn0 : 0 < n := by omega
      obtain ⟨s5, hs5⟩ : ∃ s : Nat, (k + 1) % n = s := ⟨_, rfl⟩
      have l5 : s5 < n := by rw [← hs5]; exact Nat.mod_lt _ hn0
      have a5 : (s4 : Int).tmod (n : Int) = (s5 : Int) := by rw [tmod_nat, ← hs4, hs5]
      have z0 : ¬ (n = 0) := by omega
      have b4 : (0 : Int) ≤ (s5 : Int) := by omega
      have b5 : (s5 : Int) < (n : Int) := by omega
      obtain ⟨g, o, rfl, hg, hc⟩ := src_at HV.out (by omega)
      obtain ⟨⟨ax, ay⟩, ha⟩ : ∃ p, at_ l k = p := ⟨_, rfl⟩
      obtain ⟨⟨bx, bz⟩, hb⟩ : ∃ p, at_ l s5 = p := ⟨_, rfl⟩
      obtain ⟨s1, hs1⟩ : ∃ s : Nat, k + n = s := ⟨_, rfl⟩
      obtain ⟨s2, hs2⟩ : ∃ s : Nat, k + n - 1 = s := ⟨_, rfl⟩
      obtain ⟨s3, hs3⟩ : ∃ s : Nat, (k + n - 1) % n = s := ⟨_, rfl⟩
      have l3 : s3 < n := by rw [← hs3]; exact Nat.mod_lt _ hn0
      have a1 : IntKind.i64.wrap ((k : Int) + (n : Int)) = (s1 : Int) := by rw [IntKind.wrap_i64]; omega
      have a2 : IntKind.i64.wrap ((s1 : Int) - 1) = (s2 : Int) := by rw [IntKind.wrap_i64]; omega
      have a3 : (s2 : Int).tmod (n : Int) = (s3 : Int) := by rw [tmod_nat, ← hs2, hs3]
      have b2 : (0 : Int) ≤ (s3 : Int) := by omega
      have b3 : (s3 : Int) < (n : Int) := by omega
      obtain ⟨⟨cx, cy⟩, hcc⟩ : ∃ p, at_ l s3 = p := ⟨_, rfl⟩
      have hS : spare l k = ((ax == bx && ay == bz) || (turnV cx cy ax ay bx bz == 0)) := by
        unfold spare turnI
        rw [HN.out, hs5, hs3, ha, hb, hcc]
        rfl
      have HS := Lib.hid hS
      have hq := fun w1 => eql_vecg ax ay bx bz w1
      have ct := fun w1 => rturn_any cx cy ax ay bx bz w1
      obtain ⟨t, ht⟩ : ∃ t, turnV cx cy ax ay bx bz = t := ⟨_, rfl⟩
      rw [ht] at ct HS
      obtain ⟨q, hqq⟩ : ∃ q, (ax == bx && ay == bz) = q := ⟨_, rfl⟩
      rw [hqq] at hq HS
      obtain ⟨z, hz⟩ : ∃ z, (t == 0) = z := ⟨_, rfl⟩
      rw [hz] at HS
      have q0 := fun p : KeptW wr => (hc p.wd (HK.out.tr p.since) k hkn).1
      have q1 := fun p : KeptW wr => (hc p.wd (HK.out.tr p.since) k hkn).2
      have q2 := fun p : KeptW wr => (hc p.wd (HK.out.tr p.since) s5 l5).1
      have q3 := fun p : KeptW wr => (hc p.wd (HK.out.tr p.since) s5 l5).2
      have q4 := fun p : KeptW wr => (hc p.wd (HK.out.tr p.since) s3 l3).1
      have q5 := fun p : KeptW wr => (hc p.wd (HK.out.tr p.since) s3 l3).2
      rw [ha] at q0 q1
      rw [hb] at q2 q3
      rw [hcc] at q4 q5
      have HKN := Lib.hid hkn
      clear hc hg hs5 hs4 l5 ha hb hS hqq ht hs1 hs2 hs3 l3 hcc
      go_upto_region 5 with fail
      cases q
      · cases z
        · skip
          refine wp_region_kept (Kp.refl _ _) (by assumption) (by kernel_rfl) ?_
          repeat (with_reducible refine wpQuiet_step (fun K hK => ?_); go_simp; first | ((with_reducible refine hK _ ?_); clear hK K) | (with_reducible apply Exists.intro; (with_reducible refine ⟨fun _ => ?_, hK _ ?_⟩); ((first | (go_at_call 70; with_reducible exact Calls.kept_of (ct _)) | fail)); clear hK K) | (simp only [undef, reduceCtorEq, if_false]; (with_reducible refine hK _ ?_); clear hK K))
          with_reducible refine wpQuiet_nil ?_
          rintro _ ⟨p, rfl⟩
          go_wp2_with fail
          go_roundw
          case rel =>
            refine ⟨k + 1, by rw [← H4.out], by omega, fun j hj => ?_, HK.out.tr p.since⟩
            rcases Nat.lt_or_ge j k with h | h
            · exact HA.out j h
            · obtain rfl : j = k := by omega
              exact HS.out
          case measure => (have := H4.out; simp [intOf]; try omega)
        · skip
          refine wp_region_kept (Kp.refl _ _) (by assumption) (by kernel_rfl) ?_
          repeat (with_reducible refine wpQuiet_step (fun K hK => ?_); go_simp; first | ((with_reducible refine hK _ ?_); clear hK K) | (with_reducible apply Exists.intro; (with_reducible refine ⟨fun _ => ?_, hK _ ?_⟩); ((first | (go_at_call 70; with_reducible exact Calls.kept_of (ct _)) | fail)); clear hK K) | (simp only [undef, reduceCtorEq, if_false]; (with_reducible refine hK _ ?_); clear hK K))
          with_reducible refine wpQuiet_nil ?_
          rintro _ ⟨p, rfl⟩
          go_wp2_with fail
          go_ret
          refine ⟨?_, HK.out.tr p.since⟩
          show Ending.returned (.int .i64 k) = Ending.returned (.int .i64 r)
          rw [← HR.out, need_of (l := l) (k := k) (by rw [HN.out]; omega) HA.out fun _ => HS.out, if_pos (by rw [HN.out]; exact HKN.out)]
      · cases z
        · skip
          refine wp_region_kept (Kp.refl _ _) (by assumption) (by kernel_rfl) ?_
          repeat (with_reducible refine wpQuiet_step (fun K hK => ?_); go_simp; first | ((with_reducible refine hK _ ?_); clear hK K) | (with_reducible apply Exists.intro; (with_reducible refine ⟨fun _ => ?_, hK _ ?_⟩); ((first | (go_at_call 70; with_reducible exact Calls.kept_of (ct _)) | fail)); clear hK K) | (simp only [undef, reduceCtorEq, if_false]; (with_reducible refine hK _ ?_); clear hK K))
          with_reducible refine wpQuiet_nil ?_
          rintro _ ⟨p, rfl⟩
          go_wp2_with fail
          go_ret
          refine ⟨?_, HK.out.tr p.since⟩
          show Ending.returned (.int .i64 k) = Ending.returned (.int .i64 r)
          rw [← HR.out, need_of (l := l) (k := k) (by rw [HN.out]; omega) HA.out fun _ => HS.out, if_pos (by rw [HN.out]; exact HKN.out)]
        · skip
          refine wp_region_kept (Kp.refl _ _) (by assumption) (by kernel_rfl) ?_
          repeat (with_reducible refine wpQuiet_step (fun K hK => ?_); go_simp; first | ((with_reducible refine hK _ ?_); clear hK K) | (with_reducible apply Exists.intro; (with_reducible refine ⟨fun _ => ?_, hK _ ?_⟩); ((first | (go_at_call 70; with_reducible exact Calls.kept_of (ct _)) | fail)); clear hK K) | (simp only [undef, reduceCtorEq, if_false]; (with_reducible refine hK _ ?_); clear hK K))
          with_reducible refine wpQuiet_nil ?_
          rintro _ ⟨p, rfl⟩
          go_wp2_with fail
          go_ret
          refine ⟨?_, HK.out.tr p.since⟩
          show Ending.returned (.int .i64 k) = Ending.returned (.int .i64 r)
          rw [← HR.out, need_of (l := l) (k := k) (by rw [HN.out]; omega) HA.out fun _ => HS.out, if_pos (by rw [HN.out]; exact HKN.out)]
    · obtain rfl : k = n := by omega
      have i5 : ¬ ((k : Int) < (k : Int)) := by omega
      go_wp2_with fail
      go_ret
      refine ⟨?_, HK.out⟩
      show Ending.returned (.int .i64 (-1)) = Ending.returned (.int .i64 r)
      rw [← HR.out, need_of (l := l) (k := k) (by rw [HN.out]; omega) HA.out fun h => absurd h (by rw [HN.out]; omega), if_neg (by rw [HN.out]; omega)]

end Go.Proofs.Ytlogihcmmoldkaa.W
