/-
  ring: slices.MinFunc at rings by vec.Compare: the least point. Conditions: the list has a point, and is not longer than 2^40.
  ring: turnAt, turnsEverywhere, doubledArea. Condition: the list is not longer than 2^40.
  ring: turnsEverywhere, needless; the reference's Signed and extra. Condition: the list is not longer than 2^40.
-/
import Derived.Test.YtlogihcmmoldkaaK27
import Derived.Test.YtlogihcmmoldkaaK09
import Derived.Test.YtlogihcmmoldkaaK19
namespace Go.Proofs.Ytlogihcmmoldkaa.W
open Go.RowKit Go.Proofs.Ytlogihcmmoldkaa.V Go.Proofs.Ytlogihcmmoldkaa.G


set_option maxRecDepth 100000 in
set_option maxHeartbeats 6400000 in
theorem sMin_any (l : List (Int × Int)) (v : Value) (w : World) (hv : SrcV w v l) (h0 : 0 < l.length) (hl : l.length ≤ 1099511627776) : Calls Try.prog 67 #[v, .func (.func 68) #[] #[]] w fun e w' => e = .returned (vV (at_ l (low l)).1 (at_ l (low l)).2) ∧ Nw w w' := by
  have hmix := mixed7
  obtain ⟨A, c, rfl⟩ := hv.shape
  obtain ⟨n, hn⟩ : ∃ n, l.length = n := ⟨_, rfl⟩
  replace hv := src_n hv hn
  rw [hn] at hl h0 ⊢
  have HV := Lib.hid hv
  have HN := Lib.hid hn
  have hmx := src_max hv
  clear hv hn
  obtain ⟨rx, hrx⟩ : ∃ x, (at_ l (low l)).1 = x := ⟨_, rfl⟩
  obtain ⟨ry, hry⟩ : ∃ x, (at_ l (low l)).2 = x := ⟨_, rfl⟩
  rw [hrx, hry]
  have HR := Lib.hid (And.intro hrx hry)
  clear hrx hry
  have f1 : ¬ ((n : Int) < 1) := by omega
  have f2 : ((0 : Int) < (n : Int)) := by omega
  obtain ⟨g, o, rfl, hg, hc⟩ := src_at HV.out h0
  have HC := Lib.hid hc
  have HG := Lib.hid hg
  obtain ⟨y0, y1⟩ := (hc (w.alloc (.cells #[.int .i64 0, .int .i64 0] 23)) (nw_alloc _ _) 0 h0)
  rw [Nat.zero_mul, Nat.add_zero] at y0 y1
  obtain ⟨⟨ax, ay⟩, ha⟩ : ∃ p, at_ l 0 = p := ⟨_, rfl⟩
  rw [ha] at y0 y1
  have H0 := Lib.hid ha
  clear hc hg ha
  go_enter Try.func67, Try.ntmps67
  go_wp2_with fail
  obtain ⟨W0, hW0⟩ : ∃ W, ((w.alloc (.cells #[.int .i64 0, .int .i64 0] 23)).alloc (.cells #[.int .i64 ax, .int .i64 ay] 23)) = W := ⟨_, rfl⟩
  rw [hW0]
  have HW0 := Lib.hid (show Nw w W0 by rw [← hW0]; exact (nw_alloc _ _).alloc _)
  have HM0 := Lib.hid (show Blk W0 (w.heap.size + 1) 23 #[.int .i64 ax, .int .i64 ay] by rw [← hW0]; exact Blk.new_at _ _ _ (by simp))
  have HZ0 := Lib.hid (show Blk W0 w.heap.size 23 #[.int .i64 0, .int .i64 0] by rw [← hW0]; exact (Blk.new _ _ _).alloc _)
  obtain ⟨M, hM⟩ : ∃ M, w.heap.size + 1 = M := ⟨_, rfl⟩
  obtain ⟨R, hR⟩ : ∃ M, w.heap.size = M := ⟨_, rfl⟩
  rw [hM] at HM0 ⊢
  rw [hR] at HZ0 ⊢
  have HMR := Lib.hid (show w.heap.size ≤ R ∧ w.heap.size ≤ M ∧ R ≠ M by omega)
  clear hW0 hM hR y0 y1 f1
  go_loopw [6] (fun i wr => ∃ k : Nat, i = .int .i64 k ∧ 1 ≤ k ∧ k ≤ n ∧ Blk wr M 23 #[.int .i64 (at_ l (lowTo l k)).1, .int .i64 (at_ l (lowTo l k)).2] ∧ Blk wr R 23 #[.int .i64 0, .int .i64 0] ∧ Nw w wr) (fun i _ => n - (intOf i).toNat)
  case atStart =>
    refine ⟨1, rfl, Nat.le_refl _, h0, ?_, HZ0.out, HW0.out⟩
    rw [lowTo_one, H0.out]
    exact HM0.out
  case round =>
    obtain ⟨k, rfl, hk1, hk, hm, hz, hnw⟩ := hrel
    obtain ⟨⟨mx, my⟩, hmm⟩ : ∃ p, at_ l (lowTo l k) = p := ⟨_, rfl⟩
    rw [hmm] at hm
    have HM := Lib.hid hm
    have HZ := Lib.hid hz
    have HMM := Lib.hid hmm
    clear hm hz hmm
    have HK := Lib.hid hnw
    clear hnw
    by_cases hkn : k < n
    · have i0 : (0 : Int) ≤ (k : Int) := by omega
      have i1 : (k : Int) < (n : Int) := by omega
      obtain ⟨s4, hs4⟩ : ∃ s : Nat, k + 1 = s := ⟨_, rfl⟩
      have a4 : IntKind.i64.wrap ((k : Int) + 1) = (s4 : Int) := by rw [IntKind.wrap_i64]; omega
      have H4 := Lib.hid hs4
      obtain ⟨⟨bx, bz⟩, hb⟩ : ∃ p, at_ l k = p := ⟨_, rfl⟩
      have q0 := fun p : KeptW wr => (HC.out p.wd (HK.out.tr p.since) k hkn).1
      have q1 := fun p : KeptW wr => (HC.out p.wd (HK.out.tr p.since) k hkn).2
      have q2 := fun p : KeptW wr => (HM.out.kept p).cell 0
      have q3 := fun p : KeptW wr => (HM.out.kept p).cell 1
      rw [hb] at q0 q1
      have HB := Lib.hid hb
      have cc := fun w1 => compare_nw bx bz mx my w1
      have hls : lessV bx bz mx my = decide (cmpV bx bz mx my < 0) := less_cmp _ _ _ _
      obtain ⟨r, hr⟩ : ∃ r, cmpV bx bz mx my = r := ⟨_, rfl⟩
      rw [hr] at cc hls
      have HLS := Lib.hid hls
      have hst : lowTo l (k + 1) = if lessV bx bz mx my then k else lowTo l k := by
        show (if lessV (at_ l k).1 (at_ l k).2 (at_ l (lowTo l k)).1 (at_ l (lowTo l k)).2 then k else lowTo l k) = _
        rw [hb, HMM.out]
      have HST := Lib.hid hst
      clear hs4 hb hr hls hst
      by_cases g0 : r < 0
      · have f0 : decide (r < 0) = true := decide_eq_true g0
        have HF := Lib.hid f0
        clear g0
        go_wp2_with fail
        refine wp_region_kept (Kp.refl _ _) (by assumption) (by kernel_rfl) ?_
        repeat (with_reducible refine wpQuiet_step (fun K hK => ?_); go_simp; first | ((with_reducible refine hK _ ?_); clear hK K) | (with_reducible apply Exists.intro; (with_reducible refine ⟨fun _ => ?_, hK _ ?_⟩); ((first | (go_at_call 68; with_reducible exact Calls.kept_of (cc _)) | fail)); clear hK K) | (simp only [undef, reduceCtorEq, if_false]; (with_reducible refine hK _ ?_); clear hK K))
        with_reducible refine wpQuiet_nil ?_
        rintro _ ⟨p, rfl⟩
        have z0 := q0 p
        have z1 := q1 p
        have HMP := Lib.hid (HM.out.kept p)
        have HZP := Lib.hid (HZ.out.kept p)
        have HKP := Lib.hid (HK.out.tr p.since)
        obtain ⟨m0, m1, fz0, fz1⟩ := HMP.out.two
        generalize p.wd = wp at z0 z1 HMP HZP HKP m0 m1 fz0 fz1 ⊢
        clear q0 q1 q2 q3
        go_wp2_with fail
        go_roundw
        case rel =>
          refine ⟨k + 1, by rw [← H4.out], by omega, by omega, ?_, ?_, ?_⟩
          · rw [HST.out, HLS.out, HF.out, if_pos rfl, HB.out]
            exact HMP.out.lay2 _ _
          · exact HZP.out.far2 HMR.out.2.2 _ _
          · exact HKP.out.new2 HMR.out.2.1 _ _
        case measure => (have := H4.out; simp [intOf]; try omega)
      · have f0 : decide (r < 0) = false := decide_eq_false g0
        have HF := Lib.hid f0
        clear g0
        go_wp2_with fail
        refine wp_region_kept (Kp.refl _ _) (by assumption) (by kernel_rfl) ?_
        repeat (with_reducible refine wpQuiet_step (fun K hK => ?_); go_simp; first | ((with_reducible refine hK _ ?_); clear hK K) | (with_reducible apply Exists.intro; (with_reducible refine ⟨fun _ => ?_, hK _ ?_⟩); ((first | (go_at_call 68; with_reducible exact Calls.kept_of (cc _)) | fail)); clear hK K) | (simp only [undef, reduceCtorEq, if_false]; (with_reducible refine hK _ ?_); clear hK K))
        with_reducible refine wpQuiet_nil ?_
        rintro _ ⟨p, rfl⟩
        go_wp2_with fail
        go_roundw
        case rel =>
          refine ⟨k + 1, by rw [← H4.out], by omega, by omega, ?_, HZ.out.kept p, HK.out.tr p.since⟩
          rw [HST.out, HLS.out, HF.out, if_neg (by simp), HMM.out]
          exact HM.out.kept p
        case measure => (have := H4.out; simp [intOf]; try omega)
    · obtain rfl : k = n := by omega
      have i5 : ¬ ((k : Int) < (k : Int)) := by omega
      obtain ⟨z0, z1, fz0, fz1⟩ := HM.out.two
      obtain ⟨y0, y1, gz0, gz1⟩ := HZ.out.two
      go_wp2_with fail
      have hl2 := HZ.out.lay2 (.int .i64 mx) (.int .i64 my)
      have x0 := hl2.cell 0
      have x1 := hl2.cell 1
      have hrr : mx = rx ∧ my = ry := by
        have h := HMM.out
        rw [show lowTo l k = low l by unfold low; rw [HN.out]] at h
        have h2 := HR.out
        rw [h] at h2
        exact h2
      exact bodyPost_ret (v := vV mx my) (by simp [results, Try.results67, go_sem, x0, x1]) rfl ⟨by rw [hrr.1, hrr.2], HK.out.new2 HMR.out.1 _ _⟩

end Go.Proofs.Ytlogihcmmoldkaa.W

namespace Go.Proofs.Ytlogihcmmoldkaa.W
open Go.RowKit Go.Proofs.Ytlogihcmmoldkaa.V Go.Proofs.Ytlogihcmmoldkaa.G


set_option maxRecDepth 100000 in
set_option maxHeartbeats 3200000 in
theorem turnAt_any (l : List (Int × Int)) (v : Value) (w : World) (hv : SrcV w v l) (hl : l.length ≤ 1099511627776) (i : Nat) (hi : i < l.length) : Calls Try.prog 63 #[v, .int .i64 i] w fun e w' => e = .returned (.int .i64 (turnI l i)) ∧ Nw w w' := by
  obtain ⟨A, c, rfl⟩ := hv.shape
  obtain ⟨n, hn⟩ : ∃ n, l.length = n := ⟨_, rfl⟩
  replace hv := src_n hv hn
  rw [hn] at hl hi ⊢
  have HV := Lib.hid hv
  have HN := Lib.hid hn
  have hmx := src_max hv
  clear hv hn
  have hmix := mixed7
  obtain ⟨g, o, rfl, hg, hc⟩ := src_at HV.out (by omega)
  have hn0 : 0 < n := by omega
  obtain ⟨s1, hs1⟩ : ∃ s : Nat, i + n = s := ⟨_, rfl⟩
  obtain ⟨s2, hs2⟩ : ∃ s : Nat, i + n - 1 = s := ⟨_, rfl⟩
  obtain ⟨s3, hs3⟩ : ∃ s : Nat, (i + n - 1) % n = s := ⟨_, rfl⟩
  obtain ⟨s4, hs4⟩ : ∃ s : Nat, i + 1 = s := ⟨_, rfl⟩
  obtain ⟨s5, hs5⟩ : ∃ s : Nat, (i + 1) % n = s := ⟨_, rfl⟩
  have l3 : s3 < n := by rw [← hs3]; exact Nat.mod_lt _ hn0
  have l5 : s5 < n := by rw [← hs5]; exact Nat.mod_lt _ hn0
  have a1 : IntKind.i64.wrap ((i : Int) + (n : Int)) = (s1 : Int) := by rw [IntKind.wrap_i64]; omega
  have a2 : IntKind.i64.wrap ((s1 : Int) - 1) = (s2 : Int) := by rw [IntKind.wrap_i64]; omega
  have a3 : (s2 : Int).tmod (n : Int) = (s3 : Int) := by rw [tmod_nat, ← hs2, hs3]
  have a4 : IntKind.i64.wrap ((i : Int) + 1) = (s4 : Int) := by rw [IntKind.wrap_i64]; omega
  have a5 : (s4 : Int).tmod (n : Int) = (s5 : Int) := by rw [tmod_nat, ← hs4, hs5]
  have z0 : ¬ (n = 0) := by omega
  have b0 : (0 : Int) ≤ (i : Int) := by omega
  have b1 : (i : Int) < (n : Int) := by omega
  have b2 : (0 : Int) ≤ (s3 : Int) := by omega
  have b3 : (s3 : Int) < (n : Int) := by omega
  have b4 : (0 : Int) ≤ (s5 : Int) := by omega
  have b5 : (s5 : Int) < (n : Int) := by omega
  have hT : turnI l i = turnP (at_ l s3) (at_ l i) (at_ l s5) := by unfold turnI; rw [HN.out, hs3, hs5]
  obtain ⟨⟨ax, ay⟩, ha⟩ : ∃ p, at_ l s3 = p := ⟨_, rfl⟩
  obtain ⟨⟨bx, bz⟩, hb⟩ : ∃ p, at_ l i = p := ⟨_, rfl⟩
  obtain ⟨⟨cx, cy⟩, hcc⟩ : ∃ p, at_ l s5 = p := ⟨_, rfl⟩
  have q0 := fun p : KeptW w => (hc p.wd p.since s3 l3).1
  have q1 := fun p : KeptW w => (hc p.wd p.since s3 l3).2
  have q2 := fun p : KeptW w => (hc p.wd p.since i hi).1
  have q3 := fun p : KeptW w => (hc p.wd p.since i hi).2
  have q4 := fun p : KeptW w => (hc p.wd p.since s5 l5).1
  have q5 := fun p : KeptW w => (hc p.wd p.since s5 l5).2
  rw [ha] at q0 q1
  rw [hb] at q2 q3
  rw [hcc] at q4 q5
  rw [hT, ha, hb, hcc]
  have ct := fun w1 => turn_any ax ay bx bz cx cy w1
  clear hc hg hs1 hs2 hs3 hs4 hs5 l3 l5 hT ha hb hcc
  go_enter Try.func63, Try.ntmps63
  go_wp2_with fail
  refine wp_region_kept (Kp.refl _ _) (by assumption) (by kernel_rfl) ?_
  repeat (with_reducible refine wpQuiet_step (fun K hK => ?_); go_simp; first | ((with_reducible refine hK _ ?_); clear hK K) | (with_reducible apply Exists.intro; (with_reducible refine ⟨fun _ => ?_, hK _ ?_⟩); ((first | (go_at_call 75; with_reducible exact Calls.kept_of (ct _)) | fail)); clear hK K) | (simp only [undef, reduceCtorEq, if_false]; (with_reducible refine hK _ ?_); clear hK K))
  with_reducible refine wpQuiet_nil ?_
  rintro _ ⟨p, rfl⟩
  go_wp2_with fail
  go_ret
  exact ⟨rfl, p.since⟩

set_option maxRecDepth 100000 in
set_option maxHeartbeats 3200000 in
theorem dArea_any (l : List (Int × Int)) (v : Value) (w : World) (hv : SrcV w v l) (hl : l.length ≤ 1099511627776) : Calls Try.prog 47 #[v] w fun e w' => e = .returned (.int .i64 (areaP l)) ∧ Nw w w' := by
  obtain ⟨A, c, rfl⟩ := hv.shape
  obtain ⟨n, hn⟩ : ∃ n, l.length = n := ⟨_, rfl⟩
  replace hv := src_n hv hn
  rw [hn] at hl ⊢
  have HV := Lib.hid hv
  have HN := Lib.hid hn
  have hmx := src_max hv
  clear hv hn
  have hmix := mixed7
  go_enter Try.func47, Try.ntmps47
  go_wp2_with fail
  go_loopw [3, 8] (fun s i wr => ∃ k : Nat, i = .int .i64 k ∧ k ≤ n ∧ s = .int .i64 (areaTo l k) ∧ Nw w wr) (fun s i _ => n - (intOf i).toNat)
  case atStart => exact ⟨0, rfl, Nat.zero_le _, rfl, (by repeat (first | exact Kp.refl _ _ | refine Kp.alloc ?_ _ | refine Kp.drew ?_))⟩
  case round =>
    obtain ⟨k, rfl, hk, rfl, hnw⟩ := hrel
    have HK := Lib.hid hnw
    clear hnw
    by_cases hkn : k < n
    · have i0 : (0 : Int) ≤ (k : Int) := by omega
      have i1 : (k : Int) < (n : Int) := by omega
      obtain ⟨g, o, rfl, hg, hc⟩ := src_at HV.out (by omega)
      have hn0 : 0 < n := by omega
      obtain ⟨s5, hs5⟩ : ∃ s : Nat, (k + 1) % n = s := ⟨_, rfl⟩
      have l5 : s5 < n := by rw [← hs5]; exact Nat.mod_lt _ hn0
      obtain ⟨s4, hs4⟩ : ∃ s : Nat, k + 1 = s := ⟨_, rfl⟩
      have a4 : IntKind.i64.wrap ((k : Int) + 1) = (s4 : Int) := by rw [IntKind.wrap_i64]; omega
      have a5 : (s4 : Int).tmod (n : Int) = (s5 : Int) := by rw [tmod_nat, ← hs4, hs5]
      have z0 : ¬ (n = 0) := by omega
      have b4 : (0 : Int) ≤ (s5 : Int) := by omega
      have b5 : (s5 : Int) < (n : Int) := by omega
      obtain ⟨⟨ax, ay⟩, ha⟩ : ∃ p, at_ l k = p := ⟨_, rfl⟩
      obtain ⟨⟨bx, bz⟩, hb⟩ : ∃ p, at_ l s5 = p := ⟨_, rfl⟩
      have hS : areaTo l (k + 1) = w64 (areaTo l k + crossV ax ay bx bz) := by
        show w64 (areaTo l k + crossP (at_ l k) (at_ l ((k + 1) % l.length))) = _
        rw [HN.out, hs5, ha, hb]
        rfl
      have HS := Lib.hid hS
      have cc := fun w1 => cross_any ax ay bx bz w1
      obtain ⟨u, hu⟩ : ∃ u, crossV ax ay bx bz = u := ⟨_, rfl⟩
      obtain ⟨t, ht⟩ : ∃ t, areaTo l k = t := ⟨_, rfl⟩
      rw [hu] at cc HS
      rw [ht] at HS ⊢
      obtain ⟨y0, y1⟩ := hc wr HK.out k hkn
      rw [ha] at y0 y1
      have hH := Lib.hid hc
      have HL5 := Lib.hid l5
      have HB := Lib.hid hb
      have H4 := Lib.hid hs4
      clear hc hg hs5 hs4 l5 ha hb hS hu ht
      go_upto_region 5 with fail
      generalize hwb : World.alloc _ (.cells #[.int .i64 ax, .int .i64 ay] _) = wb
      have HKB := Lib.hid (show Nw w wb by rw [← hwb]; exact HK.out.alloc _)
      have HBB := Lib.hid (show Blk wb wr.heap.size 23 #[.int .i64 ax, .int .i64 ay] by rw [← hwb]; exact Blk.new _ _ _)
      have q0 := fun p : KeptW wb => (HBB.out.kept p).cell 0
      have q1 := fun p : KeptW wb => (HBB.out.kept p).cell 1
      have q2 := fun p : KeptW wb => (hH.out p.wd (HKB.out.tr p.since) s5 HL5.out).1
      have q3 := fun p : KeptW wb => (hH.out p.wd (HKB.out.tr p.since) s5 HL5.out).2
      rw [HB.out] at q2 q3
      clear hwb y0 y1
      go_wp2_with fail
      refine wp_region_kept (Kp.refl _ _) (by assumption) (by kernel_rfl) ?_
      repeat (with_reducible refine wpQuiet_step (fun K hK => ?_); go_simp; first | ((with_reducible refine hK _ ?_); clear hK K) | (with_reducible apply Exists.intro; (with_reducible refine ⟨fun _ => ?_, hK _ ?_⟩); ((first | (go_at_call 59; with_reducible exact Calls.kept_of (cc _)) | fail)); clear hK K) | (simp only [undef, reduceCtorEq, if_false]; (with_reducible refine hK _ ?_); clear hK K))
      with_reducible refine wpQuiet_nil ?_
      rintro _ ⟨p, rfl⟩
      go_wp2_with fail
      go_roundw
      case rel => exact ⟨k + 1, by rw [← H4.out], by omega, by rw [HS.out, wrapI], HKB.out.tr p.since⟩
      case measure => (have := H4.out; simp [intOf]; try omega)
    · obtain rfl : k = n := by omega
      have i5 : ¬ ((k : Int) < (k : Int)) := by omega
      go_wp2_with fail
      go_ret
      exact ⟨by show Ending.returned (.int .i64 (areaTo l k)) = Ending.returned (.int .i64 (areaTo l l.length)); rw [HN.out], HK.out⟩

end Go.Proofs.Ytlogihcmmoldkaa.W

namespace Go.Proofs.Ytlogihcmmoldkaa.W
open Go.RowKit Go.Proofs.Ytlogihcmmoldkaa.V Go.Proofs.Ytlogihcmmoldkaa.G


set_option maxRecDepth 100000 in
set_option maxHeartbeats 3200000 in
theorem turnsEv_any (l : List (Int × Int)) (v : Value) (w : World) (hv : SrcV w v l) (hl : l.length ≤ 1099511627776) : Calls Try.prog 64 #[v] w fun e w' => e = .returned (.bool (turnsP l)) ∧ Nw w w' := by
  obtain ⟨A, c, rfl⟩ := hv.shape
  obtain ⟨n, hn⟩ : ∃ n, l.length = n := ⟨_, rfl⟩
  replace hv := src_n hv hn
  rw [hn] at hl ⊢
  have HV := Lib.hid hv
  have HN := Lib.hid hn
  have hmx := src_max hv
  clear hv hn
  go_enter Try.func64, Try.ntmps64
  go_wp2_with fail
  go_loopw [6] (fun i wr => ∃ k : Nat, i = .int .i64 k ∧ k ≤ n ∧ (∀ j, j < k → (!(turnI l j == 0)) = true) ∧ Nw w wr) (fun i _ => n - (intOf i).toNat)
  case atStart => exact ⟨0, rfl, Nat.zero_le _, fun j h => absurd h (Nat.not_lt_zero _), (by repeat (first | exact Kp.refl _ _ | refine Kp.alloc ?_ _ | refine Kp.drew ?_))⟩
  case round =>
    obtain ⟨k, rfl, hk, hall, hnw⟩ := hrel
    have HA := Lib.hid hall
    clear hall
    have HK := Lib.hid hnw
    clear hnw
    by_cases hkn : k < n
    · have i0 : (0 : Int) ≤ (k : Int) := by omega
      have i1 : (k : Int) < (n : Int) := by omega
      obtain ⟨s4, hs4⟩ : ∃ s : Nat, k + 1 = s := ⟨_, rfl⟩
      have a4 : IntKind.i64.wrap ((k : Int) + 1) = (s4 : Int) := by rw [IntKind.wrap_i64]; omega
      have H4 := Lib.hid hs4
      have ct := fun w1 (h : Nw w w1) => turnAt_any l (.slice A n c) w1 ((src_v HV.out HN.out).nw h) (by rw [HN.out]; exact hl) k (by rw [HN.out]; exact hkn)
      obtain ⟨t, ht⟩ : ∃ t, turnI l k = t := ⟨_, rfl⟩
      rw [ht] at ct
      have HT := Lib.hid ht
      clear hs4 ht
      by_cases h0 : t = 0
      · have z0 : (t == 0) = true := by simp [h0]
        go_wp2_with (first | (go_at_call 63; ((with_reducible refine (ct _ (by repeat (first | exact HK.out | refine Kp.drew ?_))).mono ?_); rintro e w5 ⟨rfl, hk5⟩)))
        go_ret
        refine ⟨?_, HK.out.tr hk5⟩
        show Ending.returned (.bool false) = _
        rw [show turnsP l = false from allTo_not (i := k) (by rw [HN.out]; exact hkn) (by rw [HT.out]; simp [h0])]
      · have z0 : (t == 0) = false := by simp [h0]
        go_wp2_with (first | (go_at_call 63; ((with_reducible refine (ct _ (by repeat (first | exact HK.out | refine Kp.drew ?_))).mono ?_); rintro e w5 ⟨rfl, hk5⟩)))
        go_roundw
        case rel =>
          refine ⟨k + 1, by rw [← H4.out], by omega, fun j hj => ?_, HK.out.tr hk5⟩
          rcases Nat.lt_or_ge j k with h | h
          · exact HA.out j h
          · obtain rfl : j = k := by omega
            rw [HT.out]
            simp [h0]
        case measure => (have := H4.out; simp [intOf]; try omega)
    · obtain rfl : k = n := by omega
      have i5 : ¬ ((k : Int) < (k : Int)) := by omega
      go_wp2_with fail
      go_ret
      exact ⟨by show Ending.returned (.bool true) = _; rw [show turnsP l = true from allTo_iff.2 fun i hi => HA.out i (by rw [HN.out] at hi; exact hi)], HK.out⟩

set_option maxRecDepth 100000 in
set_option maxHeartbeats 3200000 in
theorem rsigned_any (l : List (Int × Int)) (v : Value) (w : World) (hv : SrcV w v l) (hl : l.length ≤ 1099511627776) : Calls Try.prog 53 #[v] w fun e w' => e = .returned (.int .i64 (areaP l)) ∧ Nw w w' := by
  obtain ⟨A, c, rfl⟩ := hv.shape
  obtain ⟨n, hn⟩ : ∃ n, l.length = n := ⟨_, rfl⟩
  replace hv := src_n hv hn
  rw [hn] at hl ⊢
  have HV := Lib.hid hv
  have HN := Lib.hid hn
  have hmx := src_max hv
  clear hv hn
  have hmix := mixed7
  go_enter Try.func53, Try.ntmps53
  go_wp2_with fail
  go_loopw [3, 4] (fun s i wr => ∃ k : Nat, i = .int .i64 k ∧ k ≤ n ∧ s = .int .i64 (areaTo l k) ∧ Nw w wr) (fun s i _ => n - (intOf i).toNat)
  case atStart => exact ⟨0, rfl, Nat.zero_le _, rfl, (by repeat (first | exact Kp.refl _ _ | refine Kp.alloc ?_ _ | refine Kp.drew ?_))⟩
  case round =>
    obtain ⟨k, rfl, hk, rfl, hnw⟩ := hrel
    have HK := Lib.hid hnw
    clear hnw
    by_cases hkn : k < n
    · have i0 : (0 : Int) ≤ (k : Int) := by omega
      have i1 : (k : Int) < (n : Int) := by omega
      obtain ⟨s4, hs4⟩ : ∃ s : Nat, k + 1 = s := ⟨_, rfl⟩
      have a4 : IntKind.i64.wrap ((k : Int) + 1) = (s4 : Int) := by rw [IntKind.wrap_i64]; omega
      have H4 := Lib.hid hs4
      have hn0 : 0 < n := by omega
      obtain ⟨s5, hs5⟩ : ∃ s : Nat, (k + 1) % n = s := ⟨_, rfl⟩
      have l5 : s5 < n := by rw [← hs5]; exact Nat.mod_lt _ hn0
      have a5 : (s4 : Int).tmod (n : Int) = (s5 : Int) := by rw [tmod_nat, ← hs4, hs5]
      have z0 : ¬ (n = 0) := by omega
      have b4 : (0 : Int) ≤ (s5 : Int) := by omega
      have b5 : (s5 : Int) < (n : Int) := by omega
      obtain ⟨g, o, rfl, hg, hc⟩ := src_at HV.out (by omega)
      obtain ⟨⟨ax, ay⟩, ha⟩ : ∃ p, at_ l k = p := ⟨_, rfl⟩
      obtain ⟨⟨bx, bz⟩, hb⟩ : ∃ p, at_ l s5 = p := ⟨_, rfl⟩
      have hS : areaTo l (k + 1) = w64 (areaTo l k + crossV ax ay bx bz) := by
        show w64 (areaTo l k + crossP (at_ l k) (at_ l ((k + 1) % l.length))) = _
        rw [HN.out, hs5, ha, hb]
        rfl
      have HS := Lib.hid hS
      have cc := fun w1 => rcross_any ax ay bx bz w1
      obtain ⟨u, hu⟩ : ∃ u, crossV ax ay bx bz = u := ⟨_, rfl⟩
      obtain ⟨t, ht⟩ : ∃ t, areaTo l k = t := ⟨_, rfl⟩
      rw [hu] at cc HS
      rw [ht] at HS ⊢
      have q0 := fun p : KeptW wr => (hc p.wd (HK.out.tr p.since) k hkn).1
      have q1 := fun p : KeptW wr => (hc p.wd (HK.out.tr p.since) k hkn).2
      have q2 := fun p : KeptW wr => (hc p.wd (HK.out.tr p.since) s5 l5).1
      have q3 := fun p : KeptW wr => (hc p.wd (HK.out.tr p.since) s5 l5).2
      rw [ha] at q0 q1
      rw [hb] at q2 q3
      clear hc hg hs5 hs4 l5 ha hb hS hu ht
      go_wp2_with fail
      refine wp_region_kept (Kp.refl _ _) (by assumption) (by kernel_rfl) ?_
      repeat (with_reducible refine wpQuiet_step (fun K hK => ?_); go_simp; first | ((with_reducible refine hK _ ?_); clear hK K) | (with_reducible apply Exists.intro; (with_reducible refine ⟨fun _ => ?_, hK _ ?_⟩); ((first | (go_at_call 23; with_reducible exact Calls.kept_of (cc _)) | fail)); clear hK K) | (simp only [undef, reduceCtorEq, if_false]; (with_reducible refine hK _ ?_); clear hK K))
      with_reducible refine wpQuiet_nil ?_
      rintro _ ⟨p, rfl⟩
      go_wp2_with fail
      go_roundw
      case rel => exact ⟨k + 1, by rw [← H4.out], by omega, by rw [HS.out, wrapI], HK.out.tr p.since⟩
      case measure => (have := H4.out; simp [intOf]; try omega)
    · obtain rfl : k = n := by omega
      have i5 : ¬ ((k : Int) < (k : Int)) := by omega
      go_wp2_with fail
      go_ret
      exact ⟨by show Ending.returned (.int .i64 (areaTo l k)) = Ending.returned (.int .i64 (areaTo l l.length)); rw [HN.out], HK.out⟩

set_option maxRecDepth 100000 in
set_option maxHeartbeats 6400000 in
theorem needless_any (l : List (Int × Int)) (v : Value) (w : World) (hv : SrcV w v l) (hl : l.length ≤ 1099511627776) : Calls Try.prog 45 #[v] w fun e w' => e = .returned (.int .i64 (need l)) ∧ Nw w w' := by
  obtain ⟨A, c, rfl⟩ := hv.shape
  obtain ⟨n, hn⟩ : ∃ n, l.length = n := ⟨_, rfl⟩
  replace hv := src_n hv hn
  rw [hn] at hl ⊢
  have HV := Lib.hid hv
  have HN := Lib.hid hn
  have hmx := src_max hv
  clear hv hn
  have hmix := mixed7
  go_enter Try.func45, Try.ntmps45
  go_wp2_with fail
  go_loopw [7] (fun i wr => ∃ k : Nat, i = .int .i64 k ∧ k ≤ n ∧ (∀ j, j < k → spare l j = false) ∧ Nw w wr) (fun i _ => n - (intOf i).toNat)
  case atStart => exact ⟨0, rfl, Nat.zero_le _, fun j h => absurd h (Nat.not_lt_zero _), (by repeat (first | exact Kp.refl _ _ | refine Kp.alloc ?_ _ | refine Kp.drew ?_))⟩
  case round =>
    obtain ⟨k, rfl, hk, hall, hnw⟩ := hrel
    have HA := Lib.hid hall
    clear hall
    have HK := Lib.hid hnw
    clear hnw
    by_cases hkn : k < n
    · have i0 : (0 : Int) ≤ (k : Int) := by omega
      have i1 : (k : Int) < (n : Int) := by omega
      obtain ⟨s4, hs4⟩ : ∃ s : Nat, k + 1 = s := ⟨_, rfl⟩
      have a4 : IntKind.i64.wrap ((k : Int) + 1) = (s4 : Int) := by rw [IntKind.wrap_i64]; omega
      have H4 := Lib.hid hs4
      have hn0 : 0 < n := by omega
      obtain ⟨s5, hs5⟩ : ∃ s : Nat, (k + 1) % n = s := ⟨_, rfl⟩
      have l5 : s5 < n := by rw [← hs5]; exact Nat.mod_lt _ hn0
      have a5 : (s4 : Int).tmod (n : Int) = (s5 : Int) := by rw [tmod_nat, ← hs4, hs5]
      have z0 : ¬ (n = 0) := by omega
      have b4 : (0 : Int) ≤ (s5 : Int) := by omega
      have b5 : (s5 : Int) < (n : Int) := by omega
      obtain ⟨g, o, rfl, hg, hc⟩ := src_at HV.out (by omega)
      obtain ⟨⟨ax, ay⟩, ha⟩ : ∃ p, at_ l k = p := ⟨_, rfl⟩
      obtain ⟨⟨bx, bz⟩, hb⟩ : ∃ p, at_ l s5 = p := ⟨_, rfl⟩
      have hS : spare l k = ((ax == bx && ay == bz) || (turnI l k == 0)) := by
        unfold spare
        rw [HN.out, hs5, ha, hb]
        rfl
      have HS := Lib.hid hS
      have hsv := src_v HV.out HN.out
      obtain ⟨y0, y1⟩ := hc wr HK.out k hkn
      rw [ha] at y0 y1
      have hq := fun w1 => eql_vecg ax ay bx bz w1
      have ct0 := fun w1 (h : Nw w w1) => turnAt_any l (.slice (some ⟨g, o, none⟩) n c) w1 (hsv.nw h) (by rw [HN.out]; exact hl) k (by rw [HN.out]; exact hkn)
      obtain ⟨t, ht⟩ : ∃ t, turnI l k = t := ⟨_, rfl⟩
      rw [ht] at ct0 HS
      obtain ⟨q, hqq⟩ : ∃ q, (ax == bx && ay == bz) = q := ⟨_, rfl⟩
      rw [hqq] at hq HS
      obtain ⟨z, hz⟩ : ∃ z, (t == 0) = z := ⟨_, rfl⟩
      rw [hz] at HS
      have hH := Lib.hid hc
      have HL5 := Lib.hid l5
      have HB := Lib.hid hb
      have HCT := Lib.hid ct0
      clear hc hg hs5 hs4 l5 ha hb hS ht hqq hsv ct0
      go_upto_region 4 with fail
      generalize hwb : World.alloc _ (.cells #[.int .i64 ax, .int .i64 ay] _) = wb
      have HKB := Lib.hid (show Nw w wb by rw [← hwb]; exact HK.out.alloc _)
      have HBB := Lib.hid (show Blk wb wr.heap.size 23 #[.int .i64 ax, .int .i64 ay] by rw [← hwb]; exact Blk.new _ _ _)
      have q0 := fun p : KeptW wb => (HBB.out.kept p).cell 0
      have q1 := fun p : KeptW wb => (HBB.out.kept p).cell 1
      have q2 := fun p : KeptW wb => (hH.out p.wd (HKB.out.tr p.since) s5 HL5.out).1
      have q3 := fun p : KeptW wb => (hH.out p.wd (HKB.out.tr p.since) s5 HL5.out).2
      have ct := fun (p : KeptW wb) => HCT.out p.wd (HKB.out.tr p.since)
      rw [HB.out] at q2 q3
      clear hwb y0 y1
      cases q
      · cases z
        · skip
          refine wp_region_kept (Kp.refl _ _) (by assumption) (by kernel_rfl) ?_
          repeat (with_reducible refine wpQuiet_step (fun K hK => ?_); go_simp; first | ((with_reducible refine hK _ ?_); clear hK K) | (with_reducible apply Exists.intro; (with_reducible refine ⟨fun _ => ?_, hK _ ?_⟩); ((first | (go_at_call 63; with_reducible exact Calls.kept_of (ct _)) | fail)); clear hK K) | (simp only [undef, reduceCtorEq, if_false]; (with_reducible refine hK _ ?_); clear hK K))
          with_reducible refine wpQuiet_nil ?_
          rintro _ ⟨p, rfl⟩
          go_wp2_with fail
          go_roundw
          case rel =>
            refine ⟨k + 1, by rw [← H4.out], by omega, fun j hj => ?_, HKB.out.tr p.since⟩
            rcases Nat.lt_or_ge j k with h | h
            · exact HA.out j h
            · obtain rfl : j = k := by omega
              exact HS.out
          case measure => (have := H4.out; simp [intOf]; try omega)
        · skip
          refine wp_region_kept (Kp.refl _ _) (by assumption) (by kernel_rfl) ?_
          repeat (with_reducible refine wpQuiet_step (fun K hK => ?_); go_simp; first | ((with_reducible refine hK _ ?_); clear hK K) | (with_reducible apply Exists.intro; (with_reducible refine ⟨fun _ => ?_, hK _ ?_⟩); ((first | (go_at_call 63; with_reducible exact Calls.kept_of (ct _)) | fail)); clear hK K) | (simp only [undef, reduceCtorEq, if_false]; (with_reducible refine hK _ ?_); clear hK K))
          with_reducible refine wpQuiet_nil ?_
          rintro _ ⟨p, rfl⟩
          go_wp2_with fail
          go_ret
          refine ⟨?_, HKB.out.tr p.since⟩
          show Ending.returned (.int .i64 k) = _
          rw [need_of (l := l) (k := k) (by rw [HN.out]; omega) HA.out fun _ => HS.out]
      · skip
        refine wp_region_kept (Kp.refl _ _) (by assumption) (by kernel_rfl) ?_
        repeat (with_reducible refine wpQuiet_step (fun K hK => ?_); go_simp; first | ((with_reducible refine hK _ ?_); clear hK K) | (with_reducible apply Exists.intro; (with_reducible refine ⟨fun _ => ?_, hK _ ?_⟩); ((first | (go_at_call 63; with_reducible exact Calls.kept_of (ct _)) | fail)); clear hK K) | (simp only [undef, reduceCtorEq, if_false]; (with_reducible refine hK _ ?_); clear hK K))
        with_reducible refine wpQuiet_nil ?_
        rintro _ ⟨p, rfl⟩
        go_wp2_with fail
        go_ret
        refine ⟨?_, HKB.out.tr p.since⟩
        show Ending.returned (.int .i64 k) = _
        rw [need_of (l := l) (k := k) (by rw [HN.out]; omega) HA.out fun _ => HS.out]
    · obtain rfl : k = n := by omega
      have i5 : ¬ ((k : Int) < (k : Int)) := by omega
      go_wp2_with fail
      go_ret
      refine ⟨?_, HK.out⟩
      show Ending.returned (.int .i64 k) = _
      rw [need_of (l := l) (k := k) (by rw [HN.out]; omega) HA.out fun h => absurd h (by rw [HN.out]; omega)]

end Go.Proofs.Ytlogihcmmoldkaa.W
