/-
  ring: slices.Equal, slices.Index and slices.MinFunc at rings, and Same of both sides. Condition: where it says so, the list is not longer than 2^40.
  ring: slices.MinFunc at rings by vec.Compare: the least point. Conditions: the list has a point, and is not longer than 2^40.
  ring: Canonical: what it returns. Condition: the list is not longer than 2^40.
-/
import Derived.Test.YthifljljaejfmaaJ23
import Derived.Test.YthifljljaejfmaaJ20
import Derived.Test.YthifljljaejfmaaJ25
import Derived.Test.YthifljljaejfmaaJ27
import Derived.Test.YthifljljaejfmaaJ35
import Derived.Deep.RegionWith
namespace Go.Proofs.Ythifljljaejfmaa.W
open Go.RowKit Go.Proofs.Ythifljljaejfmaa.V Go.Proofs.Ythifljljaejfmaa.G


theorem list_ext_at {l m : List Pt} (h : l.length = m.length) (ha : ∀ j, j < l.length → at_ l j = at_ m j) : l = m := by
  apply List.ext_getElem?
  intro j
  rcases Nat.lt_or_ge j l.length with hj | hj
  · rw [at_some hj, at_some (by omega), ha j hj]
  · rw [List.getElem?_eq_none hj, List.getElem?_eq_none (by omega)]
theorem not_eq_at {l m : List Pt} {j : Nat} (h : at_ l j ≠ at_ m j) : decide (l = m) = false := decide_eq_false fun e => h (by rw [e])

set_option maxRecDepth 100000 in
set_option maxHeartbeats 6400000 in
theorem sEqual_any (l m : List (Int × Int)) (u v : Value) (w : World) (hu : SrcV w u l) (hv : SrcV w v m) : Calls Try.prog 37 #[u, v] w fun e w' => e = .returned (.bool (decide (l = m))) ∧ Nw w w' := by
  have hmix := mixed7
  obtain ⟨A, c, rfl⟩ := hu.shape
  obtain ⟨A2, c2, rfl⟩ := hv.shape
  obtain ⟨n, hn⟩ : ∃ n, l.length = n := ⟨_, rfl⟩
  obtain ⟨n2, hn2⟩ : ∃ n, m.length = n := ⟨_, rfl⟩
  replace hu := src_n hu hn
  replace hv := src_n hv hn2
  rw [hn, hn2]
  have HU := Lib.hid hu
  have HV := Lib.hid hv
  have hmx := src_max hu
  have HN := Lib.hid hn
  have HN2 := Lib.hid hn2
  obtain ⟨r, hr⟩ : ∃ r, decide (l = m) = r := ⟨_, rfl⟩
  rw [hr]
  have HR := Lib.hid hr
  clear hu hv hn hn2 hr
  by_cases hnn : n = n2
  case neg =>
    have f1 : ((n : Int) != (n2 : Int)) = true := by simp; omega
    have f2 : (n != n2) = true := by simp [hnn]
    have HD := Lib.hid hnn
    clear hnn
    go_enter Try.func37, Try.ntmps37
    go_wp2_with fail
    go_ret
    refine ⟨?_, Kp.refl _ _⟩
    show Ending.returned (.bool false) = _
    rw [← HR.out, decide_eq_false fun e => HD.out (by rw [← HN.out, ← HN2.out, e])]
  subst hnn
  go_enter Try.func37, Try.ntmps37
  go_wp2_with fail
  go_loopw [13] (fun i wr => ∃ k : Nat, i = .int .i64 k ∧ k ≤ n ∧ (∀ j, j < k → at_ l j = at_ m j) ∧ Nw w wr) (fun i _ => n - (intOf i).toNat)
  case atStart => exact ⟨0, rfl, Nat.zero_le _, fun j h => absurd h (Nat.not_lt_zero _), (by repeat (first | exact Kp.refl _ _ | refine Kp.alloc ?_ _ | refine Kp.drew ?_))⟩
  case round =>
    obtain ⟨k, rfl, hk, hall, hnw⟩ := hrel
    have HA := Lib.hid hall
    clear hall
    have HK := Lib.hid hnw
    clear hnw
    by_cases hkn : k < n
    · have i0 : (0 : Int) ≤ (k : Int) := by omega
      have i1 : (k : Int) < (n : Int) := by omega
      obtain ⟨s4, hs4⟩ : ∃ s : Nat, k + 1 = s := ⟨_, rfl⟩
      have a4 : IntKind.i64.wrap ((k : Int) + 1) = (s4 : Int) := by rw [IntKind.wrap_i64]; omega
      have H4 := Lib.hid hs4
      obtain ⟨g, o, rfl, hg, hc⟩ := src_at HU.out (by omega)
      obtain ⟨g2, o2, rfl, hg2, hc2⟩ := src_at HV.out (by omega)
      obtain ⟨⟨ax, ay⟩, ha⟩ : ∃ p, at_ l k = p := ⟨_, rfl⟩
      obtain ⟨⟨bx, bz⟩, hb⟩ : ∃ p, at_ m k = p := ⟨_, rfl⟩
      have hq := fun w1 => neq_vec ax ay bx bz w1
      have q0 := fun p : KeptW wr => (hc p.wd (HK.out.tr p.since) k hkn).1
      have q1 := fun p : KeptW wr => (hc p.wd (HK.out.tr p.since) k hkn).2
      have q2 := fun p : KeptW wr => (hc2 p.wd (HK.out.tr p.since) k hkn).1
      have q3 := fun p : KeptW wr => (hc2 p.wd (HK.out.tr p.since) k hkn).2
      rw [ha] at q0 q1
      rw [hb] at q2 q3
      have H1 := Lib.hid ha
      have H2 := Lib.hid hb
      clear hc hc2 hg hg2 ha hb hs4
      by_cases hab : (ax, ay) = (bx, bz)
      · rw [show (!(ax == bx && ay == bz)) = false by injection hab with e1 e2; simp [e1, e2]] at hq
        have HAB := Lib.hid hab
        clear hab
        go_wp2_with fail
        refine wp_region_kept (Kp.refl _ _) (by assumption) (by kernel_rfl) ?_
        repeat (with_reducible refine wpQuiet_step (fun K hK => ?_); go_simp; first | ((with_reducible refine hK _ ?_); clear hK K) | (with_reducible apply Exists.intro; (with_reducible refine ⟨fun _ => ?_, hK _ ?_⟩); (fail); clear hK K) | (simp only [undef, reduceCtorEq, if_false]; (with_reducible refine hK _ ?_); clear hK K))
        with_reducible refine wpQuiet_nil ?_
        rintro _ ⟨p, rfl⟩
        go_wp2_with fail
        go_roundw
        case rel =>
          refine ⟨k + 1, by rw [← H4.out], by omega, fun j hj => ?_, HK.out.tr p.since⟩
          rcases Nat.lt_or_ge j k with h | h
          · exact HA.out j h
          · obtain rfl : j = k := by omega
            rw [H1.out, H2.out, HAB.out]
        case measure => (have := H4.out; simp [intOf]; try omega)
      · rw [show (!(ax == bx && ay == bz)) = true by
          rw [Bool.not_eq_true', Bool.eq_false_iff]; intro e; apply hab; simp at e; rw [e.1, e.2]] at hq
        have HAB := Lib.hid hab
        clear hab
        go_wp2_with fail
        refine wp_region_kept (Kp.refl _ _) (by assumption) (by kernel_rfl) ?_
        repeat (with_reducible refine wpQuiet_step (fun K hK => ?_); go_simp; first | ((with_reducible refine hK _ ?_); clear hK K) | (with_reducible apply Exists.intro; (with_reducible refine ⟨fun _ => ?_, hK _ ?_⟩); (fail); clear hK K) | (simp only [undef, reduceCtorEq, if_false]; (with_reducible refine hK _ ?_); clear hK K))
        with_reducible refine wpQuiet_nil ?_
        rintro _ ⟨p, rfl⟩
        go_wp2_with fail
        go_ret
        refine ⟨?_, HK.out.tr p.since⟩
        show Ending.returned (.bool false) = _
        rw [← HR.out, not_eq_at (j := k) (by rw [H1.out, H2.out]; exact HAB.out)]
    · obtain rfl : k = n := by omega
      have i5 : ¬ ((k : Int) < (k : Int)) := by omega
      go_wp2_with fail
      go_ret
      refine ⟨?_, HK.out⟩
      show Ending.returned (.bool true) = _
      rw [← HR.out, decide_eq_true (list_ext_at (by rw [HN.out, HN2.out]) (by rw [HN.out]; exact HA.out))]

set_option maxRecDepth 100000 in
set_option maxHeartbeats 3200000 in
theorem ringSame_any (l m : List (Int × Int)) (u v : Value) (w : World) (hu : SrcV w u l) (hv : SrcV w v m) : Calls Try.prog 15 #[u, v] w fun e w' => e = .returned (.bool (decide (l = m))) ∧ Nw w w' := by
  have cc := sEqual_any l m u v w hu hv
  clear hu hv
  go_enter Try.func15, Try.ntmps15
  go_wp2_with fail
  with_reducible refine cc.mono ?_
  rintro e w1 ⟨rfl, k1⟩
  go_wp2_with fail
  go_ret
  exact ⟨rfl, k1⟩

set_option maxRecDepth 100000 in
set_option maxHeartbeats 6400000 in
theorem sIndex_any (l : List (Int × Int)) (v : Value) (ax ay : Int) (w : World) (hv : SrcV w v l) (q : Nat) (hq : q < l.length) (h1 : at_ l q = (ax, ay)) (h2 : ∀ j, j < q → at_ l j ≠ (ax, ay)) (hl : l.length ≤ 1099511627776) : Calls Try.prog 45 #[v, vV ax ay] w fun e w' => e = .returned (.int .i64 q) ∧ Nw w w' := by
  have hmix := mixed7
  obtain ⟨A, c, rfl⟩ := hv.shape
  obtain ⟨n, hn⟩ : ∃ n, l.length = n := ⟨_, rfl⟩
  replace hv := src_n hv hn
  rw [hn] at hl hq ⊢
  have HV := Lib.hid hv
  have HN := Lib.hid hn
  have hmx := src_max hv
  clear hv hn
  have HQ := Lib.hid (And.intro h1 h2)
  clear h1 h2
  have hb0 := Blk.new_at w 28 #[.int .i64 ax, .int .i64 ay] (n := w.heap.size) (by simp)
  have hk0 : ∀ p : KeptW (w.alloc (.cells #[.int .i64 ax, .int .i64 ay] 28)), Blk p.wd (w.heap.size) 28 #[.int .i64 ax, .int .i64 ay] := fun p => hb0.kept p
  have r0 := fun p => (hk0 p).cell 0
  have r1 := fun p => (hk0 p).cell 1
  skip
  clear hb0 hk0
  obtain ⟨w0, hw0⟩ : ∃ w0, w.alloc (.cells #[.int .i64 ax, .int .i64 ay] 28) = w0 := ⟨_, rfl⟩
  rw [hw0] at r0 r1
  have H0 := Lib.hid (show Nw w w0 by rw [← hw0]; exact nw_alloc _ _)
  have HR0 := Lib.hid r0
  have HR1 := Lib.hid r1
  clear r0 r1
  go_enter Try.func45, Try.ntmps45
  go_wp2_with fail
  clear hw0
  go_loopw [8] (fun i wr => ∃ k : Nat, i = .int .i64 k ∧ k ≤ q ∧ Nw w0 wr) (fun i _ => n - (intOf i).toNat)
  case atStart => exact ⟨0, rfl, Nat.zero_le _, (by repeat (first | exact Kp.refl _ _ | refine Kp.alloc ?_ _ | refine Kp.drew ?_))⟩
  case round =>
    obtain ⟨k, rfl, hk, hnw⟩ := hrel
    have hkn : k < n := by omega
    have HK := Lib.hid hnw
    clear hnw
    have i0 : (0 : Int) ≤ (k : Int) := by omega
    have i1 : (k : Int) < (n : Int) := by omega
    obtain ⟨s4, hs4⟩ : ∃ s : Nat, k + 1 = s := ⟨_, rfl⟩
    have a4 : IntKind.i64.wrap ((k : Int) + 1) = (s4 : Int) := by rw [IntKind.wrap_i64]; omega
    have H4 := Lib.hid hs4
    obtain ⟨g, o, rfl, hg, hc⟩ := src_at HV.out (by omega)
    obtain ⟨⟨bx, bz⟩, hb⟩ : ∃ p, at_ l k = p := ⟨_, rfl⟩
    have he := fun w1 => eql_vecg ax ay bx bz w1
    have q0 := fun p : KeptW wr => (hc p.wd ((H0.out.tr HK.out).tr p.since) k hkn).1
    have q1 := fun p : KeptW wr => (hc p.wd ((H0.out.tr HK.out).tr p.since) k hkn).2
    have q2 := fun p : KeptW wr => HR0.out ⟨p.wd, HK.out.tr p.since⟩
    have q3 := fun p : KeptW wr => HR1.out ⟨p.wd, HK.out.tr p.since⟩
    rw [hb] at q0 q1
    have H1 := Lib.hid hb
    clear hc hg hb hs4
    by_cases hab : (ax, ay) = (bx, bz)
    · rw [show (ax == bx && ay == bz) = true by injection hab with e1 e2; simp [e1, e2]] at he
      have HAB := Lib.hid hab
      clear hab
      go_wp2_with fail
      refine wp_region_kept (Kp.refl _ _) (by assumption) (by kernel_rfl) ?_
      repeat (with_reducible refine wpQuiet_step (fun K hK => ?_); go_simp; first | ((with_reducible refine hK _ ?_); clear hK K) | (with_reducible apply Exists.intro; (with_reducible refine ⟨fun _ => ?_, hK _ ?_⟩); (fail); clear hK K) | (simp only [undef, reduceCtorEq, if_false]; (with_reducible refine hK _ ?_); clear hK K))
      with_reducible refine wpQuiet_nil ?_
      rintro _ ⟨p, rfl⟩
      go_wp2_with fail
      go_ret
      refine ⟨?_, (H0.out.tr HK.out).tr p.since⟩
      obtain rfl : k = q := by
        rcases Nat.lt_or_eq_of_le hk with h | h
        · exact absurd (H1.out.trans HAB.out.symm) (HQ.out.2 k h)
        · exact h
      rfl
    · rw [show (ax == bx && ay == bz) = false by
        rw [Bool.eq_false_iff]; intro e; apply hab; simp at e; rw [e.1, e.2]] at he
      have HAB := Lib.hid hab
      clear hab
      go_wp2_with fail
      refine wp_region_kept (Kp.refl _ _) (by assumption) (by kernel_rfl) ?_
      repeat (with_reducible refine wpQuiet_step (fun K hK => ?_); go_simp; first | ((with_reducible refine hK _ ?_); clear hK K) | (with_reducible apply Exists.intro; (with_reducible refine ⟨fun _ => ?_, hK _ ?_⟩); (fail); clear hK K) | (simp only [undef, reduceCtorEq, if_false]; (with_reducible refine hK _ ?_); clear hK K))
      with_reducible refine wpQuiet_nil ?_
      rintro _ ⟨p, rfl⟩
      go_wp2_with fail
      go_roundw
      case rel =>
        refine ⟨k + 1, by rw [← H4.out], ?_, HK.out.tr p.since⟩
        rcases Nat.lt_or_eq_of_le hk with h | h
        · exact h
        · subst h
          exact absurd (HQ.out.1.symm.trans H1.out) HAB.out
      case measure => (have := H4.out; simp [intOf]; try omega)

end Go.Proofs.Ythifljljaejfmaa.W

namespace Go.Proofs.Ythifljljaejfmaa.W
open Go.RowKit Go.Proofs.Ythifljljaejfmaa.V Go.Proofs.Ythifljljaejfmaa.G


set_option maxRecDepth 100000 in
set_option maxHeartbeats 6400000 in
theorem sMin_any (l : List (Int × Int)) (v : Value) (w : World) (hv : SrcV w v l) (h0 : 0 < l.length) (hl : l.length ≤ 1099511627776) : Calls Try.prog 46 #[v, .func (.func 43) #[] #[]] w fun e w' => e = .returned (vV (at_ l (low l)).1 (at_ l (low l)).2) ∧ Nw w w' := by
  have hmix := mixed7
  obtain ⟨A, c, rfl⟩ := hv.shape
  obtain ⟨n, hn⟩ : ∃ n, l.length = n := ⟨_, rfl⟩
  replace hv := src_n hv hn
  rw [hn] at hl h0 ⊢
  have HV := Lib.hid hv
  have HN := Lib.hid hn
  have hmx := src_max hv
  clear hv hn
  obtain ⟨rx, hrx⟩ : ∃ x, (at_ l (low l)).1 = x := ⟨_, rfl⟩
  obtain ⟨ry, hry⟩ : ∃ x, (at_ l (low l)).2 = x := ⟨_, rfl⟩
  rw [hrx, hry]
  have HR := Lib.hid (And.intro hrx hry)
  clear hrx hry
  have f1 : ¬ ((n : Int) < 1) := by omega
  have f2 : ((0 : Int) < (n : Int)) := by omega
  obtain ⟨g, o, rfl, hg, hc⟩ := src_at HV.out h0
  have HC := Lib.hid hc
  have HG := Lib.hid hg
  obtain ⟨y0, y1⟩ := (hc (w.alloc (.cells #[.int .i64 0, .int .i64 0] 28)) (nw_alloc _ _) 0 h0)
  rw [Nat.zero_mul, Nat.add_zero] at y0 y1
  obtain ⟨⟨ax, ay⟩, ha⟩ : ∃ p, at_ l 0 = p := ⟨_, rfl⟩
  rw [ha] at y0 y1
  have H0 := Lib.hid ha
  clear hc hg ha
  go_enter Try.func46, Try.ntmps46
  go_wp2_with fail
  obtain ⟨W0, hW0⟩ : ∃ W, ((w.alloc (.cells #[.int .i64 0, .int .i64 0] 28)).alloc (.cells #[.int .i64 ax, .int .i64 ay] 28)) = W := ⟨_, rfl⟩
  rw [hW0]
  have HW0 := Lib.hid (show Nw w W0 by rw [← hW0]; exact (nw_alloc _ _).alloc _)
  have HM0 := Lib.hid (show Blk W0 (w.heap.size + 1) 28 #[.int .i64 ax, .int .i64 ay] by rw [← hW0]; exact Blk.new_at _ _ _ (by simp))
  have HZ0 := Lib.hid (show Blk W0 w.heap.size 28 #[.int .i64 0, .int .i64 0] by rw [← hW0]; exact (Blk.new _ _ _).alloc _)
  obtain ⟨M, hM⟩ : ∃ M, w.heap.size + 1 = M := ⟨_, rfl⟩
  obtain ⟨R, hR⟩ : ∃ M, w.heap.size = M := ⟨_, rfl⟩
  rw [hM] at HM0 ⊢
  rw [hR] at HZ0 ⊢
  have HMR := Lib.hid (show w.heap.size ≤ R ∧ w.heap.size ≤ M ∧ R ≠ M by omega)
  clear hW0 hM hR y0 y1 f1
  go_loopw [6] (fun i wr => ∃ k : Nat, i = .int .i64 k ∧ 1 ≤ k ∧ k ≤ n ∧ Blk wr M 28 #[.int .i64 (at_ l (lowTo l k)).1, .int .i64 (at_ l (lowTo l k)).2] ∧ Blk wr R 28 #[.int .i64 0, .int .i64 0] ∧ Nw w wr) (fun i _ => n - (intOf i).toNat)
  case atStart =>
    refine ⟨1, rfl, Nat.le_refl _, h0, ?_, HZ0.out, HW0.out⟩
    rw [lowTo_one, H0.out]
    exact HM0.out
  case round =>
    obtain ⟨k, rfl, hk1, hk, hm, hz, hnw⟩ := hrel
    obtain ⟨⟨mx, my⟩, hmm⟩ : ∃ p, at_ l (lowTo l k) = p := ⟨_, rfl⟩
    rw [hmm] at hm
    have HM := Lib.hid hm
    have HZ := Lib.hid hz
    have HMM := Lib.hid hmm
    clear hm hz hmm
    have HK := Lib.hid hnw
    clear hnw
    by_cases hkn : k < n
    · have i0 : (0 : Int) ≤ (k : Int) := by omega
      have i1 : (k : Int) < (n : Int) := by omega
      obtain ⟨s4, hs4⟩ : ∃ s : Nat, k + 1 = s := ⟨_, rfl⟩
      have a4 : IntKind.i64.wrap ((k : Int) + 1) = (s4 : Int) := by rw [IntKind.wrap_i64]; omega
      have H4 := Lib.hid hs4
      obtain ⟨⟨bx, bz⟩, hb⟩ : ∃ p, at_ l k = p := ⟨_, rfl⟩
      have q0 := fun p : KeptW wr => (HC.out p.wd (HK.out.tr p.since) k hkn).1
      have q1 := fun p : KeptW wr => (HC.out p.wd (HK.out.tr p.since) k hkn).2
      have q2 := fun p : KeptW wr => (HM.out.kept p).cell 0
      have q3 := fun p : KeptW wr => (HM.out.kept p).cell 1
      rw [hb] at q0 q1
      have HB := Lib.hid hb
      have cc := fun w1 => compare_nw bx bz mx my w1
      have hls : lessV bx bz mx my = decide (cmpV bx bz mx my < 0) := less_cmp _ _ _ _
      obtain ⟨r, hr⟩ : ∃ r, cmpV bx bz mx my = r := ⟨_, rfl⟩
      rw [hr] at cc hls
      have HLS := Lib.hid hls
      have hst : lowTo l (k + 1) = if lessV bx bz mx my then k else lowTo l k := by
        show (if lessV (at_ l k).1 (at_ l k).2 (at_ l (lowTo l k)).1 (at_ l (lowTo l k)).2 then k else lowTo l k) = _
        rw [hb, HMM.out]
      have HST := Lib.hid hst
      clear hs4 hb hr hls hst
      by_cases g0 : r < 0
      · have f0 : decide (r < 0) = true := decide_eq_true g0
        have HF := Lib.hid f0
        clear g0
        go_wp2_with fail
        refine wp_region_kept (Kp.refl _ _) (by assumption) (by kernel_rfl) ?_
        repeat (with_reducible refine wpQuiet_step (fun K hK => ?_); go_simp; first | ((with_reducible refine hK _ ?_); clear hK K) | (with_reducible apply Exists.intro; (with_reducible refine ⟨fun _ => ?_, hK _ ?_⟩); ((first | (go_at_call 43; with_reducible exact Calls.kept_of (cc _)) | fail)); clear hK K) | (simp only [undef, reduceCtorEq, if_false]; (with_reducible refine hK _ ?_); clear hK K))
        with_reducible refine wpQuiet_nil ?_
        rintro _ ⟨p, rfl⟩
        have z0 := q0 p
        have z1 := q1 p
        have HMP := Lib.hid (HM.out.kept p)
        have HZP := Lib.hid (HZ.out.kept p)
        have HKP := Lib.hid (HK.out.tr p.since)
        obtain ⟨m0, m1, fz0, fz1⟩ := HMP.out.two
        generalize p.wd = wp at z0 z1 HMP HZP HKP m0 m1 fz0 fz1 ⊢
        clear q0 q1 q2 q3
        go_wp2_with fail
        go_roundw
        case rel =>
          refine ⟨k + 1, by rw [← H4.out], by omega, by omega, ?_, ?_, ?_⟩
          · rw [HST.out, HLS.out, HF.out, if_pos rfl, HB.out]
            exact HMP.out.lay2 _ _
          · exact HZP.out.far2 HMR.out.2.2 _ _
          · exact HKP.out.new2 HMR.out.2.1 _ _
        case measure => (have := H4.out; simp [intOf]; try omega)
      · have f0 : decide (r < 0) = false := decide_eq_false g0
        have HF := Lib.hid f0
        clear g0
        go_wp2_with fail
        refine wp_region_kept (Kp.refl _ _) (by assumption) (by kernel_rfl) ?_
        repeat (with_reducible refine wpQuiet_step (fun K hK => ?_); go_simp; first | ((with_reducible refine hK _ ?_); clear hK K) | (with_reducible apply Exists.intro; (with_reducible refine ⟨fun _ => ?_, hK _ ?_⟩); ((first | (go_at_call 43; with_reducible exact Calls.kept_of (cc _)) | fail)); clear hK K) | (simp only [undef, reduceCtorEq, if_false]; (with_reducible refine hK _ ?_); clear hK K))
        with_reducible refine wpQuiet_nil ?_
        rintro _ ⟨p, rfl⟩
        go_wp2_with fail
        go_roundw
        case rel =>
          refine ⟨k + 1, by rw [← H4.out], by omega, by omega, ?_, HZ.out.kept p, HK.out.tr p.since⟩
          rw [HST.out, HLS.out, HF.out, if_neg (by simp), HMM.out]
          exact HM.out.kept p
        case measure => (have := H4.out; simp [intOf]; try omega)
    · obtain rfl : k = n := by omega
      have i5 : ¬ ((k : Int) < (k : Int)) := by omega
      obtain ⟨z0, z1, fz0, fz1⟩ := HM.out.two
      obtain ⟨y0, y1, gz0, gz1⟩ := HZ.out.two
      go_wp2_with fail
      have hl2 := HZ.out.lay2 (.int .i64 mx) (.int .i64 my)
      have x0 := hl2.cell 0
      have x1 := hl2.cell 1
      have hrr : mx = rx ∧ my = ry := by
        have h := HMM.out
        rw [show lowTo l k = low l by unfold low; rw [HN.out]] at h
        have h2 := HR.out
        rw [h] at h2
        exact h2
      exact bodyPost_ret (v := vV mx my) (by simp [results, Try.results46, go_sem, x0, x1]) rfl ⟨by rw [hrr.1, hrr.2], HK.out.new2 HMR.out.1 _ _⟩

end Go.Proofs.Ythifljljaejfmaa.W

namespace Go.Proofs.Ythifljljaejfmaa.W
open Go.RowKit Go.Proofs.Ythifljljaejfmaa.V Go.Proofs.Ythifljljaejfmaa.G


theorem elemRing : Try.prog.elem 23 = 28 := by kernel_rfl
theorem vdrop (l : List (Int × Int)) (k : Nat) : (l.flatMap vC).drop (k * 2) = (l.drop k).flatMap vC := flat_drop (f := vC) (fun _ => rfl) l k
theorem vtake (l : List (Int × Int)) (k : Nat) : (l.flatMap vC).take (k * 2) = (l.take k).flatMap vC := flat_take (f := vC) (fun _ => rfl) l k
theorem valid_len {l : List Pt} (h : validR l = true) : 3 ≤ l.length ∧ l.length ≤ 40 := by
  unfold validR at h
  simp only [Bool.and_eq_true, decide_eq_true_eq] at h
  exact ⟨h.1.1.1.1.1, h.1.1.1.1.2⟩
theorem low_lt {l : List Pt} (h : 0 < l.length) : low l < l.length := lowTo_lt h
theorem low_first {l : List Pt} (h : 0 < l.length) : ∀ j, j < low l → at_ l j ≠ at_ l (low l) := fun j hj e => by
  have := (lowTo_is (l := l) (k := l.length) j (by have := low_lt h; omega)).2 hj
  rw [show lowTo l l.length = low l from rfl, e] at this
  exact ltV_irrefl _ this

set_option maxRecDepth 100000 in
set_option maxHeartbeats 6400000 in
theorem canon_any (l : List (Int × Int)) (v : Value) (w : World) (hv : SrcV w v l) (hl : l.length ≤ 1099511627776) : Calls Try.prog 35 #[v] w fun e w' => ∃ v', e = .returned v' ∧ OwnL w w' v' (canonR l) ∧ Nw w w' := by
  have hmix := mixed7
  have cv := ringValid_any l v w hv hl
  obtain ⟨b, hb⟩ : ∃ b, validR l = b := ⟨_, rfl⟩
  rw [hb] at cv
  cases b with
  | false =>
    rw [show canonR l = [] by unfold canonR; rw [hb]; rfl]
    clear hv hb
    go_enter Try.func35, Try.ntmps35
    go_wp2_with fail
    with_reducible refine cv.mono ?_
    rintro e w1 ⟨rfl, k1⟩
    go_wp2_with fail
    go_ret
    exact ⟨_, rfl, .inr ⟨rfl, none, 0, rfl, Nat.zero_le _⟩, k1⟩
  | true =>
    obtain ⟨g3, g40⟩ := valid_len hb
    rw [show canonR l = l.drop (low l) ++ l.take (low l) by unfold canonR; rw [hb]; rfl]
    obtain ⟨A, c, rfl⟩ := hv.shape
    have hlow := low_lt (l := l) (by omega)
    have hfst := low_first (l := l) (by omega)
    have cm := fun w1 (h : Nw w w1) => sMin_any l _ w1 (hv.nw h) (by omega) hl
    have ci := fun w1 (h : Nw w w1) => sIndex_any l _ (at_ l (low l)).1 (at_ l (low l)).2 w1 (hv.nw h) (low l) hlow rfl hfst hl
    generalize (at_ l (low l)).1 = mx at *
    generalize (at_ l (low l)).2 = my at *
    obtain ⟨k, hk⟩ : ∃ k, low l = k := ⟨_, rfl⟩
    rw [hk] at ci hlow ⊢
    obtain ⟨n, hn⟩ : ∃ n, l.length = n := ⟨_, rfl⟩
    replace hv := src_n hv hn
    rw [hn] at cv cm ci hlow g40 g3 ⊢
    obtain ⟨B1, d1, hr1, hs1, _⟩ := hv.cutl elemRing Try.underlying23 infoVec k (Nat.le_of_lt hlow)
    obtain ⟨B2, d2, hr2, hs2, _⟩ := hv.cuth elemRing Try.underlying23 infoVec k (Nat.le_of_lt hlow)
    rw [vdrop] at hs1
    rw [vtake] at hs2
    have hd1 : (l.drop k).length = n - k := by rw [List.length_drop, hn]
    have hd2 : (l.take k).length = k := by rw [List.length_take, hn]; omega
    have cc := fun w1 g (h : Nw w w1) => sConcat_any (l.drop k) (l.take k) (.slice B1 (n - k) d1) (.slice B2 k d2) w1 (by show Src _ 2 _ (l.drop k).length _; rw [hd1]; exact hs1.nw h) (by show Src _ 2 _ (l.take k).length _; rw [hd2]; exact hs2.nw h) (by rw [hd1]; omega) (by rw [hd2]; omega) g
    have HC := Lib.hid cc
    clear cc hs1 hs2 hd1 hd2 hfst hk hv hb hn hl
    go_enter Try.func35, Try.ntmps35
    go_wp2_with fail
    with_reducible refine cv.mono ?_
    rintro e w1 ⟨rfl, k1⟩
    go_wp2_with fail
    with_reducible refine (cm _ k1).mono ?_
    rintro e w2 ⟨rfl, k2⟩
    go_wp2_with fail
    with_reducible refine (ci _ (k1.tr k2)).mono ?_
    rintro e w3 ⟨rfl, k3⟩
    have HK3 := Lib.hid ((k1.tr k2).tr k3)
    clear k1 k2 k3 cm ci cv
    go_wp2_with fail
    go_region_with (go_at_call 47; ((with_reducible refine (HC.out _ _ ((by repeat (first | exact HK3.out | refine Kp.alloc ?_ _ | refine Kp.drew ?_))) (Blk.new _ _ _).drew).mono ?_); rintro e w5 ⟨v5, rfl, o5, k5⟩))
    all_goals (
      go_wp2_with fail
      go_ret
      exact ⟨_, rfl, by
        rcases o5 with ⟨kk, cap, h1, h2, h3⟩ | h
        · exact .inl ⟨kk, cap, h1, Nat.le_trans HK3.out.size (by simp at h2; omega), h3⟩
        · exact .inr h, (((by repeat (first | exact HK3.out | refine Kp.alloc ?_ _ | refine Kp.drew ?_)) : Nw w _)).tr k5⟩)

end Go.Proofs.Ythifljljaejfmaa.W
