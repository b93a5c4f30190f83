/-
  ring: slices.Equal, slices.Index and slices.MinFunc at rings, and Same of both sides. Condition: where it says so, the list is not longer than 2^40.
  ring: slices.MinFunc at rings by vec.Compare: the least point. Conditions: the list has a point, and is not longer than 2^40.
  ring: Canonical: what it returns. Condition: the list is not longer than 2^40.
  ring: WherePoint and Where: what they return. Condition: the list is not longer than 2^40.
-/
import Derived.Test.YtahamffngmdjfaaK14
import Derived.Test.YtahamffngmdjfaaK12
import Derived.Test.YtahamffngmdjfaaK16
import Derived.Test.YtahamffngmdjfaaK17
import Derived.Test.YtahamffngmdjfaaK23
import Derived.Deep.RegionWith
import Derived.Test.YtahamffngmdjfaaK24
import Derived.Test.YtahamffngmdjfaaK07
namespace Go.Proofs.Ytahamffngmdjfaa.W
open Go.RowKit Go.Proofs.Ytahamffngmdjfaa.V Go.Proofs.Ytahamffngmdjfaa.G


theorem list_ext_at {l m : List Pt} (h : l.length = m.length) (ha : ∀ j, j < l.length → at_ l j = at_ m j) : l = m := by
  apply List.ext_getElem?
  intro j
  rcases Nat.lt_or_ge j l.length with hj | hj
  · rw [at_some hj, at_some (by omega), ha j hj]
  · rw [List.getElem?_eq_none hj, List.getElem?_eq_none (by omega)]
theorem not_eq_at {l m : List Pt} {j : Nat} (h : at_ l j ≠ at_ m j) : decide (l = m) = false := decide_eq_false fun e => h (by rw [e])

set_option maxRecDepth 100000 in
set_option maxHeartbeats 6400000 in
theorem sEqual_any (l m : List (Int × Int)) (u v : Value) (w : World) (hu : SrcV w u l) (hv : SrcV w v m) : Calls Try.prog 132 #[u, v] w fun e w' => e = .returned (.bool (decide (l = m))) ∧ Nw w w' := by
  have hmix := mixed7
  obtain ⟨A, c, rfl⟩ := hu.shape
  obtain ⟨A2, c2, rfl⟩ := hv.shape
  obtain ⟨n, hn⟩ : ∃ n, l.length = n := ⟨_, rfl⟩
  obtain ⟨n2, hn2⟩ : ∃ n, m.length = n := ⟨_, rfl⟩
  replace hu := src_n hu hn
  replace hv := src_n hv hn2
  rw [hn, hn2]
  have HU := Lib.hid hu
  have HV := Lib.hid hv
  have hmx := src_max hu
  have HN := Lib.hid hn
  have HN2 := Lib.hid hn2
  obtain ⟨r, hr⟩ : ∃ r, decide (l = m) = r := ⟨_, rfl⟩
  rw [hr]
  have HR := Lib.hid hr
  clear hu hv hn hn2 hr
  by_cases hnn : n = n2
  case neg =>
    have f1 : ((n : Int) != (n2 : Int)) = true := by simp; omega
    have f2 : (n != n2) = true := by simp [hnn]
    have HD := Lib.hid hnn
    clear hnn
    go_enter Try.func132, Try.ntmps132
    go_wp2_with fail
    go_ret
    refine ⟨?_, Kp.refl _ _⟩
    show Ending.returned (.bool false) = _
    rw [← HR.out, decide_eq_false fun e => HD.out (by rw [← HN.out, ← HN2.out, e])]
  subst hnn
  go_enter Try.func132, Try.ntmps132
  go_wp2_with fail
  go_loopw [13] (fun i wr => ∃ k : Nat, i = .int .i64 k ∧ k ≤ n ∧ (∀ j, j < k → at_ l j = at_ m j) ∧ Nw w wr) (fun i _ => n - (intOf i).toNat)
  case atStart => exact ⟨0, rfl, Nat.zero_le _, fun j h => absurd h (Nat.not_lt_zero _), (by repeat (first | exact Kp.refl _ _ | refine Kp.alloc ?_ _ | refine Kp.drew ?_))⟩
  case round =>
    obtain ⟨k, rfl, hk, hall, hnw⟩ := hrel
    have HA := Lib.hid hall
    clear hall
    have HK := Lib.hid hnw
    clear hnw
    by_cases hkn : k < n
    · have i0 : (0 : Int) ≤ (k : Int) := by omega
      have i1 : (k : Int) < (n : Int) := by omega
      obtain ⟨s4, hs4⟩ : ∃ s : Nat, k + 1 = s := ⟨_, rfl⟩
      have a4 : IntKind.i64.wrap ((k : Int) + 1) = (s4 : Int) := by rw [IntKind.wrap_i64]; omega
      have H4 := Lib.hid hs4
      obtain ⟨g, o, rfl, hg, hc⟩ := src_at HU.out (by omega)
      obtain ⟨g2, o2, rfl, hg2, hc2⟩ := src_at HV.out (by omega)
      obtain ⟨⟨ax, ay⟩, ha⟩ : ∃ p, at_ l k = p := ⟨_, rfl⟩
      obtain ⟨⟨bx, bz⟩, hb⟩ : ∃ p, at_ m k = p := ⟨_, rfl⟩
      have hq := fun w1 => neq_vec ax ay bx bz w1
      have q0 := fun p : KeptW wr => (hc p.wd (HK.out.tr p.since) k hkn).1
      have q1 := fun p : KeptW wr => (hc p.wd (HK.out.tr p.since) k hkn).2
      have q2 := fun p : KeptW wr => (hc2 p.wd (HK.out.tr p.since) k hkn).1
      have q3 := fun p : KeptW wr => (hc2 p.wd (HK.out.tr p.since) k hkn).2
      rw [ha] at q0 q1
      rw [hb] at q2 q3
      have H1 := Lib.hid ha
      have H2 := Lib.hid hb
      clear hc hc2 hg hg2 ha hb hs4
      by_cases hab : (ax, ay) = (bx, bz)
      · rw [show (!(ax == bx && ay == bz)) = false by injection hab with e1 e2; simp [e1, e2]] at hq
        have HAB := Lib.hid hab
        clear hab
        go_wp2_with fail
        refine wp_region_kept (Kp.refl _ _) (by assumption) (by kernel_rfl) ?_
        repeat (with_reducible refine wpQuiet_step (fun K hK => ?_); go_simp; first | ((with_reducible refine hK _ ?_); clear hK K) | (with_reducible apply Exists.intro; (with_reducible refine ⟨fun _ => ?_, hK _ ?_⟩); (fail); clear hK K) | (simp only [undef, reduceCtorEq, if_false]; (with_reducible refine hK _ ?_); clear hK K))
        with_reducible refine wpQuiet_nil ?_
        rintro _ ⟨p, rfl⟩
        go_wp2_with fail
        go_roundw
        case rel =>
          refine ⟨k + 1, by rw [← H4.out], by omega, fun j hj => ?_, HK.out.tr p.since⟩
          rcases Nat.lt_or_ge j k with h | h
          · exact HA.out j h
          · obtain rfl : j = k := by omega
            rw [H1.out, H2.out, HAB.out]
        case measure => (have := H4.out; simp [intOf]; try omega)
      · rw [show (!(ax == bx && ay == bz)) = true by
          rw [Bool.not_eq_true', Bool.eq_false_iff]; intro e; apply hab; simp at e; rw [e.1, e.2]] at hq
        have HAB := Lib.hid hab
        clear hab
        go_wp2_with fail
        refine wp_region_kept (Kp.refl _ _) (by assumption) (by kernel_rfl) ?_
        repeat (with_reducible refine wpQuiet_step (fun K hK => ?_); go_simp; first | ((with_reducible refine hK _ ?_); clear hK K) | (with_reducible apply Exists.intro; (with_reducible refine ⟨fun _ => ?_, hK _ ?_⟩); (fail); clear hK K) | (simp only [undef, reduceCtorEq, if_false]; (with_reducible refine hK _ ?_); clear hK K))
        with_reducible refine wpQuiet_nil ?_
        rintro _ ⟨p, rfl⟩
        go_wp2_with fail
        go_ret
        refine ⟨?_, HK.out.tr p.since⟩
        show Ending.returned (.bool false) = _
        rw [← HR.out, not_eq_at (j := k) (by rw [H1.out, H2.out]; exact HAB.out)]
    · obtain rfl : k = n := by omega
      have i5 : ¬ ((k : Int) < (k : Int)) := by omega
      go_wp2_with fail
      go_ret
      refine ⟨?_, HK.out⟩
      show Ending.returned (.bool true) = _
      rw [← HR.out, decide_eq_true (list_ext_at (by rw [HN.out, HN2.out]) (by rw [HN.out]; exact HA.out))]

set_option maxRecDepth 100000 in
set_option maxHeartbeats 6400000 in
theorem rsame6_any (l m : List (Int × Int)) (u v : Value) (w : World) (hu : SrcV w u l) (hv : SrcV w v m) : Calls Try.prog 46 #[u, v] w fun e w' => e = .returned (.bool (decide (l = m))) ∧ Nw w w' := by
  have hmix := mixed7
  obtain ⟨A, c, rfl⟩ := hu.shape
  obtain ⟨A2, c2, rfl⟩ := hv.shape
  obtain ⟨n, hn⟩ : ∃ n, l.length = n := ⟨_, rfl⟩
  obtain ⟨n2, hn2⟩ : ∃ n, m.length = n := ⟨_, rfl⟩
  replace hu := src_n hu hn
  replace hv := src_n hv hn2
  rw [hn, hn2]
  have HU := Lib.hid hu
  have HV := Lib.hid hv
  have hmx := src_max hu
  have HN := Lib.hid hn
  have HN2 := Lib.hid hn2
  obtain ⟨r, hr⟩ : ∃ r, decide (l = m) = r := ⟨_, rfl⟩
  rw [hr]
  have HR := Lib.hid hr
  clear hu hv hn hn2 hr
  by_cases hnn : n = n2
  case neg =>
    have f1 : ((n : Int) != (n2 : Int)) = true := by simp; omega
    have f2 : (n != n2) = true := by simp [hnn]
    have HD := Lib.hid hnn
    clear hnn
    go_enter Try.func46, Try.ntmps46
    go_wp2_with fail
    go_ret
    refine ⟨?_, Kp.refl _ _⟩
    show Ending.returned (.bool false) = _
    rw [← HR.out, decide_eq_false fun e => HD.out (by rw [← HN.out, ← HN2.out, e])]
  subst hnn
  go_enter Try.func46, Try.ntmps46
  go_wp2_with fail
  go_loopw [5] (fun i wr => ∃ k : Nat, i = .int .i64 k ∧ k ≤ n ∧ (∀ j, j < k → at_ l j = at_ m j) ∧ Nw w wr) (fun i _ => n - (intOf i).toNat)
  case atStart => exact ⟨0, rfl, Nat.zero_le _, fun j h => absurd h (Nat.not_lt_zero _), (by repeat (first | exact Kp.refl _ _ | refine Kp.alloc ?_ _ | refine Kp.drew ?_))⟩
  case round =>
    obtain ⟨k, rfl, hk, hall, hnw⟩ := hrel
    have HA := Lib.hid hall
    clear hall
    have HK := Lib.hid hnw
    clear hnw
    by_cases hkn : k < n
    · have i0 : (0 : Int) ≤ (k : Int) := by omega
      have i1 : (k : Int) < (n : Int) := by omega
      obtain ⟨s4, hs4⟩ : ∃ s : Nat, k + 1 = s := ⟨_, rfl⟩
      have a4 : IntKind.i64.wrap ((k : Int) + 1) = (s4 : Int) := by rw [IntKind.wrap_i64]; omega
      have H4 := Lib.hid hs4
      obtain ⟨g, o, rfl, hg, hc⟩ := src_at HU.out (by omega)
      obtain ⟨g2, o2, rfl, hg2, hc2⟩ := src_at HV.out (by omega)
      obtain ⟨⟨ax, ay⟩, ha⟩ : ∃ p, at_ l k = p := ⟨_, rfl⟩
      obtain ⟨⟨bx, bz⟩, hb⟩ : ∃ p, at_ m k = p := ⟨_, rfl⟩
      have hq := fun w1 => neq_vec ax ay bx bz w1
      have q0 := fun p : KeptW wr => (hc p.wd (HK.out.tr p.since) k hkn).1
      have q1 := fun p : KeptW wr => (hc p.wd (HK.out.tr p.since) k hkn).2
      have q2 := fun p : KeptW wr => (hc2 p.wd (HK.out.tr p.since) k hkn).1
      have q3 := fun p : KeptW wr => (hc2 p.wd (HK.out.tr p.since) k hkn).2
      rw [ha] at q0 q1
      rw [hb] at q2 q3
      have H1 := Lib.hid ha
      have H2 := Lib.hid hb
      clear hc hc2 hg hg2 ha hb hs4
      by_cases hab : (ax, ay) = (bx, bz)
      · rw [show (!(ax == bx && ay == bz)) = false by injection hab with e1 e2; simp [e1, e2]] at hq
        have HAB := Lib.hid hab
        clear hab
        go_wp2_with fail
        refine wp_region_kept (Kp.refl _ _) (by assumption) (by kernel_rfl) ?_
        repeat (with_reducible refine wpQuiet_step (fun K hK => ?_); go_simp; first | ((with_reducible refine hK _ ?_); clear hK K) | (with_reducible apply Exists.intro; (with_reducible refine ⟨fun _ => ?_, hK _ ?_⟩); (fail); clear hK K) | (simp only [undef, reduceCtorEq, if_false]; (with_reducible refine hK _ ?_); clear hK K))
        with_reducible refine wpQuiet_nil ?_
        rintro _ ⟨p, rfl⟩
        go_wp2_with fail
        go_roundw
        case rel =>
          refine ⟨k + 1, by rw [← H4.out], by omega, fun j hj => ?_, HK.out.tr p.since⟩
          rcases Nat.lt_or_ge j k with h | h
          · exact HA.out j h
          · obtain rfl : j = k := by omega
            rw [H1.out, H2.out, HAB.out]
        case measure => (have := H4.out; simp [intOf]; try omega)
      · rw [show (!(ax == bx && ay == bz)) = true by
          rw [Bool.not_eq_true', Bool.eq_false_iff]; intro e; apply hab; simp at e; rw [e.1, e.2]] at hq
        have HAB := Lib.hid hab
        clear hab
        go_wp2_with fail
        refine wp_region_kept (Kp.refl _ _) (by assumption) (by kernel_rfl) ?_
        repeat (with_reducible refine wpQuiet_step (fun K hK => ?_); go_simp; first | ((with_reducible refine hK _ ?_); clear hK K) | (with_reducible apply Exists.intro; (with_reducible refine ⟨fun _ => ?_, hK _ ?_⟩); (fail); clear hK K) | (simp only [undef, reduceCtorEq, if_false]; (with_reducible refine hK _ ?_); clear hK K))
        with_reducible refine wpQuiet_nil ?_
        rintro _ ⟨p, rfl⟩
        go_wp2_with fail
        go_ret
        refine ⟨?_, HK.out.tr p.since⟩
        show Ending.returned (.bool false) = _
        rw [← HR.out, not_eq_at (j := k) (by rw [H1.out, H2.out]; exact HAB.out)]
    · obtain rfl : k = n := by omega
      have i5 : ¬ ((k : Int) < (k : Int)) := by omega
      go_wp2_with fail
      go_ret
      refine ⟨?_, HK.out⟩
      show Ending.returned (.bool true) = _
      rw [← HR.out, decide_eq_true (list_ext_at (by rw [HN.out, HN2.out]) (by rw [HN.out]; exact HA.out))]

set_option maxRecDepth 100000 in
set_option maxHeartbeats 3200000 in
theorem ringSame_any (l m : List (Int × Int)) (u v : Value) (w : World) (hu : SrcV w u l) (hv : SrcV w v m) : Calls Try.prog 89 #[u, v] w fun e w' => e = .returned (.bool (decide (l = m))) ∧ Nw w w' := by
  have cc := sEqual_any l m u v w hu hv
  clear hu hv
  go_enter Try.func89, Try.ntmps89
  go_wp2_with fail
  with_reducible refine cc.mono ?_
  rintro e w1 ⟨rfl, k1⟩
  go_wp2_with fail
  go_ret
  exact ⟨rfl, k1⟩

set_option maxRecDepth 100000 in
set_option maxHeartbeats 3200000 in
theorem rringSame_any (l m : List (Int × Int)) (u v : Value) (w : World) (hu : SrcV w u l) (hv : SrcV w v m) : Calls Try.prog 84 #[u, v] w fun e w' => e = .returned (.bool (decide (l = m))) ∧ Nw w w' := by
  have cc := rsame6_any l m u v w hu hv
  clear hu hv
  go_enter Try.func84, Try.ntmps84
  go_wp2_with fail
  with_reducible refine cc.mono ?_
  rintro e w1 ⟨rfl, k1⟩
  go_wp2_with fail
  go_ret
  exact ⟨rfl, k1⟩

set_option maxRecDepth 100000 in
set_option maxHeartbeats 6400000 in
theorem sIndex_any (l : List (Int × Int)) (v : Value) (ax ay : Int) (w : World) (hv : SrcV w v l) (q : Nat) (hq : q < l.length) (h1 : at_ l q = (ax, ay)) (h2 : ∀ j, j < q → at_ l j ≠ (ax, ay)) (hl : l.length ≤ 1099511627776) : Calls Try.prog 133 #[v, vV ax ay] w fun e w' => e = .returned (.int .i64 q) ∧ Nw w w' := by
  have hmix := mixed7
  obtain ⟨A, c, rfl⟩ := hv.shape
  obtain ⟨n, hn⟩ : ∃ n, l.length = n := ⟨_, rfl⟩
  replace hv := src_n hv hn
  rw [hn] at hl hq ⊢
  have HV := Lib.hid hv
  have HN := Lib.hid hn
  have hmx := src_max hv
  clear hv hn
  have HQ := Lib.hid (And.intro h1 h2)
  clear h1 h2
  have hb0 := Blk.new_at w 23 #[.int .i64 ax, .int .i64 ay] (n := w.heap.size) (by simp)
  have hk0 : ∀ p : KeptW (w.alloc (.cells #[.int .i64 ax, .int .i64 ay] 23)), Blk p.wd (w.heap.size) 23 #[.int .i64 ax, .int .i64 ay] := fun p => hb0.kept p
  have r0 := fun p => (hk0 p).cell 0
  have r1 := fun p => (hk0 p).cell 1
  skip
  clear hb0 hk0
  obtain ⟨w0, hw0⟩ : ∃ w0, w.alloc (.cells #[.int .i64 ax, .int .i64 ay] 23) = w0 := ⟨_, rfl⟩
  rw [hw0] at r0 r1
  have H0 := Lib.hid (show Nw w w0 by rw [← hw0]; exact nw_alloc _ _)
  have HR0 := Lib.hid r0
  have HR1 := Lib.hid r1
  clear r0 r1
  go_enter Try.func133, Try.ntmps133
  go_wp2_with fail
  clear hw0
  go_loopw [8] (fun i wr => ∃ k : Nat, i = .int .i64 k ∧ k ≤ q ∧ Nw w0 wr) (fun i _ => n - (intOf i).toNat)
  case atStart => exact ⟨0, rfl, Nat.zero_le _, (by repeat (first | exact Kp.refl _ _ | refine Kp.alloc ?_ _ | refine Kp.drew ?_))⟩
  case round =>
    obtain ⟨k, rfl, hk, hnw⟩ := hrel
    have hkn : k < n := by omega
    have HK := Lib.hid hnw
    clear hnw
    have i0 : (0 : Int) ≤ (k : Int) := by omega
    have i1 : (k : Int) < (n : Int) := by omega
    obtain ⟨s4, hs4⟩ : ∃ s : Nat, k + 1 = s := ⟨_, rfl⟩
    have a4 : IntKind.i64.wrap ((k : Int) + 1) = (s4 : Int) := by rw [IntKind.wrap_i64]; omega
    have H4 := Lib.hid hs4
    obtain ⟨g, o, rfl, hg, hc⟩ := src_at HV.out (by omega)
    obtain ⟨⟨bx, bz⟩, hb⟩ : ∃ p, at_ l k = p := ⟨_, rfl⟩
    have he := fun w1 => eql_vecg ax ay bx bz w1
    have q0 := fun p : KeptW wr => (hc p.wd ((H0.out.tr HK.out).tr p.since) k hkn).1
    have q1 := fun p : KeptW wr => (hc p.wd ((H0.out.tr HK.out).tr p.since) k hkn).2
    have q2 := fun p : KeptW wr => HR0.out ⟨p.wd, HK.out.tr p.since⟩
    have q3 := fun p : KeptW wr => HR1.out ⟨p.wd, HK.out.tr p.since⟩
    rw [hb] at q0 q1
    have H1 := Lib.hid hb
    clear hc hg hb hs4
    by_cases hab : (ax, ay) = (bx, bz)
    · rw [show (ax == bx && ay == bz) = true by injection hab with e1 e2; simp [e1, e2]] at he
      have HAB := Lib.hid hab
      clear hab
      go_wp2_with fail
      refine wp_region_kept (Kp.refl _ _) (by assumption) (by kernel_rfl) ?_
      repeat (with_reducible refine wpQuiet_step (fun K hK => ?_); go_simp; first | ((with_reducible refine hK _ ?_); clear hK K) | (with_reducible apply Exists.intro; (with_reducible refine ⟨fun _ => ?_, hK _ ?_⟩); (fail); clear hK K) | (simp only [undef, reduceCtorEq, if_false]; (with_reducible refine hK _ ?_); clear hK K))
      with_reducible refine wpQuiet_nil ?_
      rintro _ ⟨p, rfl⟩
      go_wp2_with fail
      go_ret
      refine ⟨?_, (H0.out.tr HK.out).tr p.since⟩
      obtain rfl : k = q := by
        rcases Nat.lt_or_eq_of_le hk with h | h
        · exact absurd (H1.out.trans HAB.out.symm) (HQ.out.2 k h)
        · exact h
      rfl
    · rw [show (ax == bx && ay == bz) = false by
        rw [Bool.eq_false_iff]; intro e; apply hab; simp at e; rw [e.1, e.2]] at he
      have HAB := Lib.hid hab
      clear hab
      go_wp2_with fail
      refine wp_region_kept (Kp.refl _ _) (by assumption) (by kernel_rfl) ?_
      repeat (with_reducible refine wpQuiet_step (fun K hK => ?_); go_simp; first | ((with_reducible refine hK _ ?_); clear hK K) | (with_reducible apply Exists.intro; (with_reducible refine ⟨fun _ => ?_, hK _ ?_⟩); (fail); clear hK K) | (simp only [undef, reduceCtorEq, if_false]; (with_reducible refine hK _ ?_); clear hK K))
      with_reducible refine wpQuiet_nil ?_
      rintro _ ⟨p, rfl⟩
      go_wp2_with fail
      go_roundw
      case rel =>
        refine ⟨k + 1, by rw [← H4.out], ?_, HK.out.tr p.since⟩
        rcases Nat.lt_or_eq_of_le hk with h | h
        · exact h
        · subst h
          exact absurd (HQ.out.1.symm.trans H1.out) HAB.out
      case measure => (have := H4.out; simp [intOf]; try omega)

end Go.Proofs.Ytahamffngmdjfaa.W

namespace Go.Proofs.Ytahamffngmdjfaa.W
open Go.RowKit Go.Proofs.Ytahamffngmdjfaa.V Go.Proofs.Ytahamffngmdjfaa.G


set_option maxRecDepth 100000 in
set_option maxHeartbeats 6400000 in
theorem sMin_any (l : List (Int × Int)) (v : Value) (w : World) (hv : SrcV w v l) (h0 : 0 < l.length) (hl : l.length ≤ 1099511627776) : Calls Try.prog 134 #[v, .func (.func 38) #[] #[]] w fun e w' => e = .returned (vV (at_ l (low l)).1 (at_ l (low l)).2) ∧ Nw w w' := by
  have hmix := mixed7
  obtain ⟨A, c, rfl⟩ := hv.shape
  obtain ⟨n, hn⟩ : ∃ n, l.length = n := ⟨_, rfl⟩
  replace hv := src_n hv hn
  rw [hn] at hl h0 ⊢
  have HV := Lib.hid hv
  have HN := Lib.hid hn
  have hmx := src_max hv
  clear hv hn
  obtain ⟨rx, hrx⟩ : ∃ x, (at_ l (low l)).1 = x := ⟨_, rfl⟩
  obtain ⟨ry, hry⟩ : ∃ x, (at_ l (low l)).2 = x := ⟨_, rfl⟩
  rw [hrx, hry]
  have HR := Lib.hid (And.intro hrx hry)
  clear hrx hry
  have f1 : ¬ ((n : Int) < 1) := by omega
  have f2 : ((0 : Int) < (n : Int)) := by omega
  obtain ⟨g, o, rfl, hg, hc⟩ := src_at HV.out h0
  have HC := Lib.hid hc
  have HG := Lib.hid hg
  obtain ⟨y0, y1⟩ := (hc (w.alloc (.cells #[.int .i64 0, .int .i64 0] 23)) (nw_alloc _ _) 0 h0)
  rw [Nat.zero_mul, Nat.add_zero] at y0 y1
  obtain ⟨⟨ax, ay⟩, ha⟩ : ∃ p, at_ l 0 = p := ⟨_, rfl⟩
  rw [ha] at y0 y1
  have H0 := Lib.hid ha
  clear hc hg ha
  go_enter Try.func134, Try.ntmps134
  go_wp2_with fail
  obtain ⟨W0, hW0⟩ : ∃ W, ((w.alloc (.cells #[.int .i64 0, .int .i64 0] 23)).alloc (.cells #[.int .i64 ax, .int .i64 ay] 23)) = W := ⟨_, rfl⟩
  rw [hW0]
  have HW0 := Lib.hid (show Nw w W0 by rw [← hW0]; exact (nw_alloc _ _).alloc _)
  have HM0 := Lib.hid (show Blk W0 (w.heap.size + 1) 23 #[.int .i64 ax, .int .i64 ay] by rw [← hW0]; exact Blk.new_at _ _ _ (by simp))
  have HZ0 := Lib.hid (show Blk W0 w.heap.size 23 #[.int .i64 0, .int .i64 0] by rw [← hW0]; exact (Blk.new _ _ _).alloc _)
  obtain ⟨M, hM⟩ : ∃ M, w.heap.size + 1 = M := ⟨_, rfl⟩
  obtain ⟨R, hR⟩ : ∃ M, w.heap.size = M := ⟨_, rfl⟩
  rw [hM] at HM0 ⊢
  rw [hR] at HZ0 ⊢
  have HMR := Lib.hid (show w.heap.size ≤ R ∧ w.heap.size ≤ M ∧ R ≠ M by omega)
  clear hW0 hM hR y0 y1 f1
  go_loopw [6] (fun i wr => ∃ k : Nat, i = .int .i64 k ∧ 1 ≤ k ∧ k ≤ n ∧ Blk wr M 23 #[.int .i64 (at_ l (lowTo l k)).1, .int .i64 (at_ l (lowTo l k)).2] ∧ Blk wr R 23 #[.int .i64 0, .int .i64 0] ∧ Nw w wr) (fun i _ => n - (intOf i).toNat)
  case atStart =>
    refine ⟨1, rfl, Nat.le_refl _, h0, ?_, HZ0.out, HW0.out⟩
    rw [lowTo_one, H0.out]
    exact HM0.out
  case round =>
    obtain ⟨k, rfl, hk1, hk, hm, hz, hnw⟩ := hrel
    obtain ⟨⟨mx, my⟩, hmm⟩ : ∃ p, at_ l (lowTo l k) = p := ⟨_, rfl⟩
    rw [hmm] at hm
    have HM := Lib.hid hm
    have HZ := Lib.hid hz
    have HMM := Lib.hid hmm
    clear hm hz hmm
    have HK := Lib.hid hnw
    clear hnw
    by_cases hkn : k < n
    · have i0 : (0 : Int) ≤ (k : Int) := by omega
      have i1 : (k : Int) < (n : Int) := by omega
      obtain ⟨s4, hs4⟩ : ∃ s : Nat, k + 1 = s := ⟨_, rfl⟩
      have a4 : IntKind.i64.wrap ((k : Int) + 1) = (s4 : Int) := by rw [IntKind.wrap_i64]; omega
      have H4 := Lib.hid hs4
      obtain ⟨⟨bx, bz⟩, hb⟩ : ∃ p, at_ l k = p := ⟨_, rfl⟩
      have q0 := fun p : KeptW wr => (HC.out p.wd (HK.out.tr p.since) k hkn).1
      have q1 := fun p : KeptW wr => (HC.out p.wd (HK.out.tr p.since) k hkn).2
      have q2 := fun p : KeptW wr => (HM.out.kept p).cell 0
      have q3 := fun p : KeptW wr => (HM.out.kept p).cell 1
      rw [hb] at q0 q1
      have HB := Lib.hid hb
      have cc := fun w1 => compare_nw bx bz mx my w1
      have hls : lessV bx bz mx my = decide (cmpV bx bz mx my < 0) := less_cmp _ _ _ _
      obtain ⟨r, hr⟩ : ∃ r, cmpV bx bz mx my = r := ⟨_, rfl⟩
      rw [hr] at cc hls
      have HLS := Lib.hid hls
      have hst : lowTo l (k + 1) = if lessV bx bz mx my then k else lowTo l k := by
        show (if lessV (at_ l k).1 (at_ l k).2 (at_ l (lowTo l k)).1 (at_ l (lowTo l k)).2 then k else lowTo l k) = _
        rw [hb, HMM.out]
      have HST := Lib.hid hst
      clear hs4 hb hr hls hst
      by_cases g0 : r < 0
      · have f0 : decide (r < 0) = true := decide_eq_true g0
        have HF := Lib.hid f0
        clear g0
        go_wp2_with fail
        refine wp_region_kept (Kp.refl _ _) (by assumption) (by kernel_rfl) ?_
        repeat (with_reducible refine wpQuiet_step (fun K hK => ?_); go_simp; first | ((with_reducible refine hK _ ?_); clear hK K) | (with_reducible apply Exists.intro; (with_reducible refine ⟨fun _ => ?_, hK _ ?_⟩); ((first | (go_at_call 38; with_reducible exact Calls.kept_of (cc _)) | fail)); clear hK K) | (simp only [undef, reduceCtorEq, if_false]; (with_reducible refine hK _ ?_); clear hK K))
        with_reducible refine wpQuiet_nil ?_
        rintro _ ⟨p, rfl⟩
        have z0 := q0 p
        have z1 := q1 p
        have HMP := Lib.hid (HM.out.kept p)
        have HZP := Lib.hid (HZ.out.kept p)
        have HKP := Lib.hid (HK.out.tr p.since)
        obtain ⟨m0, m1, fz0, fz1⟩ := HMP.out.two
        generalize p.wd = wp at z0 z1 HMP HZP HKP m0 m1 fz0 fz1 ⊢
        clear q0 q1 q2 q3
        go_wp2_with fail
        go_roundw
        case rel =>
          refine ⟨k + 1, by rw [← H4.out], by omega, by omega, ?_, ?_, ?_⟩
          · rw [HST.out, HLS.out, HF.out, if_pos rfl, HB.out]
            exact HMP.out.lay2 _ _
          · exact HZP.out.far2 HMR.out.2.2 _ _
          · exact HKP.out.new2 HMR.out.2.1 _ _
        case measure => (have := H4.out; simp [intOf]; try omega)
      · have f0 : decide (r < 0) = false := decide_eq_false g0
        have HF := Lib.hid f0
        clear g0
        go_wp2_with fail
        refine wp_region_kept (Kp.refl _ _) (by assumption) (by kernel_rfl) ?_
        repeat (with_reducible refine wpQuiet_step (fun K hK => ?_); go_simp; first | ((with_reducible refine hK _ ?_); clear hK K) | (with_reducible apply Exists.intro; (with_reducible refine ⟨fun _ => ?_, hK _ ?_⟩); ((first | (go_at_call 38; with_reducible exact Calls.kept_of (cc _)) | fail)); clear hK K) | (simp only [undef, reduceCtorEq, if_false]; (with_reducible refine hK _ ?_); clear hK K))
        with_reducible refine wpQuiet_nil ?_
        rintro _ ⟨p, rfl⟩
        go_wp2_with fail
        go_roundw
        case rel =>
          refine ⟨k + 1, by rw [← H4.out], by omega, by omega, ?_, HZ.out.kept p, HK.out.tr p.since⟩
          rw [HST.out, HLS.out, HF.out, if_neg (by simp), HMM.out]
          exact HM.out.kept p
        case measure => (have := H4.out; simp [intOf]; try omega)
    · obtain rfl : k = n := by omega
      have i5 : ¬ ((k : Int) < (k : Int)) := by omega
      obtain ⟨z0, z1, fz0, fz1⟩ := HM.out.two
      obtain ⟨y0, y1, gz0, gz1⟩ := HZ.out.two
      go_wp2_with fail
      have hl2 := HZ.out.lay2 (.int .i64 mx) (.int .i64 my)
      have x0 := hl2.cell 0
      have x1 := hl2.cell 1
      have hrr : mx = rx ∧ my = ry := by
        have h := HMM.out
        rw [show lowTo l k = low l by unfold low; rw [HN.out]] at h
        have h2 := HR.out
        rw [h] at h2
        exact h2
      exact bodyPost_ret (v := vV mx my) (by simp [results, Try.results134, go_sem, x0, x1]) rfl ⟨by rw [hrr.1, hrr.2], HK.out.new2 HMR.out.1 _ _⟩

end Go.Proofs.Ytahamffngmdjfaa.W

namespace Go.Proofs.Ytahamffngmdjfaa.W
open Go.RowKit Go.Proofs.Ytahamffngmdjfaa.V Go.Proofs.Ytahamffngmdjfaa.G


theorem elemRing : Try.prog.elem 74 = 23 := by kernel_rfl
theorem vdrop (l : List (Int × Int)) (k : Nat) : (l.flatMap vC).drop (k * 2) = (l.drop k).flatMap vC := flat_drop (f := vC) (fun _ => rfl) l k
theorem vtake (l : List (Int × Int)) (k : Nat) : (l.flatMap vC).take (k * 2) = (l.take k).flatMap vC := flat_take (f := vC) (fun _ => rfl) l k
theorem valid_len {l : List Pt} (h : validR l = true) : 3 ≤ l.length ∧ l.length ≤ 40 := by
  unfold validR at h
  simp only [Bool.and_eq_true, decide_eq_true_eq] at h
  exact ⟨h.1.1.1.1.1, h.1.1.1.1.2⟩
theorem low_lt {l : List Pt} (h : 0 < l.length) : low l < l.length := lowTo_lt h
theorem low_first {l : List Pt} (h : 0 < l.length) : ∀ j, j < low l → at_ l j ≠ at_ l (low l) := fun j hj e => by
  have := (lowTo_is (l := l) (k := l.length) j (by have := low_lt h; omega)).2 hj
  rw [show lowTo l l.length = low l from rfl, e] at this
  exact ltV_irrefl _ this

set_option maxRecDepth 100000 in
set_option maxHeartbeats 6400000 in
theorem canon_any (l : List (Int × Int)) (v : Value) (w : World) (hv : SrcV w v l) (hl : l.length ≤ 1099511627776) : Calls Try.prog 90 #[v] w fun e w' => ∃ v', e = .returned v' ∧ OwnL w w' v' (canonR l) ∧ Nw w w' := by
  have hmix := mixed7
  have cv := ringValid_any l v w hv hl
  obtain ⟨b, hb⟩ : ∃ b, validR l = b := ⟨_, rfl⟩
  rw [hb] at cv
  cases b with
  | false =>
    rw [show canonR l = [] by unfold canonR; rw [hb]; rfl]
    clear hv hb
    go_enter Try.func90, Try.ntmps90
    go_wp2_with fail
    with_reducible refine cv.mono ?_
    rintro e w1 ⟨rfl, k1⟩
    go_wp2_with fail
    go_ret
    exact ⟨_, rfl, .inr ⟨rfl, none, 0, rfl, Nat.zero_le _⟩, k1⟩
  | true =>
    obtain ⟨g3, g40⟩ := valid_len hb
    rw [show canonR l = l.drop (low l) ++ l.take (low l) by unfold canonR; rw [hb]; rfl]
    obtain ⟨A, c, rfl⟩ := hv.shape
    have hlow := low_lt (l := l) (by omega)
    have hfst := low_first (l := l) (by omega)
    have cm := fun w1 (h : Nw w w1) => sMin_any l _ w1 (hv.nw h) (by omega) hl
    have ci := fun w1 (h : Nw w w1) => sIndex_any l _ (at_ l (low l)).1 (at_ l (low l)).2 w1 (hv.nw h) (low l) hlow rfl hfst hl
    generalize (at_ l (low l)).1 = mx at *
    generalize (at_ l (low l)).2 = my at *
    obtain ⟨k, hk⟩ : ∃ k, low l = k := ⟨_, rfl⟩
    rw [hk] at ci hlow ⊢
    obtain ⟨n, hn⟩ : ∃ n, l.length = n := ⟨_, rfl⟩
    replace hv := src_n hv hn
    rw [hn] at cv cm ci hlow g40 g3 ⊢
    obtain ⟨B1, d1, hr1, hs1, _⟩ := hv.cutl elemRing Try.underlying74 infoVec k (Nat.le_of_lt hlow)
    obtain ⟨B2, d2, hr2, hs2, _⟩ := hv.cuth elemRing Try.underlying74 infoVec k (Nat.le_of_lt hlow)
    rw [vdrop] at hs1
    rw [vtake] at hs2
    have hd1 : (l.drop k).length = n - k := by rw [List.length_drop, hn]
    have hd2 : (l.take k).length = k := by rw [List.length_take, hn]; omega
    have cc := fun w1 g (h : Nw w w1) => sConcat_any (l.drop k) (l.take k) (.slice B1 (n - k) d1) (.slice B2 k d2) w1 (by show Src _ 2 _ (l.drop k).length _; rw [hd1]; exact hs1.nw h) (by show Src _ 2 _ (l.take k).length _; rw [hd2]; exact hs2.nw h) (by rw [hd1]; omega) (by rw [hd2]; omega) g
    have HC := Lib.hid cc
    clear cc hs1 hs2 hd1 hd2 hfst hk hv hb hn hl
    go_enter Try.func90, Try.ntmps90
    go_wp2_with fail
    with_reducible refine cv.mono ?_
    rintro e w1 ⟨rfl, k1⟩
    go_wp2_with fail
    with_reducible refine (cm _ k1).mono ?_
    rintro e w2 ⟨rfl, k2⟩
    go_wp2_with fail
    with_reducible refine (ci _ (k1.tr k2)).mono ?_
    rintro e w3 ⟨rfl, k3⟩
    have HK3 := Lib.hid ((k1.tr k2).tr k3)
    clear k1 k2 k3 cm ci cv
    go_wp2_with fail
    go_region_with (go_at_call 135; ((with_reducible refine (HC.out _ _ ((by repeat (first | exact HK3.out | refine Kp.alloc ?_ _ | refine Kp.drew ?_))) (Blk.new _ _ _).drew).mono ?_); rintro e w5 ⟨v5, rfl, o5, k5⟩))
    all_goals (
      go_wp2_with fail
      go_ret
      exact ⟨_, rfl, by
        rcases o5 with ⟨kk, cap, h1, h2, h3⟩ | h
        · exact .inl ⟨kk, cap, h1, Nat.le_trans HK3.out.size (by simp at h2; omega), h3⟩
        · exact .inr h, (((by repeat (first | exact HK3.out | refine Kp.alloc ?_ _ | refine Kp.drew ?_)) : Nw w _)).tr k5⟩)

end Go.Proofs.Ytahamffngmdjfaa.W

namespace Go.Proofs.Ytahamffngmdjfaa.W
open Go.RowKit Go.Proofs.Ytahamffngmdjfaa.V Go.Proofs.Ytahamffngmdjfaa.G


theorem anyOn_snoc (l : List Ed) (e : Ed) (x y d : Int) : anyOn (l ++ [e]) x y d = (anyOn l x y d || onP e x y d) := by unfold anyOn; simp
theorem countP_snoc (l : List Ed) (e : Ed) (x y d : Int) : ((countP (l ++ [e]) x y d : Nat) : Int) = (countP l x y d : Int) + if crossesP e x y d then 1 else 0 := by
  unfold countP
  rw [List.filter_append, List.length_append]
  cases h : crossesP e x y d <;> simp [h]
theorem countP_le (l : List Ed) (x y d : Int) : countP l x y d ≤ l.length := List.length_filter_le _ _
theorem edge_ok {l : List Pt} (hw : allW l = true) {i : Nat} (hi : i < l.length) : wOk (edgeP l i).1 = true ∧ wOk (edgeP l i).2 = true :=
  ⟨allTo_iff.1 hw i hi, allTo_iff.1 hw _ (Nat.mod_lt _ (by omega))⟩
theorem valid_w {l : List Pt} (h : validR l = true) : allW l = true := by
  unfold validR at h
  simp only [Bool.and_eq_true] at h
  exact h.1.1.1.2

set_option maxRecDepth 100000 in
set_option maxHeartbeats 12800000 in
theorem wherePoint_any (l : List (Int × Int)) (v : Value) (x y d : Int) (w : World) (hv : SrcV w v l) (hl : l.length ≤ 1099511627776) : Calls Try.prog 78 #[v, pV x y d] w fun e w' => e = .returned (.int .i64 (whereR l x y d)) ∧ Nw w w' := by
  have hmix := mixed7
  have cv := fun w1 (h : Nw w w1) => ringValid_any l v w1 (hv.nw h) hl
  have cp := fun w1 => validPoint_any x y d w1
  have ce := fun w1 (h : Nw w w1) => edges_any l v w1 (hv.nw h) hl
  obtain ⟨w0, hw0⟩ : ∃ w0, w.alloc (.cells #[.int .i64 x, .int .i64 y, .int .i64 d] 50) = w0 := ⟨_, rfl⟩
  have HW0 := Lib.hid (show Nw w w0 by rw [← hw0]; exact nw_alloc _ _)
  have HP0 := Lib.hid (show Blk w0 w.heap.size 50 #[.int .i64 x, .int .i64 y, .int .i64 d] by rw [← hw0]; exact Blk.new _ _ _)
  obtain ⟨PP, hPP⟩ : ∃ E, w.heap.size = E := ⟨_, rfl⟩
  rw [hPP] at HP0
  obtain ⟨b1, hb1⟩ : ∃ b, validR l = b := ⟨_, rfl⟩
  obtain ⟨b2, hb2⟩ : ∃ b, validP x y d = b := ⟨_, rfl⟩
  rw [hb1] at cv
  rw [hb2] at cp
  cases b1 with
  | false =>
    rw [show whereR l x y d = 0 by unfold whereR; rw [hb1]; rfl]
    clear hv hb1 hb2 ce cp
    go_enter Try.func78, Try.ntmps78
    go_wp2_with fail
    with_reducible refine (cv _ HW0.out).mono ?_
    rintro e w1 ⟨rfl, k1⟩
    go_wp2_with fail
    go_ret
    exact ⟨rfl, HW0.out.tr k1⟩
  | true =>
    cases b2 with
    | false =>
      rw [show whereR l x y d = 0 by unfold whereR; rw [hb1, hb2]; rfl]
      clear hv hb1 hb2 ce
      go_enter Try.func78, Try.ntmps78
      go_wp2_with fail
      with_reducible refine (cv _ HW0.out).mono ?_
      rintro e w1 ⟨rfl, k1⟩
      obtain ⟨y0, y1, y2, -⟩ := (HP0.out.kp k1 id).three
      go_wp2_with fail
      with_reducible refine (cp _).mono ?_
      rintro e w2 ⟨rfl, k2⟩
      go_wp2_with fail
      go_ret
      exact ⟨rfl, (HW0.out.tr k1).tr k2⟩
    | true =>
      have hR : whereR l x y d = if anyOn (edgesP l) x y d then 1 else if countP (edgesP l) x y d % 2 = 1 then 2 else 0 := by unfold whereR; rw [hb1, hb2]; rfl
      obtain ⟨r, hr⟩ : ∃ r, whereR l x y d = r := ⟨_, rfl⟩
      rw [hr]
      rw [hr] at hR
      have HR := Lib.hid hR
      obtain ⟨g3, g40⟩ := valid_len hb1
      have HOK := Lib.hid (valid_w hb1)
      have HPT := Lib.hid (pt_ok hb2)
      have hel : (edgesP l).length = l.length := by rw [edges_len, if_neg (by omega)]
      have HEA := Lib.hid (show ∀ k, k < l.length → (edgesP l)[k]? = some (edgeP l k) from fun k hk => edges_at (by omega) hk)
      clear hv hb1 hb2 hR hr
      go_enter Try.func78, Try.ntmps78
      go_wp2_with fail
      with_reducible refine (cv _ HW0.out).mono ?_
      rintro e w1 ⟨rfl, k1⟩
      obtain ⟨y0, y1, y2, -⟩ := (HP0.out.kp k1 id).three
      go_wp2_with fail
      with_reducible refine (cp _).mono ?_
      rintro e w2 ⟨rfl, k2⟩
      have HW2 := Lib.hid ((HW0.out.tr k1).tr k2)
      have HP2 := Lib.hid ((HP0.out.kp k1 id).kp k2 id)
      obtain ⟨y0, y1, y2, -⟩ := HP2.out.three
      clear k1 k2 cv cp
      go_wp2_with fail
      obtain ⟨w3, hw3⟩ : ∃ W, (((w2.alloc (.cells #[.int .i64 x, .int .i64 y] 23)).alloc (.cells #[.int .i64 0] 3)).alloc (.cells #[.bool false] 4)) = W := ⟨_, rfl⟩
      rw [hw3]
      have HW3 := Lib.hid (show Nw w w3 by rw [← hw3]; exact ((HW2.out.alloc _).alloc _).alloc _)
      have HS3 := Lib.hid (show Blk w3 PP 50 #[.int .i64 x, .int .i64 y, .int .i64 d] ∧ Blk w3 w2.heap.size 23 #[.int .i64 x, .int .i64 y] by rw [← hw3]; exact ⟨((HP2.out.alloc _).alloc _).alloc _, ((Blk.new _ _ _).alloc _).alloc _⟩)
      have HC3 := Lib.hid (show Blk w3 (w2.heap.size + 1) 3 #[.int .i64 0] by rw [← hw3]; exact (Blk.new_at _ _ _ (by simp)).alloc _)
      have HO3 := Lib.hid (show Blk w3 (w2.heap.size + 1 + 1) 4 #[.bool false] by rw [← hw3]; exact Blk.new_at _ _ _ (by simp))
      have HSZ := Lib.hid (show w.heap.size ≤ w2.heap.size from HW2.out.size)
      obtain ⟨SS, hSS⟩ : ∃ s, w2.heap.size = s := ⟨_, rfl⟩
      rw [hSS] at HS3 HC3 HO3 HSZ ⊢
      obtain ⟨CC, hCC⟩ : ∃ s, SS + 1 = s := ⟨_, rfl⟩
      rw [hCC] at HC3 HO3 ⊢
      obtain ⟨OO, hOO⟩ : ∃ s, CC + 1 = s := ⟨_, rfl⟩
      rw [hOO] at HO3 ⊢
      have HLE := Lib.hid (show w.heap.size ≤ CC ∧ w.heap.size ≤ OO by have := HSZ.out; omega)
      clear hw3 hSS hCC hOO HW2 HP2 y0 y1 y2 hw0 hPP HP0 HW0 HSZ
      with_reducible refine (ce _ HW3.out).mono ?_
      rintro e w4 ⟨v4, rfl, hs4, k4⟩
      obtain ⟨A4, c4, rfl⟩ := hs4.shape
      obtain ⟨n, hn⟩ : ∃ n, l.length = n := ⟨_, rfl⟩
      rw [hn] at hel hl g3 g40 HEA
      obtain ⟨g, o, rfl, hg, hcE⟩ := srcE_at hs4 (by rw [hel]; omega)
      rw [hel]
      have hmx : c4 ≤ 9223372036854775807 ∧ n ≤ c4 := by
        obtain ⟨_, A', c', e, h1, h2, _⟩ := hs4
        injection e with _ _ e3
        subst e3
        unfold maxLen at h2
        rw [hel] at h1
        omega
      have HCE := Lib.hid hcE
      have HK4 := Lib.hid k4
      have HN := Lib.hid hn
      have HSM := Lib.hid hg
      obtain ⟨L, hL⟩ : ∃ L, edgesP l = L := ⟨_, rfl⟩
      rw [hL] at HCE HEA HR hel
      have HEL := Lib.hid hel
      clear hs4 k4 hcE hn ce hL hel hg
      have HST := Lib.hid (show ∀ w', Kp (fun k => k = OO ∨ k = CC) w4 w' → ∀ k e, L[k]? = some e → w'.cell? ⟨g, o + k * 4, none⟩ = some (.int .i64 e.1.1) ∧ w'.cell? ⟨g, o + k * 4 + 1, none⟩ = some (.int .i64 e.1.2) ∧ w'.cell? ⟨g, o + k * 4 + 2, none⟩ = some (.int .i64 e.2.1) ∧ w'.cell? ⟨g, o + k * 4 + 3, none⟩ = some (.int .i64 e.2.2) from fun w' h k e he => by
        obtain ⟨z0, z1, z2, z3⟩ := HCE.out w4 (Kp.refl _ _) k e he
        have n1 : g ≠ OO := by
          rintro rfl
          rw [(HO3.out.kp HK4.out id).cell] at z1
          simp at z1
        have n2 : g ≠ CC := by
          rintro rfl
          rw [(HC3.out.kp HK4.out id).cell] at z1
          simp at z1
        have hS : ¬ (g = OO ∨ g = CC) := by rintro (h | h); exact n1 h; exact n2 h
        exact ⟨(h.cell (p := ⟨g, o + k * 4, none⟩) HSM.out hS).trans z0, (h.cell (p := ⟨g, o + k * 4 + 1, none⟩) HSM.out hS).trans z1, (h.cell (p := ⟨g, o + k * 4 + 2, none⟩) HSM.out hS).trans z2, (h.cell (p := ⟨g, o + k * 4 + 3, none⟩) HSM.out hS).trans z3⟩)
      have HPS := Lib.hid (show ∀ w', Kp (fun k => k = OO ∨ k = CC) w4 w' → Blk w' PP 50 #[.int .i64 x, .int .i64 y, .int .i64 d] ∧ Blk w' SS 23 #[.int .i64 x, .int .i64 y] from fun w' h => by
        have e1 := (HS3.out.1).kp HK4.out id
        have e2 := (HS3.out.2).kp HK4.out id
        have o1 := HO3.out.kp HK4.out id
        have o2 := HC3.out.kp HK4.out id
        exact ⟨e1.kp h (by rintro (r | r) <;> subst r; exact Blk.ne_ e1 o1 (by decide) rfl; exact Blk.ne_ e1 o2 (by decide) rfl), e2.kp h (by rintro (r | r) <;> subst r; exact Blk.ne_ e2 o1 (by decide) rfl; exact Blk.ne_ e2 o2 (by decide) rfl)⟩)
      go_wp2_with fail
      go_loopw [28] (fun i wr => ∃ k : Nat, i = .int .i64 k ∧ k ≤ n ∧ Kp (fun k => k = OO ∨ k = CC) w4 wr ∧ Blk wr OO 4 #[.bool (anyOn (L.take k) x y d)] ∧ Blk wr CC 3 #[.int .i64 (countP (L.take k) x y d : Nat)]) (fun i _ => n - (intOf i).toNat)
      case atStart => exact ⟨0, rfl, Nat.zero_le _, (by repeat (first | exact Kp.refl _ _ | refine Kp.alloc ?_ _ | refine Kp.drew ?_)), HO3.out.kp HK4.out id, HC3.out.kp HK4.out id⟩
      case round =>
        obtain ⟨k, rfl, hk, hkp, hbo, hbc⟩ := hrel
        have HKP := Lib.hid hkp
        have HBO := Lib.hid hbo
        have HBC := Lib.hid hbc
        clear hkp hbo hbc
        by_cases hkn : k < n
        · have i0 : (0 : Int) ≤ (k : Int) := by omega
          have i1 : (k : Int) < (n : Int) := by omega
          obtain ⟨s4, hs4⟩ : ∃ s : Nat, k + 1 = s := ⟨_, rfl⟩
          have a4 : IntKind.i64.wrap ((k : Int) + 1) = (s4 : Int) := by rw [IntKind.wrap_i64]; omega
          have H4 := Lib.hid hs4
          obtain ⟨⟨⟨ax, ay⟩, ⟨bx, bz⟩⟩, he⟩ : ∃ e, edgeP l k = e := ⟨_, rfl⟩
          have hLk := HEA.out k hkn
          rw [he] at hLk
          obtain ⟨y0, y1, y2, y3⟩ := HST.out wr HKP.out k _ hLk
          have hok := edge_ok HOK.out (i := k) (by rw [HN.out]; exact hkn)
          rw [he] at hok
          have htk : L.take (k + 1) = L.take k ++ [((ax, ay), (bx, bz))] := by rw [List.take_add_one, hLk]; rfl
          have HTK := Lib.hid htk
          have HOE := Lib.hid hok
          have hcb : countP (L.take k) x y d ≤ 1000 := by have := countP_le (L.take k) x y d; rw [List.length_take, HEL.out] at this; omega
          clear hs4 he hLk hok htk
          go_upto_region 9 with fail
          generalize hwb : World.alloc _ (.cells #[.int .i64 ax, .int .i64 ay, .int .i64 bx, .int .i64 bz] _) = wb
          obtain ⟨c0, c1, c2, c3, -⟩ := Blk.four (show Blk wb wr.heap.size 48 #[.int .i64 ax, .int .i64 ay, .int .i64 bx, .int .i64 bz] by rw [← hwb]; exact Blk.new _ _ _)
          have HKB := Lib.hid (show Kp (fun k => k = OO ∨ k = CC) w4 wb by rw [← hwb]; exact HKP.out.alloc _)
          have b3 : Blk wb OO 4 #[.bool (anyOn (L.take k) x y d)] := by rw [← hwb]; exact HBO.out.alloc _
          have b4 : Blk wb CC 3 #[.int .i64 (countP (L.take k) x y d : Nat)] := by rw [← hwb]; exact HBC.out.alloc _
          have hps := HPS.out wb HKB.out
          have cf := closure_any ax ay bx bz x y d HOE.out.1 HOE.out.2 HPT.out PP SS OO CC _ _ ⟨by omega, by omega⟩ wb hps.1 hps.2 b3 b4
          clear hwb y0 y1 y2 y3 b3 b4 hps
          go_wp2_with fail
          with_reducible refine cf.mono ?_
          rintro e w5 ⟨rfl, k5, bo5, bc5⟩
          rw [← anyOn_snoc, ← HTK.out] at bo5
          rw [← countP_snoc, ← HTK.out] at bc5
          have HK5 := Lib.hid (HKB.out.tr k5)
          have HB5 := Lib.hid (And.intro bo5 bc5)
          clear cf k5 bo5 bc5 c0 c1 c2 c3
          go_wp2_with fail
          go_roundw
          case rel => exact ⟨k + 1, by rw [← H4.out], by omega, HK5.out, HB5.out.1, HB5.out.2⟩
          case measure => (have := H4.out; simp [intOf]; try omega)
        · obtain rfl : k = n := by omega
          have i5 : ¬ ((k : Int) < (k : Int)) := by omega
          have htl : L.take k = L := List.take_of_length_le (by rw [HEL.out]; exact Nat.le_refl _)
          rw [htl] at HBO HBC
          have hfin := HW3.out.tr HK4.out
          have HFIN := Lib.hid (show Nw w wr from Kp.own hfin HKP.out fun i hi => by rcases hi with rfl | rfl; exact HLE.out.2; exact HLE.out.1)
          obtain ⟨z0, -⟩ := HBO.out.one
          obtain ⟨z1, -⟩ := HBC.out.one
          obtain ⟨ao, hao⟩ : ∃ a, anyOn L x y d = a := ⟨_, rfl⟩
          obtain ⟨cn, hcn⟩ : ∃ c, countP L x y d = c := ⟨_, rfl⟩
          rw [hao] at z0 HR
          rw [hcn] at z1 HR
          have a2 : IntKind.i64.wrap ((cn : Int).tmod 2) = ((cn % 2 : Nat) : Int) := by rw [show (2 : Int) = ((2 : Nat) : Int) from rfl, tmod_nat, IntKind.wrap_i64]; omega
          have a3 : (cn : Int).tmod 2 = ((cn % 2 : Nat) : Int) := by rw [show (2 : Int) = ((2 : Nat) : Int) from rfl, tmod_nat]
          obtain ⟨q, hq⟩ : ∃ q, cn % 2 = q := ⟨_, rfl⟩
          rw [hq] at a2 a3 HR
          have hqr : q = 0 ∨ q = 1 := by omega
          clear htl hao hcn hfin hq HBO HBC
          cases ao
          · rcases hqr with rfl | rfl
            · go_wp2_with fail
              go_ret
              refine ⟨?_, HFIN.out⟩
              rw [HR.out]
              rfl
            · go_wp2_with fail
              go_ret
              refine ⟨?_, HFIN.out⟩
              rw [HR.out]
              rfl
          · go_wp2_with fail
            go_ret
            refine ⟨?_, HFIN.out⟩
            rw [HR.out]
            rfl

set_option maxRecDepth 100000 in
set_option maxHeartbeats 3200000 in
theorem where_any (l : List (Int × Int)) (v : Value) (x y : Int) (w : World) (hv : SrcV w v l) (hl : l.length ≤ 1099511627776) : Calls Try.prog 76 #[v, vV x y] w fun e w' => e = .returned (.int .i64 (whereR l x y 1)) ∧ Nw w w' := by
  have c1 := fun w1 => pointOf_any x y w1
  have c2 := fun w1 (h : Nw w w1) => wherePoint_any l v x y 1 w1 (hv.nw h) hl
  clear hv
  go_enter Try.func76, Try.ntmps76
  go_wp2_with fail
  with_reducible refine (c1 _).mono ?_
  rintro e w1 ⟨rfl, k1⟩
  have h1 := (nw_alloc w (.cells #[.int .i64 x, .int .i64 y] 23)).tr k1
  go_wp2_with fail
  with_reducible refine (c2 _ h1).mono ?_
  rintro e w2 ⟨rfl, k2⟩
  go_wp2_with fail
  go_ret
  exact ⟨rfl, h1.tr k2⟩

end Go.Proofs.Ytahamffngmdjfaa.W
