/-
  ring: the reference's Canonical, Area2 and Convex: they return what the program's do. Condition: the list is not longer than 2^40.
  symmetry, plain: a mapped point lies where the point lies; rings are mapped back by the inverse; the mapped ring is convex exactly if the ring is. No condition but those that stand.
  SymmetryGroup: the call returns true. Conditions: the table of the quarter turns; bytes; coordinates that an int holds.
  SymmetryPlaces: the call returns true. Conditions: the table of the quarter turns; a byte; coordinates that an int holds.
-/
import Derived.Test.YtahamffngmdjfaaDoorK21
import Derived.Test.YtahamffngmdjfaaDoorK25
import Derived.Test.YtahamffngmdjfaaDoorK26
import Derived.Test.YtahamffngmdjfaaDoorK07
import Derived.Test.YtahamffngmdjfaaDoorK08
import Derived.LoopN
import Derived.Test.YtahamffngmdjfaaDoorK31
import Derived.Test.YtahamffngmdjfaaDoorK15
import Derived.Deep.RegionHeld3
namespace Go.Proofs.YtahamffngmdjfaaDoor.W
open Go.RowKit Go.Proofs.YtahamffngmdjfaaDoor.V Go.Proofs.YtahamffngmdjfaaDoor.G


set_option maxRecDepth 100000 in
set_option maxHeartbeats 3200000 in
theorem rarea2_any (l : List (Int × Int)) (v : Value) (w : World) (hv : SrcV w v l) (hl : l.length ≤ 1099511627776) : Calls Tryd.prog 37 #[v] w fun e w' => e = .returned (.int .i64 (area2R l)) ∧ Nw w w' := by
  have cv := fun w1 (h : Nw w w1) => rvalid8_any l v w1 (hv.nw h) hl
  have ca := fun w1 (h : Nw w w1) => rsigned_any l v w1 (hv.nw h) hl
  clear hv hl
  obtain ⟨r, hr⟩ : ∃ r, area2R l = r := ⟨_, rfl⟩
  rw [hr]
  unfold area2R at hr
  generalize validR l = b at *
  generalize areaP l = a at *
  have HR := Lib.hid hr
  clear hr
  cases b
  · go_enter Tryd.func37, Tryd.ntmps37
    go_wp2_with fail
    with_reducible refine (cv _ (Kp.refl _ _)).mono ?_
    rintro e w1 ⟨rfl, k1⟩
    go_wp2_with fail
    go_ret
    exact ⟨by rw [← HR.out]; rfl, k1⟩
  · go_enter Tryd.func37, Tryd.ntmps37
    go_wp2_with fail
    with_reducible refine (cv _ (Kp.refl _ _)).mono ?_
    rintro e w1 ⟨rfl, k1⟩
    go_wp2_with fail
    with_reducible refine (ca _ k1).mono ?_
    rintro e w2 ⟨rfl, k2⟩
    go_wp2_with fail
    go_ret
    exact ⟨by rw [← HR.out]; rfl, k1.tr k2⟩

set_option maxRecDepth 100000 in
set_option maxHeartbeats 3200000 in
theorem rcanon_any (l : List (Int × Int)) (v : Value) (w : World) (hv : SrcV w v l) (hl : l.length ≤ 1099511627776) : Calls Tryd.prog 36 #[v] w fun e w' => ∃ v', e = .returned v' ∧ SrcV w' v' (canonR l) ∧ Nw w w' := by
  have cv := fun w1 (h : Nw w w1) => rvalid8_any l v w1 (hv.nw h) hl
  obtain ⟨b, hb⟩ : ∃ b, validR l = b := ⟨_, rfl⟩
  rw [hb] at cv
  cases b
  · rw [show canonR l = [] by unfold canonR; rw [hb]; rfl]
    clear hv hl hb
    go_enter Tryd.func36, Tryd.ntmps36
    go_wp2_with fail
    with_reducible refine (cv _ (Kp.refl _ _)).mono ?_
    rintro e w1 ⟨rfl, k1⟩
    go_wp2_with fail
    go_ret
    exact ⟨_, rfl, src_none _ _ _ (Nat.zero_le _), k1⟩
  · have hb2 := valid_parts hb
    have ca := fun w1 (h : Nw w w1) => rbegin_any l v w1 (hv.nw h) (by omega)
    rw [show canonR l = beginL l by unfold canonR; rw [hb]; rfl]
    clear hv hl hb hb2
    go_enter Tryd.func36, Tryd.ntmps36
    go_wp2_with fail
    with_reducible refine (cv _ (Kp.refl _ _)).mono ?_
    rintro e w1 ⟨rfl, k1⟩
    go_wp2_with fail
    with_reducible refine (ca _ k1).mono ?_
    rintro e w2 ⟨v2, rfl, s2, k2⟩
    go_wp2_with fail
    go_ret
    exact ⟨_, rfl, s2, k1.tr k2⟩

theorem rconvex_eq {l : List Pt} (hv : validR l = true) : (allTo l.length fun i => !decide (rturnI l i ≤ 0)) = allTo l.length fun i => !decide (turnI l i < 0) := by
  obtain ⟨h3, h40, hwl, htn, ha⟩ := valid_parts hv
  apply Bool.eq_iff_iff.2
  rw [allTo_iff, allTo_iff]
  have key : ∀ j, j < l.length → ((!decide (turnI l j ≤ 0)) = true ↔ (!decide (turnI l j < 0)) = true) := fun j hj => by
    have := allTo_iff.1 htn j hj
    simp at this ⊢
    omega
  have hrot := rot_all (n := l.length) (k := 1) (by omega) (fun j => (!decide (turnI l j ≤ 0)) = true)
  constructor
  · intro h
    have h2 := hrot.1 fun i hi => by rw [← rturn_is hi]; exact h i hi
    exact fun i hi => (key i hi).1 (h2 i hi)
  · intro h i hi
    rw [rturn_is hi]
    exact hrot.2 (fun j hj => (key j hj).2 (h j hj)) i hi

set_option maxRecDepth 100000 in
set_option maxHeartbeats 6400000 in
theorem rconvex_any (l : List (Int × Int)) (v : Value) (w : World) (hv : SrcV w v l) (hl : l.length ≤ 1099511627776) : Calls Tryd.prog 38 #[v] w fun e w' => e = .returned (.bool (convexR l)) ∧ Nw w w' := by
  have cv := fun w1 (h : Nw w w1) => rvalid8_any l v w1 (hv.nw h) hl
  have hmix := mixed7
  obtain ⟨b, hb⟩ : ∃ b, validR l = b := ⟨_, rfl⟩
  rw [hb] at cv
  cases b
  · rw [show convexR l = false by unfold convexR; rw [hb]; rfl]
    clear hv hl hb
    go_enter Tryd.func38, Tryd.ntmps38
    go_wp2_with fail
    with_reducible refine (cv _ (Kp.refl _ _)).mono ?_
    rintro e w1 ⟨rfl, k1⟩
    go_wp2_with fail
    go_ret
    exact ⟨rfl, k1⟩
  rw [show convexR l = allTo l.length fun i => !decide (rturnI l i ≤ 0) by unfold convexR; rw [hb, rconvex_eq hb]; rfl]
  clear hb
  obtain ⟨A, c, rfl⟩ := hv.shape
  obtain ⟨n, hn⟩ : ∃ n, l.length = n := ⟨_, rfl⟩
  replace hv := src_n hv hn
  rw [hn] at hl ⊢
  have HV := Lib.hid hv
  have HN := Lib.hid hn
  have hmx := src_max hv
  clear hv hn
  rw [HN.out] at cv
  go_enter Tryd.func38, Tryd.ntmps38
  go_wp2_with fail
  with_reducible refine (cv _ (Kp.refl _ _)).mono ?_
  rintro e w1 ⟨rfl, k1⟩
  have HK1 := Lib.hid k1
  clear k1 cv
  go_wp2_with fail
  go_loopw [4] (fun i wr => ∃ k : Nat, i = .int .i64 k ∧ k ≤ n ∧ (∀ j, j < k → (!decide (rturnI l j ≤ 0)) = true) ∧ Nw w wr) (fun i _ => n - (intOf i).toNat)
  case atStart => exact ⟨0, rfl, Nat.zero_le _, fun j h => absurd h (Nat.not_lt_zero _), HK1.out⟩
  case round =>
    obtain ⟨k, rfl, hk, hall, hnw⟩ := hrel
    have HA := Lib.hid hall
    clear hall
    have HK := Lib.hid hnw
    clear hnw
    by_cases hkn : k < n
    · have i0 : (0 : Int) ≤ (k : Int) := by omega
      have i1 : (k : Int) < (n : Int) := by omega
      obtain ⟨s4, hs4⟩ : ∃ s : Nat, k + 1 = s := ⟨_, rfl⟩
      have a4 : IntKind.i64.wrap ((k : Int) + 1) = (s4 : Int) := by rw [IntKind.wrap_i64]; omega
      have H4 := Lib.hid hs4
      have hn0 : 0 < n := by omega
      obtain ⟨s5, hs5⟩ : ∃ s : Nat, (k + 1) % n = s := ⟨_, rfl⟩
      have l5 : s5 < n := by rw [← hs5]; exact Nat.mod_lt _ hn0
      have a5 : (s4 : Int).tmod (n : Int) = (s5 : Int) := by rw [tmod_nat, ← hs4, hs5]
      have z0 : ¬ (n = 0) := by omega
      have b4 : (0 : Int) ≤ (s5 : Int) := by omega
      have b5 : (s5 : Int) < (n : Int) := by omega
      obtain ⟨g, o, rfl, hg, hc⟩ := src_at HV.out (by omega)
      obtain ⟨⟨ax, ay⟩, ha⟩ : ∃ p, at_ l k = p := ⟨_, rfl⟩
      obtain ⟨⟨bx, bz⟩, hb⟩ : ∃ p, at_ l s5 = p := ⟨_, rfl⟩
      obtain ⟨s6, hs6⟩ : ∃ s : Nat, k + 2 = s := ⟨_, rfl⟩
      have a6 : IntKind.i64.wrap ((k : Int) + 2) = (s6 : Int) := by rw [IntKind.wrap_i64]; omega
      obtain ⟨s7, hs7⟩ : ∃ s : Nat, (k + 2) % n = s := ⟨_, rfl⟩
      have l7 : s7 < n := by rw [← hs7]; exact Nat.mod_lt _ hn0
      have a7 : (s6 : Int).tmod (n : Int) = (s7 : Int) := by rw [tmod_nat, ← hs6, hs7]
      have b6 : (0 : Int) ≤ (s7 : Int) := by omega
      have b7 : (s7 : Int) < (n : Int) := by omega
      obtain ⟨⟨cx, cy⟩, hcc⟩ : ∃ p, at_ l s7 = p := ⟨_, rfl⟩
      have hT : rturnI l k = turnV ax ay bx bz cx cy := by unfold rturnI; rw [HN.out, hs5, hs7, ha, hb, hcc]; rfl
      have HT := Lib.hid hT
      have ct := fun w1 => rturn_any ax ay bx bz cx cy w1
      obtain ⟨t, ht⟩ : ∃ t, turnV ax ay bx bz cx cy = t := ⟨_, rfl⟩
      rw [ht] at ct HT
      have q0 := fun p : KeptW wr => (hc p.wd (HK.out.tr p.since) k hkn).1
      have q1 := fun p : KeptW wr => (hc p.wd (HK.out.tr p.since) k hkn).2
      have q2 := fun p : KeptW wr => (hc p.wd (HK.out.tr p.since) s5 l5).1
      have q3 := fun p : KeptW wr => (hc p.wd (HK.out.tr p.since) s5 l5).2
      have q4 := fun p : KeptW wr => (hc p.wd (HK.out.tr p.since) s7 l7).1
      have q5 := fun p : KeptW wr => (hc p.wd (HK.out.tr p.since) s7 l7).2
      rw [ha] at q0 q1
      rw [hb] at q2 q3
      rw [hcc] at q4 q5
      obtain ⟨z, hz⟩ : ∃ z, decide (t ≤ 0) = z := ⟨_, rfl⟩
      have HZ := Lib.hid hz
      have HKN := Lib.hid hkn
      clear hc hg hs5 hs4 l5 ha hb hT ht hs6 hs7 l7 hcc
      go_upto_region 7 with fail
      cases z
      · skip
        refine wp_region_kept (Kp.refl _ _) (by assumption) (by kernel_rfl) ?_
        repeat (with_reducible refine wpQuiet_step (fun K hK => ?_); go_simp; first | ((with_reducible refine hK _ ?_); clear hK K) | (with_reducible apply Exists.intro; (with_reducible refine ⟨fun _ => ?_, hK _ ?_⟩); ((first | (go_at_call 50; with_reducible exact Calls.kept_of (ct _)) | fail)); clear hK K) | (simp only [undef, reduceCtorEq, if_false]; (with_reducible refine hK _ ?_); clear hK K))
        with_reducible refine wpQuiet_nil ?_
        rintro _ ⟨p, rfl⟩
        go_wp2_with fail
        go_roundw
        case rel =>
          refine ⟨k + 1, by rw [← H4.out], by have := HKN.out; omega, fun j hj => ?_, HK.out.tr p.since⟩
          rcases Nat.lt_or_ge j k with h | h
          · exact HA.out j h
          · obtain rfl : j = k := by omega
            rw [HT.out, HZ.out]; rfl
        case measure => (have := H4.out; have := HKN.out; simp [intOf]; try omega)
      · skip
        refine wp_region_kept (Kp.refl _ _) (by assumption) (by kernel_rfl) ?_
        repeat (with_reducible refine wpQuiet_step (fun K hK => ?_); go_simp; first | ((with_reducible refine hK _ ?_); clear hK K) | (with_reducible apply Exists.intro; (with_reducible refine ⟨fun _ => ?_, hK _ ?_⟩); ((first | (go_at_call 50; with_reducible exact Calls.kept_of (ct _)) | fail)); clear hK K) | (simp only [undef, reduceCtorEq, if_false]; (with_reducible refine hK _ ?_); clear hK K))
        with_reducible refine wpQuiet_nil ?_
        rintro _ ⟨p, rfl⟩
        go_wp2_with fail
        go_ret
        refine ⟨?_, HK.out.tr p.since⟩
        show Ending.returned (.bool false) = _
        rw [allTo_not (i := k) HKN.out (by rw [HT.out, HZ.out]; rfl)]
    · obtain rfl : k = n := by omega
      have i5 : ¬ ((k : Int) < (k : Int)) := by omega
      go_wp2_with fail
      go_ret
      refine ⟨?_, HK.out⟩
      show Ending.returned (.bool true) = _
      rw [allTo_iff.2 fun i hi => HA.out i hi]

end Go.Proofs.YtahamffngmdjfaaDoor.W

namespace Go.Proofs.YtahamffngmdjfaaDoor.G
open Go.RowKit Go.Proofs.YtahamffngmdjfaaDoor.V Go.Proofs.YtahamffngmdjfaaDoor.W

structure Prod4 (a1 a2 b1 b2 P R : Int) : Prop where
  p1 : 0 < a1 → 0 < b2 → 0 < P
  p2 : 0 < a1 → b2 ≤ 0 → P ≤ 0
  p3 : a1 ≤ 0 → 0 < b2 → P ≤ 0
  p4 : a1 ≤ 0 → b2 ≤ 0 → 0 ≤ P
  p5 : P = 0 → a1 = 0 ∨ b2 = 0
  r1 : 0 < a2 → 0 < b1 → 0 < R
  r2 : 0 < a2 → b1 ≤ 0 → R ≤ 0
  r3 : a2 ≤ 0 → 0 < b1 → R ≤ 0
  r4 : a2 ≤ 0 → b1 ≤ 0 → 0 ≤ R
  r5 : R = 0 → a2 = 0 ∨ b1 = 0
theorem prod4 (a1 a2 b1 b2 : Int) : Prod4 a1 a2 b1 b2 (a1 * b2) (a2 * b1) := by
  have m1 : ∀ {a b : Int}, 0 < a → 0 < b → 0 < a * b := fun h g => Int.mul_pos h g
  have m2 : ∀ {a b : Int}, 0 < a → b ≤ 0 → a * b ≤ 0 := fun h g => Int.mul_nonpos_of_nonneg_of_nonpos (Int.le_of_lt h) g
  have m3 : ∀ {a b : Int}, a ≤ 0 → 0 < b → a * b ≤ 0 := fun h g => Int.mul_nonpos_of_nonpos_of_nonneg h (Int.le_of_lt g)
  have m4 : ∀ {a b : Int}, a ≤ 0 → b ≤ 0 → 0 ≤ a * b := fun h g => Int.mul_nonneg_of_nonpos_of_nonpos h g
  exact ⟨m1, m2, m3, m4, Int.mul_eq_zero.1, m1, m2, m3, m4, Int.mul_eq_zero.1⟩
theorem not_lt_bool (a : Int) : decide (a ≤ 0) = !decide (0 < a) := by
  by_cases h : 0 < a
  · rw [decide_eq_true h, decide_eq_false (by omega)]; rfl
  · rw [decide_eq_false h, decide_eq_true (by omega)]; rfl
set_option maxHeartbeats 1600000 in
theorem quad {a1 a2 b1 b2 P R D : Int} (h : Prod4 a1 a2 b1 b2 P R) (hD : D = P - R) (hn : ¬ (D = 0 ∧ min a1 b1 ≤ 0 ∧ 0 ≤ max a1 b1 ∧ min a2 b2 ≤ 0 ∧ 0 ≤ max a2 b2)) :
    (((decide (a1 ≤ 0) && decide (0 < b1) && decide (0 < D)) || (decide (b1 ≤ 0) && decide (0 < a1) && decide (D < 0))) != ((decide (a2 ≤ 0) && decide (0 < b2) && decide (0 < D)) || (decide (b2 ≤ 0) && decide (0 < a2) && decide (D < 0)))) = ((decide (0 < a1) && decide (a2 ≤ 0)) != (decide (0 < b1) && decide (b2 ≤ 0))) := by
  obtain ⟨p1, p2, p3, p4, p5, r1, r2, r3, r4, r5⟩ := h
  rw [not_lt_bool, not_lt_bool, not_lt_bool, not_lt_bool]
  by_cases A1 : 0 < a1 <;> by_cases A2 : 0 < a2 <;> by_cases B1 : 0 < b1 <;> by_cases B2 : 0 < b2 <;> by_cases D1 : 0 < D <;> by_cases D2 : D < 0 <;>
    first
    | (exfalso; omega)
    | (simp only [A1, A2, B1, B2, D1, D2, decide_true, decide_false]; rfl)
theorem half {a1 a2 b1 b2 P R D : Int} (h : Prod4 a1 a2 b1 b2 P R) (h' : Prod4 (-a1) a2 (-b1) b2 (-P) (-R)) (hD : D = P - R) (hn : ¬ (D = 0 ∧ min a1 b1 ≤ 0 ∧ 0 ≤ max a1 b1 ∧ min a2 b2 ≤ 0 ∧ 0 ≤ max a2 b2)) :
    (((decide (a2 ≤ 0) && decide (0 < b2) && decide (0 < -D)) || (decide (b2 ≤ 0) && decide (0 < a2) && decide (-D < 0))) != ((decide (a2 ≤ 0) && decide (0 < b2) && decide (0 < D)) || (decide (b2 ≤ 0) && decide (0 < a2) && decide (D < 0)))) = (decide (0 < a2) != decide (0 < b2)) := by
  have hne : (¬ 0 < a2 ∧ 0 < b2) ∨ (0 < a2 ∧ ¬ 0 < b2) → D ≠ 0 := by
    rintro (⟨A, B⟩ | ⟨A, B⟩) h0
    · rcases Int.lt_trichotomy a1 0 with c | c | c
      · have t1 := h'.p1 (by omega) B
        rcases Int.lt_or_le 0 b1 with d | d
        · exact hn ⟨h0, by omega, by omega, by omega, by omega⟩
        · have t2 := h.r4 (by omega) d
          omega
      · exact hn ⟨h0, by omega, by omega, by omega, by omega⟩
      · have t1 := h.p1 c B
        rcases Int.lt_or_le 0 b1 with d | d
        · have t2 := h.r3 (by omega) d
          omega
        · exact hn ⟨h0, by omega, by omega, by omega, by omega⟩
    · rcases Int.lt_trichotomy b1 0 with c | c | c
      · have t1 := h'.r1 A (by omega)
        rcases Int.lt_or_le 0 a1 with d | d
        · exact hn ⟨h0, by omega, by omega, by omega, by omega⟩
        · have t2 := h.p4 d (by omega)
          omega
      · exact hn ⟨h0, by omega, by omega, by omega, by omega⟩
      · have t1 := h.r1 A c
        rcases Int.lt_or_le 0 a1 with d | d
        · have t2 := h.p2 d (by omega)
          omega
        · exact hn ⟨h0, by omega, by omega, by omega, by omega⟩
  clear h h' hn hD
  rw [not_lt_bool, not_lt_bool]
  rw [show decide (0 < -D) = decide (D < 0) from decide_eq_decide.2 (by omega), show decide (-D < 0) = decide (0 < D) from decide_eq_decide.2 (by omega)]
  by_cases D1 : 0 < D
  · have D2 : ¬ D < 0 := by omega
    rw [decide_eq_true D1, decide_eq_false D2]
    generalize decide (0 < a2) = x
    generalize decide (0 < b2) = y
    cases x <;> cases y <;> rfl
  · by_cases D2 : D < 0
    · rw [decide_eq_false D1, decide_eq_true D2]
      generalize decide (0 < a2) = x
      generalize decide (0 < b2) = y
      cases x <;> cases y <;> rfl
    · rw [decide_eq_false D1, decide_eq_false D2]
      by_cases A2 : 0 < a2 <;> by_cases B2 : 0 < b2
      · rw [decide_eq_true A2, decide_eq_true B2]; rfl
      · exact absurd (show D = 0 by omega) (hne (.inr ⟨A2, B2⟩))
      · exact absurd (show D = 0 by omega) (hne (.inl ⟨A2, B2⟩))
      · rw [decide_eq_false A2, decide_eq_false B2]; rfl
theorem cross_rel (ax ay bx bz x y : Int) {D : Int} (h : sideP ((ax, ay), (bx, bz)) x y 1 = D) : crossesP ((ax, ay), (bx, bz)) x y 1 = ((decide (ay - y ≤ 0) && decide (0 < bz - y) && decide (0 < D)) || (decide (bz - y ≤ 0) && decide (0 < ay - y) && decide (D < 0))) := by
  unfold crossesP upP downP
  rw [h]
  apply Bool.eq_iff_iff.2
  simp only [Bool.or_eq_true, Bool.and_eq_true, decide_eq_true_eq, Int.mul_one]
  omega
theorem side_rel (ax ay bx bz x y : Int) : sideP ((ax, ay), (bx, bz)) x y 1 = (ax - x) * (bz - y) - (ay - y) * (bx - x) := by unfold sideP; grind
theorem on_rel {ax ay bx bz x y : Int} (h : onP ((ax, ay), (bx, bz)) x y 1 = false) : ¬ (sideP ((ax, ay), (bx, bz)) x y 1 = 0 ∧ min (ax - x) (bx - x) ≤ 0 ∧ 0 ≤ max (ax - x) (bx - x) ∧ min (ay - y) (bz - y) ≤ 0 ∧ 0 ≤ max (ay - y) (bz - y)) := by
  rw [← Bool.not_eq_true] at h
  intro hc
  apply h
  unfold onP
  simp only [Bool.and_eq_true, decide_eq_true_eq, beq_iff_eq, Int.mul_one]
  omega
/-- a quarter turn -/
theorem cross_turn1 {e : Ed} {x y : Int} (h : onP e x y 1 = false) : (crossesP (exE 1 e) (-y) x 1 != crossesP e x y 1) = ((decide (0 < e.1.1 - x) && decide (e.1.2 - y ≤ 0)) != (decide (0 < e.2.1 - x) && decide (e.2.2 - y ≤ 0))) := by
  obtain ⟨⟨ax, ay⟩, ⟨bx, bz⟩⟩ := e
  have hn := on_rel h
  rw [side_rel] at hn
  have e1 : exE 1 ((ax, ay), (bx, bz)) = ((-ay, ax), (-bz, bx)) := rfl
  rw [e1, cross_rel ax ay bx bz x y (side_rel ..), cross_rel (-ay) ax (-bz) bx (-y) x (D := (ax - x) * (bz - y) - (ay - y) * (bx - x)) (by rw [side_rel]; grind)]
  exact quad (prod4 ..) rfl hn
/-- the mirroring -/
theorem cross_turn4 {e : Ed} {x y : Int} (h : onP e x y 1 = false) : (crossesP (exE 4 e) (-x) y 1 != crossesP e x y 1) = (decide (0 < e.1.2 - y) != decide (0 < e.2.2 - y)) := by
  obtain ⟨⟨ax, ay⟩, ⟨bx, bz⟩⟩ := e
  have hn := on_rel h
  rw [side_rel] at hn
  have e1 : exE 4 ((ax, ay), (bx, bz)) = ((-ax, ay), (-bx, bz)) := rfl
  rw [e1, cross_rel ax ay bx bz x y (side_rel ..), cross_rel (-ax) ay (-bx) bz (-x) y (D := -((ax - x) * (bz - y) - (ay - y) * (bx - x))) (by rw [side_rel]; grind)]
  have h' := prod4 (-(ax - x)) (ay - y) (-(bx - x)) (bz - y)
  rw [Int.neg_mul, Int.mul_neg] at h'
  exact half (prod4 ..) h' rfl hn
theorem sum_even' (f g : Nat → Int) : ∀ k, (∀ i, i < k → ∃ c, f i = g i + 2 * c) → ∃ c, sumTo f k = sumTo g k + 2 * c
  | 0, _ => ⟨0, rfl⟩
  | k + 1, h => by
    obtain ⟨a, ha⟩ := sum_even' f g k fun i hi => h i (by omega)
    obtain ⟨b, hb⟩ := h k (by omega)
    refine ⟨a + b, ?_⟩
    show sumTo f k + f k = sumTo g k + g k + 2 * (a + b)
    rw [ha, hb]
    omega
theorem par_marks {n : Nat} (c c' F : Nat → Bool) (h : ∀ i, i < n → (c' i != c i) = (F i != F ((i + 1) % n))) : ∃ k, sumTo (fun i => ind (c' i)) n = sumTo (fun i => ind (c i)) n + 2 * k := by
  obtain ⟨k, hk⟩ := sum_even' (fun i => ind (c' i)) (fun i => ind (c i) + ind (F i != F ((i + 1) % n))) n fun i hi => by
    rw [← h i hi]
    cases c' i <;> cases c i <;> simp [ind]
    · exact ⟨0, rfl⟩
    · exact ⟨-1, rfl⟩
    · exact ⟨0, rfl⟩
    · exact ⟨0, rfl⟩
  obtain ⟨m, hm⟩ := around_even F n
  rw [sum_add, hm] at hk
  exact ⟨m + k, by omega⟩
def Off (l : List Pt) (x y : Int) : Prop := ∀ i, i < l.length → onP (edgeP l i) x y 1 = false
/-- the symmetry keeps the count's parity -/
def ParT (t : Int) : Prop := ∀ (l : List Pt) (x y : Int), ¬ l.length < 2 → Off l x y → countP (edgesP (exL t l)) (exV t (x, y)).1 (exV t (x, y)).2 1 % 2 = countP (edgesP l) x y 1 % 2
theorem par_of {t : Int} (F : Int → Int → Pt → Bool) (h : ∀ (e : Ed) (x y : Int), onP e x y 1 = false → (crossesP (exE t e) (exV t (x, y)).1 (exV t (x, y)).2 1 != crossesP e x y 1) = (F x y e.1 != F x y e.2)) : ParT t := fun l x y h2 hoff => by
  have h1 := count_sum (l := l) h2 x y 1
  have h3 := count_sum (l := exL t l) (by rw [ex_len]; exact h2) (exV t (x, y)).1 (exV t (x, y)).2 1
  rw [ex_len] at h3
  obtain ⟨k, hk⟩ := par_marks (n := l.length) (fun i => crossesP (edgeP l i) x y 1) (fun i => crossesP (edgeP (exL t l) i) (exV t (x, y)).1 (exV t (x, y)).2 1) (fun i => F x y (at_ l i)) fun i hi => by
    show (crossesP (edgeP (exL t l) i) (exV t (x, y)).1 (exV t (x, y)).2 1 != crossesP (edgeP l i) x y 1) = (F x y (at_ l i) != F x y (at_ l ((i + 1) % l.length)))
    rw [ex_edge t hi]
    exact h (edgeP l i) x y (hoff i hi)
  omega
theorem par1 : ParT 1 := par_of (fun x y v => decide (0 < v.1 - x) && decide (v.2 - y ≤ 0)) fun _ _ _ h => cross_turn1 h
theorem par4 : ParT 4 := par_of (fun _ y v => decide (0 < v.2 - y)) fun _ _ _ h => cross_turn4 h
theorem ex_onP {t : Int} (ht : validT t = true) (e : Ed) (x y : Int) : onP (exE t e) (exV t (x, y)).1 (exV t (x, y)).2 1 = onP e x y 1 := by
  have key : ∀ (e : Ed) (x y : Int), onP e x y 1 = true ↔ On e.1.1 e.1.2 e.2.1 e.2.2 x y := fun e x y => by
    obtain ⟨⟨ax, ay⟩, ⟨bx, bz⟩⟩ := e
    rw [on_box]
    unfold onP
    rw [side_rel]
    simp only [Bool.and_eq_true, decide_eq_true_eq, beq_iff_eq, Int.mul_one]
    have : (ax - x) * (bz - y) - (ay - y) * (bx - x) = crs ax ay bx bz x y := by unfold crs; grind
    rw [this]
    constructor
    · rintro ⟨⟨⟨⟨a, b⟩, c⟩, d⟩, g⟩; exact ⟨⟨a, b, c, d⟩, g⟩
    · rintro ⟨⟨a, b, c, d⟩, g⟩; exact ⟨⟨⟨⟨a, b⟩, c⟩, d⟩, g⟩
  apply Bool.eq_iff_iff.2
  rw [key, key]
  exact ex_on ht e.1 e.2 (x, y)
theorem ex_off {t : Int} (ht : validT t = true) {l : List Pt} {x y : Int} (h : Off l x y) : Off (exL t l) (exV t (x, y)).1 (exV t (x, y)).2 := fun i hi => by
  rw [ex_len] at hi
  rw [ex_edge t hi, ex_onP ht]
  exact h i hi
theorem par_comp {s t u : Int} (hs : ParT s) (ht : ParT t) (hv : validT t = true) (h : ∀ p, exV u p = exV s (exV t p)) : ParT u := fun l x y h2 hoff => by
  have e1 : exL u l = exL s (exL t l) := by
    unfold exL
    rw [List.map_map]
    exact List.map_congr_left fun p _ => h p
  rw [e1, h (x, y)]
  rw [← ht l x y h2 hoff]
  exact hs (exL t l) (exV t (x, y)).1 (exV t (x, y)).2 (by rw [ex_len]; exact h2) (ex_off hv hoff)
theorem par_all {t : Int} (ht : validT t = true) : ParT t := by
  have p0 : ParT 0 := fun l x y _ _ => by
    rw [show exL 0 l = l from List.map_id l]
    rfl
  have p2 : ParT 2 := par_comp par1 par1 rfl fun p => rfl
  have p3 : ParT 3 := par_comp par1 p2 rfl fun p => by
    obtain ⟨a, b⟩ := p
    show (b, -a) = (- -b, -a)
    rw [Int.neg_neg]
  have p5 : ParT 5 := par_comp par1 par4 rfl fun p => rfl
  have p6 : ParT 6 := par_comp par1 p5 rfl fun p => by
    obtain ⟨a, b⟩ := p
    show (a, -b) = (- -a, -b)
    rw [Int.neg_neg]
  have p7 : ParT 7 := par_comp par1 p6 rfl fun p => by
    obtain ⟨a, b⟩ := p
    show (b, a) = (- -b, a)
    rw [Int.neg_neg]
  rcases validT_cases ht with rfl | rfl | rfl | rfl | rfl | rfl | rfl | rfl
  · exact p0
  · exact par1
  · exact p2
  · exact p3
  · exact par4
  · exact p5
  · exact p6
  · exact p7
/-- where a mapped point lies -/
theorem rev_par {l : List Pt} (h2 : ¬ l.length < 2) (x y d : Int) : anyOn (edgesP l.reverse) x y d = anyOn (edgesP l) x y d ∧ countP (edgesP l.reverse) x y d = countP (edgesP l) x y d := by
  have hn : 0 < l.length := by omega
  have hr : ¬ l.reverse.length < 2 := by rw [List.length_reverse]; exact h2
  have hrot := fun (f : Nat → Int) => sum_rev (fun j => f ((j + l.length - 1) % l.length)) l.length
  have hrot2 := fun (f : Nat → Int) => sum_rot f l.length (l.length - 1)
  constructor
  · apply Bool.eq_iff_iff.2
    rw [any_iff hr, any_iff h2, List.length_reverse]
    constructor
    · rintro ⟨i, hi, h⟩
      rw [rev_edge hi, on_turn] at h
      exact ⟨_, Nat.mod_lt _ hn, h⟩
    · rintro ⟨j, hj, h⟩
      obtain ⟨i, hi, e⟩ : ∃ i, i < l.length ∧ (l.length - 1 - i + l.length - 1) % l.length = j := by
        rcases Nat.lt_or_ge (j + 1) l.length with c | c
        · exact ⟨l.length - 2 - j, by omega, by rw [show l.length - 1 - (l.length - 2 - j) + l.length - 1 = j + l.length by omega, Nat.add_mod_right, Nat.mod_eq_of_lt hj]⟩
        · exact ⟨l.length - 1, by omega, by rw [show l.length - 1 - (l.length - 1) + l.length - 1 = j by omega, Nat.mod_eq_of_lt hj]⟩
      exact ⟨i, hi, by rw [rev_edge hi, e, on_turn]; exact h⟩
  · have h1 := count_sum hr x y d
    have h3 := count_sum h2 x y d
    rw [List.length_reverse, sum_ext (g := fun i => ind (crossesP (edgeP l ((l.length - 1 - i + l.length - 1) % l.length)) x y d)) fun i hi => by rw [rev_edge hi, cross_turn]] at h1
    rw [hrot fun i => ind (crossesP (edgeP l i) x y d)] at h1
    rw [sum_ext (g := fun i => ind (crossesP (edgeP l ((i + (l.length - 1)) % l.length)) x y d)) fun i hi => by rw [show i + l.length - 1 = i + (l.length - 1) by omega], hrot2 fun i => ind (crossesP (edgeP l i) x y d)] at h1
    omega
section
variable {t : Int} (ht : validT t = true) {l : List Pt} (hv : validR l = true)
include ht hv
theorem sym_where {x y : Int} (hp : Lm x y) : whereR (symL t l) (exV t (x, y)).1 (exV t (x, y)).2 1 = whereR l x y 1 := by
  have h3 := (valid_parts hv).1
  have h2 : ¬ l.length < 2 := by omega
  have h2' : ¬ (exL t l).length < 2 := by rw [ex_len]; exact h2
  have e : anyOn (edgesP (symL t l)) (exV t (x, y)).1 (exV t (x, y)).2 1 = anyOn (edgesP (exL t l)) (exV t (x, y)).1 (exV t (x, y)).2 1 ∧ countP (edgesP (symL t l)) (exV t (x, y)).1 (exV t (x, y)).2 1 = countP (edgesP (exL t l)) (exV t (x, y)).1 (exV t (x, y)).2 1 := by
    unfold symL
    split
    · exact rev_par h2' _ _ _
    · exact ⟨rfl, rfl⟩
  have ha : anyOn (edgesP (exL t l)) (exV t (x, y)).1 (exV t (x, y)).2 1 = anyOn (edgesP l) x y 1 := by
    apply Bool.eq_iff_iff.2
    rw [any_iff h2', any_iff h2, ex_len]
    constructor
    · rintro ⟨i, hi, h⟩
      rw [ex_edge t hi, ex_onP ht] at h
      exact ⟨i, hi, h⟩
    · rintro ⟨i, hi, h⟩
      exact ⟨i, hi, by rw [ex_edge t hi, ex_onP ht]; exact h⟩
  unfold whereR
  rw [(sym_valid ht hv).1, hv, valid_int hp, valid_int (ex_lm t (p := (x, y)) hp), e.1, e.2, ha]
  cases ho : anyOn (edgesP l) x y 1 with
  | true => rfl
  | false =>
    have hoff : Off l x y := fun i hi => by
      rw [← Bool.not_eq_true]
      intro hc
      have := (any_iff h2 x y 1).2 ⟨i, hi, hc⟩
      rw [ho] at this
      cases this
    rw [par_all ht l x y h2 hoff]
omit ht hv in
theorem rev_turnI {m : List Pt} (hw : allW m = true) {i : Nat} (hi : i < m.length) : turnI m.reverse i = -turnI m (m.length - 1 - i) := by
  have hn : 0 < m.length := by omega
  have lm := fun j (hj : j < m.length) => (w_lm (allTo_iff.1 hw j hj)).2
  unfold turnI
  rw [List.length_reverse, rev_at (Nat.mod_lt _ hn), rev_at hi, rev_at (Nat.mod_lt _ hn), rev_next hi, rev_prev hi]
  have tn : ∀ a b c : Pt, Lm a.1 a.2 → Lm b.1 b.2 → Lm c.1 c.2 → turnP c b a = -turnP a b c := fun a b c ha hb hc => by
    unfold turnP
    rw [turn_lm hc hb ha, turn_lm ha hb hc, show crs c.1 c.2 b.1 b.2 a.1 a.2 = -1 * crs a.1 a.2 b.1 b.2 c.1 c.2 by unfold crs; grind, sgn_mul (.inr rfl)]
    omega
  exact tn _ _ _ (lm _ (Nat.mod_lt _ hn)) (lm _ (by omega)) (lm _ (Nat.mod_lt _ hn))
theorem sym_convex : convexR (symL t l) = convexR l := by
  obtain ⟨h3, h40, hwl, htn, ha⟩ := valid_parts hv
  have w2 := ex_allW t hwl
  unfold convexR
  rw [(sym_valid ht hv).1, hv, sym_len]
  congr 1
  apply Bool.eq_iff_iff.2
  rw [allTo_iff, allTo_iff]
  have key : ∃ f : Nat → Nat, (∀ i, i < l.length → f i < l.length ∧ f (f i) = i) ∧ ∀ i, i < l.length → turnI (symL t l) i = turnI l (f i) := by
    unfold symL
    by_cases h4 : 4 ≤ t
    · rw [if_pos h4]
      refine ⟨fun i => l.length - 1 - i, fun i hi => ⟨by dsimp only; omega, by dsimp only; omega⟩, fun i hi => ?_⟩
      dsimp only
      rw [rev_turnI w2 (by rw [ex_len]; exact hi), ex_len, ex_turn ht hwl (by omega), show sgT t = -1 from if_pos h4]
      omega
    · rw [if_neg h4]
      refine ⟨fun i => i, fun i hi => ⟨hi, rfl⟩, fun i hi => ?_⟩
      dsimp only
      rw [ex_turn ht hwl hi, show sgT t = 1 from if_neg h4]
      omega
  obtain ⟨f, hf, he⟩ := key
  constructor
  · intro h i hi
    have := h (f i) (hf i hi).1
    rw [he _ (hf i hi).1, (hf i hi).2] at this
    exact this
  · intro h i hi
    rw [he i hi]
    exact h _ (hf i hi).1
end
theorem begin_rot {l : List Pt} (hl : 0 < l.length) : beginL l = rotL l (low l) ∧ low l < l.length := ⟨rfl, lowTo_lt hl⟩
theorem rot_convex {l : List Pt} {k : Nat} (hk : k < l.length) (hv : validR l = true) : convexR (rotL l k) = convexR l := by
  have hkl := Nat.le_of_lt hk
  unfold convexR
  rw [rot_valid hkl hv, hv, rot_len hkl]
  congr 1
  apply Bool.eq_iff_iff.2
  rw [allTo_iff, allTo_iff]
  constructor
  · intro h j hj
    obtain ⟨a, b⟩ := rot_back hkl hj
    have := h _ a
    rw [rot_turn hkl a, b] at this
    exact this
  · intro h i hi
    rw [rot_turn hkl hi]
    exact h _ (Nat.mod_lt _ (by omega))
theorem ex_rot (t : Int) (l : List Pt) (k : Nat) : exL t (rotL l k) = rotL (exL t l) k := by
  unfold exL rotL
  rw [List.map_append, List.map_drop, List.map_take]
theorem rev_rot {l : List Pt} {k : Nat} (hk : k ≤ l.length) : (rotL l k).reverse = rotL l.reverse (l.length - k) := by
  unfold rotL
  rw [List.reverse_append, List.drop_reverse, List.take_reverse]
  rw [show l.length - (l.length - k) = k by omega]
theorem ex_back {t : Int} (ht : validT t = true) (l : List Pt) : exL (invT t) (exL t l) = l := by
  unfold exL
  rw [List.map_map]
  conv => rhs; rw [← List.map_id l]
  exact List.map_congr_left fun p _ => ex_inv ht p
/-- the inverse maps the mapped ring back -/
theorem sym_back {t : Int} (ht : validT t = true) {l : List Pt} (hv : validR l = true) : beginL (symL (invT t) (beginL (symL t l))) = beginL l := by
  have h3 := (valid_parts hv).1
  have hl : 0 < (symL t l).length := by rw [sym_len]; omega
  obtain ⟨e, hk⟩ := begin_rot hl
  rw [e]
  obtain ⟨k, hke⟩ : ∃ k, low (symL t l) = k := ⟨_, rfl⟩
  rw [hke] at hk ⊢
  rw [sym_len] at hk
  by_cases h4 : 4 ≤ t
  · have hi : invT t = t := by unfold invT; rw [if_pos ht, if_pos h4]
    have hb := ex_back ht l
    rw [hi] at hb ⊢
    unfold symL
    rw [if_pos h4, if_pos h4, ex_rot, rev_rot (by rw [ex_len, List.length_reverse, ex_len]; omega)]
    rw [show (exL t (exL t l).reverse).reverse = l by unfold exL at hb ⊢; rw [List.map_reverse, List.reverse_reverse]; exact hb]
    rw [ex_len, List.length_reverse, ex_len]
    rcases Nat.eq_zero_or_pos k with c | c
    · subst c
      rw [Nat.sub_zero]
      unfold rotL
      rw [List.drop_length, List.take_length, List.nil_append]
    · exact rot_begin (by omega) hv
  · have hi : ¬ 4 ≤ invT t := by
      rcases validT_cases ht with rfl | rfl | rfl | rfl | rfl | rfl | rfl | rfl <;> first | (exact absurd (by decide) h4) | decide
    unfold symL
    rw [if_neg h4, if_neg hi, ex_rot, ex_back ht]
    exact rot_begin hk hv
end Go.Proofs.YtahamffngmdjfaaDoor.G

namespace Go.Proofs.YtahamffngmdjfaaDoor.W
open Go.RowKit Go.Proofs.YtahamffngmdjfaaDoor.V Go.Proofs.YtahamffngmdjfaaDoor.G


theorem rem8 {l : Int} (h : 0 ≤ l ∧ l < 256) : ∃ t : Int, l.tmod 8 = t ∧ (0 ≤ t ∧ t < 8) ∧ validT t = true ∧ IntKind.u8.wrap (l.tmod 8) = t := by
  rw [Int.tmod_eq_emod_of_nonneg h.1]
  refine ⟨l % 8, rfl, by omega, by simp [validT]; omega, ?_⟩
  simp [IntKind.wrap, IntKind.bits, IntKind.signed]
  omega
set_option maxRecDepth 100000 in
set_option maxHeartbeats 3200000 in
theorem symmetryGroup_any (l0 l1 l2 x y : Int) (w : World) (hT : TabQ w) (h0 : 0 ≤ l0 ∧ l0 < 256) (h1 : 0 ≤ l1 ∧ l1 < 256) (h2 : 0 ≤ l2 ∧ l2 < 256) (hx : I64 x) (hy : I64 y) : Calls Tryd.prog 6 #[.agg #[.int .u8 l0, .int .u8 l1, .int .u8 l2], vV x y] w fun e w' => e = .returned (.bool true) ∧ Nw w w' := by
  have hmix := mixed7
  have hT0 := hT.nw ((nw_alloc w (.cells #[.int .u8 l0, .int .u8 l1, .int .u8 l2] 42)).alloc (.cells #[.int .i64 x, .int .i64 y] 23))
  have c0 := awake9_any _ hT0
  obtain ⟨t, a1, b1, v1, m1⟩ := rem8 h0
  obtain ⟨u, a2, b2, v2, m2⟩ := rem8 h1
  obtain ⟨s, a3, b3, v3, m3⟩ := rem8 h2
  have hb0 := (Blk.new w 42 #[.int .u8 l0, .int .u8 l1, .int .u8 l2]).alloc (.cells #[.int .i64 x, .int .i64 y] 23)
  have hb1 := Blk.new_at (w.alloc (.cells #[.int .u8 l0, .int .u8 l1, .int .u8 l2] 42)) 23 #[.int .i64 x, .int .i64 y] (n := w.heap.size + 1) (by simp)
  have q0 := fun p : KeptW ((w.alloc (.cells #[.int .u8 l0, .int .u8 l1, .int .u8 l2] 42)).alloc (.cells #[.int .i64 x, .int .i64 y] 23)) => (hb0.kept p).cell 0
  have q1 := fun p : KeptW ((w.alloc (.cells #[.int .u8 l0, .int .u8 l1, .int .u8 l2] 42)).alloc (.cells #[.int .i64 x, .int .i64 y] 23)) => (hb0.kept p).cell 1
  have q2 := fun p : KeptW ((w.alloc (.cells #[.int .u8 l0, .int .u8 l1, .int .u8 l2] 42)).alloc (.cells #[.int .i64 x, .int .i64 y] 23)) => (hb0.kept p).cell 2
  have q3 := fun p : KeptW ((w.alloc (.cells #[.int .u8 l0, .int .u8 l1, .int .u8 l2] 42)).alloc (.cells #[.int .i64 x, .int .i64 y] 23)) => (hb1.kept p).cell 0
  have q4 := fun p : KeptW ((w.alloc (.cells #[.int .u8 l0, .int .u8 l1, .int .u8 l2] 42)).alloc (.cells #[.int .i64 x, .int .i64 y] 23)) => (hb1.kept p).cell 1
  go_enter Tryd.func6, Tryd.ntmps6
  go_upto_region 3 with (first | (go_at_call 9; ((with_reducible refine (Calls.kept_first c0).mono ?_); rintro e _ ⟨rfl, p, rfl⟩)) | fail)
  have n1 : IntKind.i64.wrap t = t := by rw [IntKind.wrap_i64]; omega
  have n2 : IntKind.i64.wrap u = u := by rw [IntKind.wrap_i64]; omega
  have n3 : IntKind.i64.wrap s = s := by rw [IntKind.wrap_i64]; omega
  refine wp_region_kept (p.since) (by assumption) (by kernel_rfl) ?_
  repeat (with_reducible refine wpQuiet_step (fun K hK => ?_); go_simp; first | ((with_reducible refine hK _ ?_); clear hK K) | (with_reducible apply Exists.intro; (with_reducible refine ⟨fun _ => ?_, hK _ ?_⟩); (fail); clear hK K) | (simp only [undef, reduceCtorEq, if_false]; (with_reducible refine hK _ ?_); clear hK K))
  with_reducible refine wpQuiet_nil ?_
  rintro _ ⟨p, rfl⟩
  clear n1 n2 n3 m1 m2 m3 a1 a2 a3 q0 q1 q2
  have hTp := hT0.nw p.since
  have HP := Lib.hid p.since
  have HV := Lib.hid (And.intro v1 (And.intro v2 v3))
  have z3 := q3 p
  have z4 := q4 p
  obtain ⟨a, ha⟩ : ∃ r, thenT t u = r := ⟨_, rfl⟩
  obtain ⟨b, hb⟩ : ∃ r, invT t = r := ⟨_, rfl⟩
  obtain ⟨c, hc⟩ : ∃ r, thenT a s = r := ⟨_, rfl⟩
  obtain ⟨d, hd⟩ : ∃ r, thenT u s = r := ⟨_, rfl⟩
  have hcd : thenT t d = c := by rw [← hd, ← hc, ← ha, thenT_assoc v1 v2 v3]
  have c1 := fun w1 => tthen_any t u w1
  have c2 := fun w1 => tinverse_any t w1
  have c3 := fun w1 => tthen_any a s w1
  have c4 := fun w1 => tthen_any u s w1
  have c5 := fun w1 => tthen_any t d w1
  have c6 := fun w1 => tthen_any t 0 w1
  have c7 := fun w1 => tthen_any 0 t w1
  have c8 := fun w1 => tthen_any t b w1
  have c9 := fun w1 => tthen_any b t w1
  rw [ha] at c1
  rw [hb] at c2
  rw [hc] at c3
  rw [hd] at c4
  rw [hcd] at c5
  rw [(thenT_zero v1).1] at c6
  rw [(thenT_zero v1).2] at c7
  have hti := thenT_inv v1
  rw [hb] at hti
  rw [hti.1] at c8
  rw [hti.2] at c9
  have g1 : (c != c) = false := by simp
  have g2 : (t != t) = false := by simp
  have HA := Lib.hid ha
  clear hc hd hcd hti hb ha v1 v2 v3
  go_upto_region 7 with (first | (go_at_call 22; ((with_reducible refine (c1 _).mono ?_); rintro e _ ⟨rfl, rfl⟩)) | (go_at_call 22; ((with_reducible refine (c3 _).mono ?_); rintro e _ ⟨rfl, rfl⟩)) | (go_at_call 22; ((with_reducible refine (c4 _).mono ?_); rintro e _ ⟨rfl, rfl⟩)) | (go_at_call 22; ((with_reducible refine (c5 _).mono ?_); rintro e _ ⟨rfl, rfl⟩)) | (go_at_call 22; ((with_reducible refine (c6 _).mono ?_); rintro e _ ⟨rfl, rfl⟩)) | (go_at_call 22; ((with_reducible refine (c7 _).mono ?_); rintro e _ ⟨rfl, rfl⟩)) | (go_at_call 22; ((with_reducible refine (c8 _).mono ?_); rintro e _ ⟨rfl, rfl⟩)) | (go_at_call 22; ((with_reducible refine (c9 _).mono ?_); rintro e _ ⟨rfl, rfl⟩)) | (go_at_call 24; ((with_reducible refine (c2 _).mono ?_); rintro e _ ⟨rfl, rfl⟩)) | fail)
  clear c1 c2 c3 c4 c5 c6 c7 c8 c9 g1 g2
  obtain ⟨⟨x1, y1⟩, e1⟩ : ∃ m, mapV t x y = m := ⟨_, rfl⟩
  obtain ⟨⟨x2, y2⟩, e2⟩ : ∃ m, mapV a x y = m := ⟨_, rfl⟩
  have e3 : mapV u x1 y1 = (x2, y2) := by rw [← e2, ← HA.out, mapV_then HV.out.1 HV.out.2.1 hx hy, e1]
  have ii := mapV_i64 t hx hy
  rw [e1] at ii
  have d1 := fun p : KeptW ((w.alloc (.cells #[.int .u8 l0, .int .u8 l1, .int .u8 l2] 42)).alloc (.cells #[.int .i64 x, .int .i64 y] 23)) => tvec_any a x y p.wd (hT0.nw p.since) hx hy
  have d2 := fun p : KeptW ((w.alloc (.cells #[.int .u8 l0, .int .u8 l1, .int .u8 l2] 42)).alloc (.cells #[.int .i64 x, .int .i64 y] 23)) => tvec_any t x y p.wd (hT0.nw p.since) hx hy
  have d3 := fun p : KeptW ((w.alloc (.cells #[.int .u8 l0, .int .u8 l1, .int .u8 l2] 42)).alloc (.cells #[.int .i64 x, .int .i64 y] 23)) => tvec_any u x1 y1 p.wd (hT0.nw p.since) ii.1 ii.2
  have d4 := fun p : KeptW ((w.alloc (.cells #[.int .u8 l0, .int .u8 l1, .int .u8 l2] 42)).alloc (.cells #[.int .i64 x, .int .i64 y] 23)) => tvec_any 0 x y p.wd (hT0.nw p.since) hx hy
  rw [e2] at d1
  rw [e1] at d2
  rw [e3] at d3
  rw [mapV0] at d4
  have f1 := fun w1 => neq_vec x2 y2 x2 y2 w1
  have f2 := fun w1 => neq_vec x y x y w1
  simp only [beq_self_eq_true, Bool.and_self, Bool.not_true] at f1 f2
  clear e1 e2 e3 ii
  refine wp_region_kept (HP.out) (by assumption) (by kernel_rfl) ?_
  repeat (with_reducible refine wpQuiet_step (fun K hK => ?_); go_simp; first | ((with_reducible refine hK _ ?_); clear hK K) | (with_reducible apply Exists.intro; (with_reducible refine ⟨fun _ => ?_, hK _ ?_⟩); ((first | (go_at_call 12; with_reducible exact Calls.kept_of (d1 _)) | (go_at_call 12; with_reducible exact Calls.kept_of (d2 _)) | (go_at_call 12; with_reducible exact Calls.kept_of (d3 _)) | (go_at_call 12; with_reducible exact Calls.kept_of (d4 _)) | fail)); clear hK K) | (simp only [undef, reduceCtorEq, if_false]; (with_reducible refine hK _ ?_); clear hK K))
  with_reducible refine wpQuiet_nil ?_
  rintro _ ⟨p, rfl⟩
  go_wp2_with fail
  clear d1 d2 d3 d4 f1 f2 z3 z4
  have HP2 := Lib.hid p.since
  obtain ⟨v1, v2, v3⟩ := HV.out
  obtain ⟨s0, hs0⟩ : ∃ r, grainT t 0 = r := ⟨_, rfl⟩
  obtain ⟨r0, hr0⟩ : ∃ r, grainT a 0 = r := ⟨_, rfl⟩
  have ht0 : grainT u s0 = r0 := by rw [← hs0, ← hr0, ← HA.out, grainT_then v1 v2 (by omega)]
  have k0 := fun w1 => grain_any a 0 w1
  have l0 := fun w1 => grain_any t 0 w1
  have m0 := fun w1 => grain_any u s0 w1
  rw [hr0] at k0
  rw [hs0] at l0
  rw [ht0] at m0
  have o0 : (r0 != r0) = false := by simp
  clear hs0 hr0 ht0
  obtain ⟨s1, hs1⟩ : ∃ r, grainT t 1 = r := ⟨_, rfl⟩
  obtain ⟨r1, hr1⟩ : ∃ r, grainT a 1 = r := ⟨_, rfl⟩
  have ht1 : grainT u s1 = r1 := by rw [← hs1, ← hr1, ← HA.out, grainT_then v1 v2 (by omega)]
  have k1 := fun w1 => grain_any a 1 w1
  have l1 := fun w1 => grain_any t 1 w1
  have m1 := fun w1 => grain_any u s1 w1
  rw [hr1] at k1
  rw [hs1] at l1
  rw [ht1] at m1
  have o1 : (r1 != r1) = false := by simp
  clear hs1 hr1 ht1
  obtain ⟨s2, hs2⟩ : ∃ r, grainT t 2 = r := ⟨_, rfl⟩
  obtain ⟨r2, hr2⟩ : ∃ r, grainT a 2 = r := ⟨_, rfl⟩
  have ht2 : grainT u s2 = r2 := by rw [← hs2, ← hr2, ← HA.out, grainT_then v1 v2 (by omega)]
  have k2 := fun w1 => grain_any a 2 w1
  have l2 := fun w1 => grain_any t 2 w1
  have m2 := fun w1 => grain_any u s2 w1
  rw [hr2] at k2
  rw [hs2] at l2
  rw [ht2] at m2
  have o2 : (r2 != r2) = false := by simp
  clear hs2 hr2 ht2
  clear v1 v2 v3
  refine wp_loop_rounds 4 ?_
  rw [rounds_succ]
  go_wp2_with (first | (go_at_call 20; ((with_reducible refine (k0 _).mono ?_); rintro e _ ⟨rfl, rfl⟩)) | (go_at_call 20; ((with_reducible refine (l0 _).mono ?_); rintro e _ ⟨rfl, rfl⟩)) | (go_at_call 20; ((with_reducible refine (m0 _).mono ?_); rintro e _ ⟨rfl, rfl⟩)) | (go_at_call 20; ((with_reducible refine (k1 _).mono ?_); rintro e _ ⟨rfl, rfl⟩)) | (go_at_call 20; ((with_reducible refine (l1 _).mono ?_); rintro e _ ⟨rfl, rfl⟩)) | (go_at_call 20; ((with_reducible refine (m1 _).mono ?_); rintro e _ ⟨rfl, rfl⟩)) | (go_at_call 20; ((with_reducible refine (k2 _).mono ?_); rintro e _ ⟨rfl, rfl⟩)) | (go_at_call 20; ((with_reducible refine (l2 _).mono ?_); rintro e _ ⟨rfl, rfl⟩)) | (go_at_call 20; ((with_reducible refine (m2 _).mono ?_); rintro e _ ⟨rfl, rfl⟩)) | fail)
  rw [rounds_succ]
  go_wp2_with (first | (go_at_call 20; ((with_reducible refine (k0 _).mono ?_); rintro e _ ⟨rfl, rfl⟩)) | (go_at_call 20; ((with_reducible refine (l0 _).mono ?_); rintro e _ ⟨rfl, rfl⟩)) | (go_at_call 20; ((with_reducible refine (m0 _).mono ?_); rintro e _ ⟨rfl, rfl⟩)) | (go_at_call 20; ((with_reducible refine (k1 _).mono ?_); rintro e _ ⟨rfl, rfl⟩)) | (go_at_call 20; ((with_reducible refine (l1 _).mono ?_); rintro e _ ⟨rfl, rfl⟩)) | (go_at_call 20; ((with_reducible refine (m1 _).mono ?_); rintro e _ ⟨rfl, rfl⟩)) | (go_at_call 20; ((with_reducible refine (k2 _).mono ?_); rintro e _ ⟨rfl, rfl⟩)) | (go_at_call 20; ((with_reducible refine (l2 _).mono ?_); rintro e _ ⟨rfl, rfl⟩)) | (go_at_call 20; ((with_reducible refine (m2 _).mono ?_); rintro e _ ⟨rfl, rfl⟩)) | fail)
  rw [rounds_succ]
  go_wp2_with (first | (go_at_call 20; ((with_reducible refine (k0 _).mono ?_); rintro e _ ⟨rfl, rfl⟩)) | (go_at_call 20; ((with_reducible refine (l0 _).mono ?_); rintro e _ ⟨rfl, rfl⟩)) | (go_at_call 20; ((with_reducible refine (m0 _).mono ?_); rintro e _ ⟨rfl, rfl⟩)) | (go_at_call 20; ((with_reducible refine (k1 _).mono ?_); rintro e _ ⟨rfl, rfl⟩)) | (go_at_call 20; ((with_reducible refine (l1 _).mono ?_); rintro e _ ⟨rfl, rfl⟩)) | (go_at_call 20; ((with_reducible refine (m1 _).mono ?_); rintro e _ ⟨rfl, rfl⟩)) | (go_at_call 20; ((with_reducible refine (k2 _).mono ?_); rintro e _ ⟨rfl, rfl⟩)) | (go_at_call 20; ((with_reducible refine (l2 _).mono ?_); rintro e _ ⟨rfl, rfl⟩)) | (go_at_call 20; ((with_reducible refine (m2 _).mono ?_); rintro e _ ⟨rfl, rfl⟩)) | fail)
  rw [rounds_succ]
  go_wp2_with (first | (go_at_call 20; ((with_reducible refine (k0 _).mono ?_); rintro e _ ⟨rfl, rfl⟩)) | (go_at_call 20; ((with_reducible refine (l0 _).mono ?_); rintro e _ ⟨rfl, rfl⟩)) | (go_at_call 20; ((with_reducible refine (m0 _).mono ?_); rintro e _ ⟨rfl, rfl⟩)) | (go_at_call 20; ((with_reducible refine (k1 _).mono ?_); rintro e _ ⟨rfl, rfl⟩)) | (go_at_call 20; ((with_reducible refine (l1 _).mono ?_); rintro e _ ⟨rfl, rfl⟩)) | (go_at_call 20; ((with_reducible refine (m1 _).mono ?_); rintro e _ ⟨rfl, rfl⟩)) | (go_at_call 20; ((with_reducible refine (k2 _).mono ?_); rintro e _ ⟨rfl, rfl⟩)) | (go_at_call 20; ((with_reducible refine (l2 _).mono ?_); rintro e _ ⟨rfl, rfl⟩)) | (go_at_call 20; ((with_reducible refine (m2 _).mono ?_); rintro e _ ⟨rfl, rfl⟩)) | fail)
  have hb5 := Blk.new p.wd 23 #[.int .i64 2, .int .i64 1]
  have hn5 := HP2.out.alloc (.cells #[.int .i64 2, .int .i64 1] 23)
  generalize hw5 : p.wd.alloc (.cells #[.int .i64 2, .int .i64 1] 23) = w5 at *
  clear hw5
  have q5 := fun p : KeptW w5 => (hb5.kept p).cell 0
  have q6 := fun p : KeptW w5 => (hb5.kept p).cell 1
  have i2 : I64 2 ∧ I64 1 := by unfold I64; omega
  obtain ⟨⟨x1, y1⟩, e1⟩ : ∃ m, mapV t 2 1 = m := ⟨_, rfl⟩
  obtain ⟨⟨x2, y2⟩, e2⟩ : ∃ m, mapV u 2 1 = m := ⟨_, rfl⟩
  have d1 := fun p : KeptW w5 => tvec_any t 2 1 p.wd (hT0.nw (hn5.tr p.since)) i2.1 i2.2
  have d2 := fun p : KeptW w5 => tvec_any u 2 1 p.wd (hT0.nw (hn5.tr p.since)) i2.1 i2.2
  rw [e1] at d1
  rw [e2] at d2
  have f1 := fun w1 => eql_vecg x1 y1 x2 y2 w1
  obtain ⟨g, hg⟩ : ∃ g, (t == u) = g := ⟨_, rfl⟩
  have hxy : (x1 == x2 && y1 == y2) = g := by
    have h := mapV_apart HV.out.1 HV.out.2.1
    rw [e1, e2, Prod.mk.injEq] at h
    rw [← hg, Bool.eq_iff_iff]
    simp [h]
  rw [hxy] at f1
  have gg : (g == g) = true := by simp
  have HN5 := Lib.hid hn5
  clear hxy e1 e2 hb5 hn5 i2
  refine wp_region_kept (Kp.refl _ _) (by assumption) (by kernel_rfl) ?_
  repeat (with_reducible refine wpQuiet_step (fun K hK => ?_); go_simp; first | ((with_reducible refine hK _ ?_); clear hK K) | (with_reducible apply Exists.intro; (with_reducible refine ⟨fun _ => ?_, hK _ ?_⟩); ((first | (go_at_call 12; with_reducible exact Calls.kept_of (d1 _)) | (go_at_call 12; with_reducible exact Calls.kept_of (d2 _)) | fail)); clear hK K) | (simp only [undef, reduceCtorEq, if_false]; (with_reducible refine hK _ ?_); clear hK K))
  with_reducible refine wpQuiet_nil ?_
  rintro _ ⟨p, rfl⟩
  go_wp2_with fail
  go_ret
  exact ⟨rfl, (((nw_alloc _ _).alloc _).tr HN5.out).tr p.since⟩
end Go.Proofs.YtahamffngmdjfaaDoor.W

namespace Go.Proofs.YtahamffngmdjfaaDoor.W
open Go.RowKit Go.Proofs.YtahamffngmdjfaaDoor.V Go.Proofs.YtahamffngmdjfaaDoor.G


/-- what the law looks at, of a valid ring -/
theorem places {n : Int} (hn : validT n = true) {l : List Pt} (hv : validR l = true) {x y : Int} (hp : withinV x y 2000 = true) :
    ringT n l = (beginL (symL n l), 0) ∧ (beginL (symL n l)).length = l.length ∧ validR (beginL (symL n l)) = true ∧ canonR (beginL (symL n l)) = beginL (symL n l) ∧ area2R (beginL (symL n l)) = area2R l ∧ convexR (beginL (symL n l)) = convexR l ∧ ringT (invT n) (beginL (symL n l)) = (beginL l, 0) ∧ canonR l = beginL l ∧ whereR (beginL (symL n l)) (mapV n x y).1 (mapV n x y).2 1 = whereR l x y 1 := by
  have h3 := (valid_parts hv).1
  have hl : 0 < (symL n l).length := by rw [sym_len]; omega
  obtain ⟨sv, sa⟩ := sym_valid hn hv
  obtain ⟨e, hk⟩ := begin_rot hl
  have hkl := Nat.le_of_lt hk
  have hbv : validR (beginL (symL n l)) = true := by rw [e]; exact rot_valid hkl sv
  have hlm : Lm x y := (w_lm (p := (x, y)) hp).2
  refine ⟨?_, ?_, hbv, ?_, ?_, ?_, ?_, ?_, ?_⟩
  · unfold ringT; rw [hn, hv]; rfl
  · rw [e, rot_len hkl, sym_len]
  · unfold canonR; rw [hbv, begin_again hl]; rfl
  · unfold area2R; rw [hbv, hv, e, rot_area hkl, sa]
  · rw [e, rot_convex hk sv, sym_convex hn hv]
  · unfold ringT; rw [invT_valid, hbv, sym_back hn hv]; rfl
  · unfold canonR; rw [hv]; rfl
  · have em : mapV n x y = exV n (x, y) := mapV_ex n hlm
    rw [em, e, rot_where hk sv]
    exact sym_where hn hv hlm

set_option maxRecDepth 100000 in
set_option maxHeartbeats 12800000 in
theorem symmetryPlaces_any (b : Int) (l : List (Int × Int)) (v : Value) (px py : Int) (w : World) (hT : TabQ w) (h0 : 0 ≤ b ∧ b < 256) (hv : SrcV w v l) (hx : I64 px) (hy : I64 py) : Calls Tryd.prog 8 #[.int .u8 b, v, vV px py] w fun e w' => e = .returned (.bool true) ∧ Nw w w' := by
  have hmix := mixed7
  obtain ⟨w0, hw0⟩ : ∃ w0, (w.alloc (.cells #[.int .i64 px, .int .i64 py] 23)) = w0 := ⟨_, rfl⟩
  have HW0 := Lib.hid (show Nw w w0 by rw [← hw0]; exact nw_alloc _ _)
  have HB := Lib.hid (show ∀ w', Nw w0 w' → Blk w' w.heap.size 23 #[.int .i64 px, .int .i64 py] from fun w' h => by
    rw [← hw0] at h
    exact (Blk.new _ _ _).kp h id)
  have HT := Lib.hid (hT.nw HW0.out)
  have HV := Lib.hid (hv.nw HW0.out)
  have c0 := awake9_any w0 HT.out
  have cf := fun w1 (h : Nw w0 w1) => few_any l v w1 (HV.out.nw h)
  clear hT hv
  by_cases h60 : l.length ≤ 60
  case neg =>
    rw [decide_eq_false h60] at cf
    clear h60
    go_enter Tryd.func8, Tryd.ntmps8
    go_wp2_with fail
    with_reducible refine c0.mono ?_
    rintro e w1 ⟨rfl, k1⟩
    go_wp2_with fail
    with_reducible refine (cf _ k1).mono ?_
    rintro e w2 ⟨rfl, k2⟩
    go_wp2_with fail
    go_ret
    exact ⟨rfl, HW0.out.tr (k1.tr k2)⟩
  rw [decide_eq_true h60] at cf
  have HL := Lib.hid h60
  have cv := fun w1 (h : Nw w0 w1) => rvalid8_any l v w1 (HV.out.nw h) (by omega)
  obtain ⟨bv, hbv⟩ : ∃ z, validR l = z := ⟨_, rfl⟩
  rw [hbv] at cv
  cases bv
  case false =>
    clear h60 hbv
    go_enter Tryd.func8, Tryd.ntmps8
    go_wp2_with fail
    with_reducible refine c0.mono ?_
    rintro e w1 ⟨rfl, k1⟩
    go_wp2_with fail
    with_reducible refine (cf _ k1).mono ?_
    rintro e w2 ⟨rfl, k2⟩
    go_wp2_with fail
    with_reducible refine (cv _ (k1.tr k2)).mono ?_
    rintro e w3 ⟨rfl, k3⟩
    go_wp2_with fail
    go_ret
    exact ⟨rfl, HW0.out.tr ((k1.tr k2).tr k3)⟩
  have ci := fun w1 => rwithin_any px py 2000 w1
  obtain ⟨bw, hbw⟩ : ∃ z, withinV px py 2000 = z := ⟨_, rfl⟩
  rw [hbw] at ci
  have HPL := Lib.hid (And.intro hbv hbw)
  clear h60 hbv hbw
  cases bw
  case false =>
    go_enter Tryd.func8, Tryd.ntmps8
    go_wp2_with fail
    with_reducible refine c0.mono ?_
    rintro e w1 ⟨rfl, k1⟩
    go_wp2_with fail
    with_reducible refine (cf _ k1).mono ?_
    rintro e w2 ⟨rfl, k2⟩
    go_wp2_with fail
    with_reducible refine (cv _ (k1.tr k2)).mono ?_
    rintro e w3 ⟨rfl, k3⟩
    have n3 := (k1.tr k2).tr k3
    obtain ⟨y0, y1, -, -⟩ := (HB.out _ n3).two
    go_wp2_with fail
    with_reducible refine (ci _).mono ?_
    rintro e w4 ⟨rfl, k4⟩
    go_wp2_with fail
    go_ret
    exact ⟨rfl, HW0.out.tr (n3.tr k4)⟩
  obtain ⟨n, a1, b1, v1, m1⟩ := rem8 h0
  have n1 : IntKind.i64.wrap n = n := by rw [IntKind.wrap_i64]; omega
  obtain ⟨f1, f2, f3, f4, f5, f6, f7, f8, f9⟩ := places v1 HPL.out.1 HPL.out.2
  obtain ⟨m, hm⟩ : ∃ m, beginL (symL n l) = m := ⟨_, rfl⟩
  rw [hm] at f1 f2 f3 f4 f5 f6 f7 f9
  obtain ⟨cl, hcl⟩ : ∃ m, beginL l = m := ⟨_, rfl⟩
  rw [hcl] at f7 f8
  have hml : m.length ≤ 60 := by rw [f2]; exact HL.out
  have hll := HL.out
  obtain ⟨⟨mx, my⟩, hmv⟩ : ∃ s, mapV n px py = s := ⟨_, rfl⟩
  rw [hmv] at f9
  have d1 := fun w1 (h : Nw w0 w1) => tring_any n l v w1 (HT.out.nw h) (HV.out.nw h) (by omega)
  rw [f1] at d1
  have d2 := fun v8 w1 (s : SrcV w1 v8 m) => rvalid8_any m v8 w1 s (by omega)
  rw [f3] at d2
  have d3 := fun v8 w1 (s : SrcV w1 v8 m) => rcanon_any m v8 w1 s (by omega)
  rw [f4] at d3
  have d4 := fun v8 v9 w1 (s : SrcV w1 v8 m) (s9 : SrcV w1 v9 m) => rringSame_any m m v8 v9 w1 s s9
  rw [decide_eq_true rfl] at d4
  have d5 := fun v8 w1 (s : SrcV w1 v8 m) => rarea2_any m v8 w1 s (by omega)
  have d6 := fun w1 (h : Nw w0 w1) => rarea2_any l v w1 (HV.out.nw h) (by omega)
  rw [f5] at d5
  have d7 := fun v8 w1 (s : SrcV w1 v8 m) => rconvex_any m v8 w1 s (by omega)
  have d8 := fun w1 (h : Nw w0 w1) => rconvex_any l v w1 (HV.out.nw h) (by omega)
  rw [f6] at d7
  have d9 := fun w1 => tinverse_any n w1
  have e1 := fun v8 w1 (h : Nw w0 w1) (s : SrcV w1 v8 m) => tring_any (invT n) m v8 w1 (HT.out.nw h) s (by omega)
  rw [f7] at e1
  have e2 := fun w1 (h : Nw w0 w1) => rcanon_any l v w1 (HV.out.nw h) (by omega)
  rw [f8] at e2
  have e3 := fun v8 v9 w1 (s : SrcV w1 v8 cl) (s9 : SrcV w1 v9 cl) => rringSame_any cl cl v8 v9 w1 s s9
  rw [decide_eq_true rfl] at e3
  have e4 := fun w1 (h : Nw w0 w1) => tvec_any n px py w1 (HT.out.nw h) hx hy
  rw [hmv] at e4
  have e5 := fun v8 w1 (s : SrcV w1 v8 m) => rwhere8_any m v8 mx my w1 s (by omega)
  have e6 := fun w1 (h : Nw w0 w1) => rwhere8_any l v px py w1 (HV.out.nw h) (by omega)
  rw [f9] at e5
  generalize area2R l = r1 at *
  generalize convexR l = r2 at *
  generalize whereR l px py 1 = r3 at *
  generalize invT n = ni at *
  have z1 : (r1 != r1) = false := by simp
  have z2 : (r2 != r2) = false := by simp
  have z3 : (r3 == r3) = true := by simp
  clear f1 f2 f3 f4 f5 f6 f7 f8 f9 hm hcl hmv h0 v1 hml hll
  go_enter Tryd.func8, Tryd.ntmps8
  go_wp2_with fail
  with_reducible refine c0.mono ?_
  rintro e w1 ⟨rfl, k1⟩
  clear hw0
  go_wp2_with fail
  with_reducible refine (cf _ k1).mono ?_
  rintro e w2 ⟨rfl, k2⟩
  have n2 := k1.tr k2
  go_wp2_with fail
  with_reducible refine (cv _ n2).mono ?_
  rintro e w3 ⟨rfl, k3⟩
  have n3 := n2.tr k3
  obtain ⟨y0, y1, -, -⟩ := (HB.out _ n3).two
  clear k1 k2 k3 n2 cf cv c0
  go_wp2_with fail
  with_reducible refine (ci _).mono ?_
  rintro e w4 ⟨rfl, k4⟩
  have n4 := n3.tr k4
  clear k4 n3 ci y0 y1
  go_wp2_with fail
  with_reducible refine (d1 _ n4).mono ?_
  rintro e w5 ⟨v8, rfl, s5, k5⟩
  have n5 := n4.tr k5
  clear k5 n4 d1 a1 m1 n1
  go_wp2_with fail
  with_reducible refine (d2 _ _ s5).mono ?_
  rintro e w6 ⟨rfl, k6⟩
  have n6 := n5.tr k6
  have s6 := s5.nw k6
  clear k6 n5 s5 d2
  go_wp2_with fail
  with_reducible refine (d3 _ _ s6).mono ?_
  rintro e w7 ⟨v9, rfl, s9, k7⟩
  have n7 := n6.tr k7
  have s7 := s6.nw k7
  clear k7 n6 s6 d3
  go_wp2_with fail
  with_reducible refine (d4 _ _ _ s7 s9).mono ?_
  rintro e w8 ⟨rfl, k8⟩
  have n8 := n7.tr k8
  have s8 := s7.nw k8
  clear k8 n7 s7 s9 d4
  go_wp2_with fail
  with_reducible refine (d5 _ _ s8).mono ?_
  rintro e x1 ⟨rfl, k1⟩
  have n9 := n8.tr k1
  have s9 := s8.nw k1
  clear k1 n8 s8 d5
  go_wp2_with fail
  with_reducible refine (d6 _ n9).mono ?_
  rintro e x2 ⟨rfl, k1⟩
  have n10 := n9.tr k1
  have s10 := s9.nw k1
  clear k1 n9 s9 d6
  go_wp2_with fail
  with_reducible refine (d7 _ _ s10).mono ?_
  rintro e x3 ⟨rfl, k1⟩
  have n11 := n10.tr k1
  have s11 := s10.nw k1
  clear k1 n10 s10 d7
  go_wp2_with fail
  with_reducible refine (d8 _ n11).mono ?_
  rintro e x4 ⟨rfl, k1⟩
  have n12 := n11.tr k1
  have s12 := s11.nw k1
  clear k1 n11 s11 d8
  go_wp2_with fail
  with_reducible refine (d9 _).mono ?_
  rintro e _ ⟨rfl, rfl⟩
  clear d9
  go_wp2_with fail
  with_reducible refine (e1 _ _ n12 s12).mono ?_
  rintro e wd ⟨vb, rfl, sb, k1⟩
  have ND := Lib.hid (n12.tr k1)
  have SD := Lib.hid (s12.nw k1)
  have SB := Lib.hid sb
  clear k1 n12 s12 sb e1
  go_wp2_with fail
  have HP := Lib.hid (show ∀ w', Nw wd w' → w'.cell? (⟨w.heap.size, 0, none⟩ : Addr) = some (.int .i64 px) ∧ w'.cell? (⟨w.heap.size, 1, none⟩ : Addr) = some (.int .i64 py) from fun w' h => by
    have hk := HB.out w' (ND.out.tr h)
    exact ⟨hk.cell 0, hk.cell 1⟩)
  have g1 := fun w1 (h : Nw wd w1) => e2 w1 (ND.out.tr h)
  have g2 := fun w1 u (s : SrcV w1 u cl) (h : Nw wd w1) => e3 vb u w1 (SB.out.nw h) s
  have g3 := fun w1 (h : Nw wd w1) => e4 w1 (ND.out.tr h)
  have g4 := fun w1 (h : Nw wd w1) => e5 v8 w1 (SD.out.nw h)
  have g5 := fun w1 (h : Nw wd w1) => e6 w1 (ND.out.tr h)
  clear e2 e3 e4 e5 e6 z1 z2 hx hy
  go_region_held3 (fun w' : World => w'.cell? (⟨w.heap.size, 0, none⟩ : Addr) = some (.int .i64 px) ∧ w'.cell? (⟨w.heap.size, 1, none⟩ : Addr) = some (.int .i64 py))
    (first | ((refine HP.out _ ?_); (repeat (first | exact hb5 | exact hb4 | exact hb3 | exact hb2 | exact hb1 | exact Kp.refl _ _ | refine Kp.drew ?_))) | fail)
    (first | (go_at_call 36; ((with_reducible refine (g1 _ ?_).mono ?_); (repeat (first | exact hb5 | exact hb4 | exact hb3 | exact hb2 | exact hb1 | exact Kp.refl _ _ | refine Kp.drew ?_)); rintro e u1 ⟨v1, rfl, s1, hk1⟩; have hb1 : Nw wd u1 := Kp.tr (by repeat (first | exact hb5 | exact hb4 | exact hb3 | exact hb2 | exact hb1 | exact Kp.refl _ _ | refine Kp.drew ?_)) hk1)) | (go_at_call 29; ((with_reducible refine (g2 _ _ s1 ?_).mono ?_); (repeat (first | exact hb5 | exact hb4 | exact hb3 | exact hb2 | exact hb1 | exact Kp.refl _ _ | refine Kp.drew ?_)); rintro e u2 ⟨rfl, hk2⟩; have hb2 : Nw wd u2 := Kp.tr (by repeat (first | exact hb5 | exact hb4 | exact hb3 | exact hb2 | exact hb1 | exact Kp.refl _ _ | refine Kp.drew ?_)) hk2)) | (go_at_call 12; ((with_reducible refine (g3 _ ?_).mono ?_); (repeat (first | exact hb5 | exact hb4 | exact hb3 | exact hb2 | exact hb1 | exact Kp.refl _ _ | refine Kp.drew ?_)); rintro e u3 ⟨rfl, hk3⟩; have hb3 : Nw wd u3 := Kp.tr (by repeat (first | exact hb5 | exact hb4 | exact hb3 | exact hb2 | exact hb1 | exact Kp.refl _ _ | refine Kp.drew ?_)) hk3)) | (go_at_call 39; ((with_reducible refine (g4 _ ?_).mono ?_); (repeat (first | exact hb5 | exact hb4 | exact hb3 | exact hb2 | exact hb1 | exact Kp.refl _ _ | refine Kp.drew ?_)); rintro e u4 ⟨rfl, hk4⟩; have hb4 : Nw wd u4 := Kp.tr (by repeat (first | exact hb5 | exact hb4 | exact hb3 | exact hb2 | exact hb1 | exact Kp.refl _ _ | refine Kp.drew ?_)) hk4)) | (go_at_call 39; ((with_reducible refine (g5 _ ?_).mono ?_); (repeat (first | exact hb5 | exact hb4 | exact hb3 | exact hb2 | exact hb1 | exact Kp.refl _ _ | refine Kp.drew ?_)); rintro e u5 ⟨rfl, hk5⟩; have hb5 : Nw wd u5 := Kp.tr (by repeat (first | exact hb5 | exact hb4 | exact hb3 | exact hb2 | exact hb1 | exact Kp.refl _ _ | refine Kp.drew ?_)) hk5)))
  all_goals (go_wp2_with fail; go_ret; exact ⟨rfl, HW0.out.tr (ND.out.tr hb5)⟩)

end Go.Proofs.YtahamffngmdjfaaDoor.W
