/-
  RingConvex: the law returns true, whatever its argument. No condition.
-/
import Derived.Test.YthifljljaejfmaaJ13
import Derived.Test.YthifljljaejfmaaJ23
import Derived.Test.YthifljljaejfmaaJ42
import Derived.Test.YthifljljaejfmaaJ41
namespace Go.Proofs.Ythifljljaejfmaa.W
open Go.RowKit Go.Proofs.Ythifljljaejfmaa.V Go.Proofs.Ythifljljaejfmaa.G


def turnT (l : List (Int × Int)) (j : Nat) : Int := turnV (at_ l j).1 (at_ l j).2 (at_ l ((j + 1) % l.length)).1 (at_ l ((j + 1) % l.length)).2 (at_ l ((j + 2) % l.length)).1 (at_ l ((j + 2) % l.length)).2
theorem turnT_is {l : List (Int × Int)} {j : Nat} (hj : j < l.length) : turnI l ((j + 1) % l.length) = turnT l j := by
  unfold turnI turnP turnT
  rw [Nat.mod_add_mod, show j + 1 + 1 = j + 2 by omega, show (j + 1) % l.length + l.length - 1 = (j + 1) % l.length + (l.length - 1) by omega, Nat.mod_add_mod, show j + 1 + (l.length - 1) = j + l.length by omega, Nat.add_mod_right, Nat.mod_eq_of_lt hj]
theorem turn_back {l : List (Int × Int)} {i : Nat} (hi : i < l.length) : ∃ j, j < l.length ∧ turnI l i = turnT l j := by
  refine ⟨(i + l.length - 1) % l.length, Nat.mod_lt _ (by omega), ?_⟩
  rw [← turnT_is (Nat.mod_lt _ (by omega)), Nat.mod_add_mod, show i + l.length - 1 + 1 = i + l.length by omega, Nat.add_mod_right, Nat.mod_eq_of_lt hi]
theorem all_left {l : List (Int × Int)} (h : ∀ j, j < l.length → ¬ turnT l j < 0) : ∀ i, i < l.length → ¬ turnI l i < 0 := fun i hi => by
  obtain ⟨j, hj, e⟩ := turn_back hi
  rw [e]
  exact h j hj
theorem convex_of {l : List (Int × Int)} (hv : validR l = true) (h : ∀ j, j < l.length → ¬ turnT l j < 0) : convexR l = true := by
  unfold convexR
  rw [hv, Bool.true_and]
  exact allTo_iff.2 fun i hi => by rw [decide_eq_false (all_left h i hi)]; rfl
theorem convex_not {l : List (Int × Int)} (h : ∃ j, j < l.length ∧ turnT l j < 0) : convexR l = false := by
  obtain ⟨j, hj, h⟩ := h
  unfold convexR
  rw [allTo_not (i := (j + 1) % l.length) (Nat.mod_lt _ (by omega)) (by rw [turnT_is hj, decide_eq_true h]; rfl), Bool.and_false]
theorem mid_valid {ax ay bx bz : Int} (ha : -2000 ≤ ax ∧ ax ≤ 2000 ∧ -2000 ≤ ay ∧ ay ≤ 2000) (hb : -2000 ≤ bx ∧ bx ≤ 2000 ∧ -2000 ≤ bz ∧ bz ≤ 2000) : validP (midX ax ay bx bz) (midY ax ay bx bz) (midD ax ay bx bz) = true := by
  have h := mid_is (ax := ax) (ay := ay) (bx := bx) (bz := bz)
  unfold midD at h ⊢
  by_cases g : (ax + bx).tmod 2 = 0 ∧ (ay + bz).tmod 2 = 0
  · rw [if_pos g] at h ⊢
    exact valid_int (by unfold Lm; omega)
  · rw [if_neg g] at h ⊢
    have e1 : midX ax ay bx bz = ax + bx := by omega
    have e2 : midY ax ay bx bz = ay + bz := by omega
    rw [e1, e2]
    unfold validP inPt isDen withinV
    rw [show w64 (4000 * 2) = 8000 from w64_id ⟨by omega, by omega⟩, show w64 (-8000) = -8000 from w64_id ⟨by omega, by omega⟩]
    have hg : gcd3 (ax + bx) (ay + bz) 2 = 1 := by
      obtain ⟨d1, d2, d3⟩ := gcd3_dvd (ax + bx) (ay + bz) 2
      have p := gcd3_pos (x := ax + bx) (y := ay + bz) (d := 2) (by omega)
      generalize gcd3 (ax + bx) (ay + bz) 2 = k at *
      have le : (k : Int) ≤ 2 := Int.le_of_dvd (by omega) d3
      by_cases e : k = 2
      · subst e
        exact absurd ⟨Int.tmod_eq_zero_of_dvd d1, Int.tmod_eq_zero_of_dvd d2⟩ g
      · omega
    rw [hg]
    simp
    omega
theorem half_not_out {l : List (Int × Int)} (hv : validR l = true) (h : ∀ j, j < l.length → ¬ turnT l j < 0) {i k : Nat} (hi : i < l.length) (hk : k < l.length) :
    whereR l (midX (at_ l i).1 (at_ l i).2 (at_ l k).1 (at_ l k).2) (midY (at_ l i).1 (at_ l i).2 (at_ l k).1 (at_ l k).2) (midD (at_ l i).1 (at_ l i).2 (at_ l k).1 (at_ l k).2) ≠ 0 := by
  obtain ⟨_, _, hw, _, _⟩ := valid_parts hv
  have wi := (w_lm (allTo_iff.1 hw i hi)).1
  have wk := (w_lm (allTo_iff.1 hw k hk)).1
  obtain ⟨d0, ex, ey⟩ := mid_is (ax := (at_ l i).1) (ay := (at_ l i).2) (bx := (at_ l k).1) (bz := (at_ l k).2)
  have hin := half_in (valid_conv hv (all_left h)) hi hk d0 ex ey
  unfold whereR
  rw [hv, mid_valid wi wk]
  simp only [Bool.and_self, if_true]
  rcases hin with c | c
  · rw [c]; simp
  · repeat' split
    all_goals omega

set_option maxRecDepth 100000 in
set_option maxHeartbeats 12800000 in
theorem ringConvex_walk (l : List (Int × Int)) (v : Value) (w : World) (hv : SrcV w v l) (hl : l.length ≤ 1099511627776) : Calls Try.prog 3 #[v] w fun e w' => e = .returned (.bool true) ∧ Nw w w' := by
  have hmix := mixed7
  have cf := fun w1 (h : Nw w w1) => few_any l v w1 (hv.nw h)
  have cv := fun w1 (h : Nw w w1) => ringValid_any l v w1 (hv.nw h) hl
  have cc := fun w1 (h : Nw w w1) => convex_any l v w1 (hv.nw h) hl
  have cw := fun x y d w1 (h : Nw w w1) => wherePoint_any l v x y d w1 (hv.nw h) hl
  obtain ⟨b0, hb0⟩ : ∃ b, decide (l.length ≤ 60) = b := ⟨_, rfl⟩
  rw [hb0] at cf
  obtain ⟨b1, hb1⟩ : ∃ b, validR l = b := ⟨_, rfl⟩
  rw [hb1] at cv
  have H1 := Lib.hid hb1
  clear hb0 hb1
  obtain ⟨A, c, rfl⟩ := hv.shape
  obtain ⟨n, hn⟩ : ∃ n, l.length = n := ⟨_, rfl⟩
  replace hv := src_n hv hn
  rw [hn] at cf cv cc cw hl ⊢
  have HV := Lib.hid hv
  have HN := Lib.hid hn
  have hmx := src_max hv
  have HC := Lib.hid cc
  have HWP := Lib.hid cw
  clear hv hn cc cw
  go_enter Try.func3, Try.ntmps3
  go_wp2_with fail
  with_reducible refine (awake8_any _).mono ?_
  rintro e w1 ⟨rfl, k1⟩
  cases b0
  · go_wp2_with fail
    with_reducible refine (cf _ k1).mono ?_
    rintro e w3 ⟨rfl, k3⟩
    go_wp2_with fail
    go_ret
    exact ⟨rfl, k1.tr k3⟩
  cases b1
  · go_wp2_with fail
    with_reducible refine (cf _ k1).mono ?_
    rintro e w3 ⟨rfl, k3⟩
    go_wp2_with fail
    with_reducible refine (cv _ (k1.tr k3)).mono ?_
    rintro e w4 ⟨rfl, k4⟩
    go_wp2_with fail
    go_ret
    exact ⟨rfl, (k1.tr k3).tr k4⟩
  go_wp2_with fail
  with_reducible refine (cf _ k1).mono ?_
  rintro e w3 ⟨rfl, k3⟩
  go_wp2_with fail
  with_reducible refine (cv _ (k1.tr k3)).mono ?_
  rintro e w4 ⟨rfl, k4⟩
  have N4 := Lib.hid ((k1.tr k3).tr k4)
  clear k1 k3 k4 cf cv
  go_wp2_with fail
  go_loopw [3, 4, 6] (fun o r i wr => ∃ (k : Nat) (bo br : Bool), i = .int .i64 k ∧ o = .bool bo ∧ r = .bool br ∧ k ≤ n ∧ (br = false → ∀ j, j < k → ¬ turnT l j < 0) ∧ (br = true → (∃ j, j < n ∧ turnT l j < 0)) ∧ (bo = true → (∃ j, j < n ∧ turnT l j < 0)) ∧ Nw w4 wr) (fun _ _ i _ => n - (intOf i).toNat)
  case atStart => exact ⟨0, false, false, rfl, rfl, rfl, Nat.zero_le _, fun _ j h => absurd h (Nat.not_lt_zero _), fun h => (by cases h), fun h => (by cases h), Kp.refl _ _⟩
  case round =>
    obtain ⟨k, bo, br, rfl, rfl, rfl, hk, hleft, hright, hout, hnw⟩ := hrel
    have HA := Lib.hid hleft
    have HB := Lib.hid hright
    have HO := Lib.hid hout
    clear hleft hright hout
    have HK := Lib.hid hnw
    clear hnw
    by_cases hkn : k < n
    · have i0 : (0 : Int) ≤ (k : Int) := by omega
      have i1 : (k : Int) < (n : Int) := by omega
      obtain ⟨s4, hs4⟩ : ∃ s : Nat, k + 1 = s := ⟨_, rfl⟩
      have a4 : IntKind.i64.wrap ((k : Int) + 1) = (s4 : Int) := by rw [IntKind.wrap_i64]; omega
      have H4 := Lib.hid hs4
      have hn0 : 0 < n := by omega
      obtain ⟨s5, hs5⟩ : ∃ s : Nat, (k + 1) % n = s := ⟨_, rfl⟩
      have l5 : s5 < n := by rw [← hs5]; exact Nat.mod_lt _ hn0
      have a5 : (s4 : Int).tmod (n : Int) = (s5 : Int) := by rw [tmod_nat, ← hs4, hs5]
      have z0 : ¬ (n = 0) := by omega
      have b4 : (0 : Int) ≤ (s5 : Int) := by omega
      have b5 : (s5 : Int) < (n : Int) := by omega
      obtain ⟨g, o, rfl, hg, hc⟩ := src_at HV.out (by omega)
      obtain ⟨⟨ax, ay⟩, ha⟩ : ∃ p, at_ l k = p := ⟨_, rfl⟩
      obtain ⟨⟨bx, bz⟩, hb⟩ : ∃ p, at_ l s5 = p := ⟨_, rfl⟩
      obtain ⟨s8, hs8⟩ : ∃ s : Nat, k + 2 = s := ⟨_, rfl⟩
      obtain ⟨s9, hs9⟩ : ∃ s : Nat, (k + 2) % n = s := ⟨_, rfl⟩
      have l9 : s9 < n := by rw [← hs9]; exact Nat.mod_lt _ hn0
      have a8 : IntKind.i64.wrap ((k : Int) + 2) = (s8 : Int) := by rw [IntKind.wrap_i64]; omega
      have a9 : (s8 : Int).tmod (n : Int) = (s9 : Int) := by rw [tmod_nat, ← hs8, hs9]
      have b8 : (0 : Int) ≤ (s9 : Int) := by omega
      have b9 : (s9 : Int) < (n : Int) := by omega
      obtain ⟨⟨cx, cy⟩, hcc⟩ : ∃ p, at_ l s9 = p := ⟨_, rfl⟩
      have HT := Lib.hid (show turnT l k = turnV ax ay bx bz cx cy by
        unfold turnT
        rw [HN.out, hs5, hs9, ha, hb, hcc])
      have ct := fun w1 => rturn_any ax ay bx bz cx cy w1
      obtain ⟨t, ht⟩ : ∃ t, turnV ax ay bx bz cx cy = t := ⟨_, rfl⟩
      rw [ht] at ct HT
      obtain ⟨z, hz⟩ : ∃ z, decide (t < 0) = z := ⟨_, rfl⟩
      have HZ := Lib.hid hz
      have HCe := Lib.hid hc
      have HAt := Lib.hid ha
      have q0 := fun p : KeptW wr => (hc p.wd (N4.out.tr (HK.out.tr p.since)) k hkn).1
      have q1 := fun p : KeptW wr => (hc p.wd (N4.out.tr (HK.out.tr p.since)) k hkn).2
      have q2 := fun p : KeptW wr => (hc p.wd (N4.out.tr (HK.out.tr p.since)) s5 l5).1
      have q3 := fun p : KeptW wr => (hc p.wd (N4.out.tr (HK.out.tr p.since)) s5 l5).2
      have q4 := fun p : KeptW wr => (hc p.wd (N4.out.tr (HK.out.tr p.since)) s9 l9).1
      have q5 := fun p : KeptW wr => (hc p.wd (N4.out.tr (HK.out.tr p.since)) s9 l9).2
      rw [ha] at q0 q1
      rw [hb] at q2 q3
      rw [hcc] at q4 q5
      have HKN := Lib.hid hkn
      clear hc hg hs5 hs8 hs9 l5 l9 ha hb ht hcc
      cases br
      · go_wp2_with fail
        refine wp_region_kept (Kp.refl _ _) (by assumption) (by kernel_rfl) ?_
        repeat (with_reducible refine wpQuiet_step (fun K hK => ?_); go_simp; first | ((with_reducible refine hK _ ?_); clear hK K) | (with_reducible apply Exists.intro; (with_reducible refine ⟨fun _ => ?_, hK _ ?_⟩); ((first | (go_at_call 7; with_reducible exact Calls.kept_of (ct _)) | fail)); clear hK K) | (simp only [undef, reduceCtorEq, if_false]; (with_reducible refine hK _ ?_); clear hK K))
        with_reducible refine wpQuiet_nil ?_
        rintro _ ⟨p, rfl⟩
        go_wp2_with fail
        obtain ⟨wb, hwb⟩ : ∃ x, p.wd = x := ⟨_, rfl⟩
        have NB := Lib.hid (show Nw w4 wb by rw [← hwb]; exact HK.out.tr p.since)
        rw [hwb]
        clear q0 q1 q2 q3 q4 q5 hwb p HK
        go_loopw [3, 7] (fun o j wx => ∃ (m : Nat) (b : Bool), j = .int .i64 m ∧ o = .bool b ∧ m ≤ n ∧ (b = true → (∃ j, j < n ∧ turnT l j < 0)) ∧ Nw wb wx) (fun _ j _ => n - (intOf j).toNat)
        case atStart => exact ⟨0, _, rfl, rfl, Nat.zero_le _, HO.out, Kp.refl _ _⟩
        case round =>
          obtain ⟨m, b, rfl, rfl, hm, hob, hnx⟩ := hrel
          have HOB := Lib.hid hob
          have HX := Lib.hid hnx
          clear hob hnx
          by_cases hmn : m < n
          · have j0 : (0 : Int) ≤ (m : Int) := by omega
            have j1 : (m : Int) < (n : Int) := by omega
            obtain ⟨s7, hs7⟩ : ∃ s : Nat, m + 1 = s := ⟨_, rfl⟩
            have a7 : IntKind.i64.wrap ((m : Int) + 1) = (s7 : Int) := by rw [IntKind.wrap_i64]; omega
            have H7 := Lib.hid hs7
            obtain ⟨⟨dx, dy⟩, hd⟩ : ∃ p, at_ l m = p := ⟨_, rfl⟩
            obtain ⟨_, _, hw, _, _⟩ := valid_parts H1.out
            have lk := (w_lm (allTo_iff.1 hw k (by rw [HN.out]; exact HKN.out))).2
            have lm := (w_lm (allTo_iff.1 hw m (by rw [HN.out]; exact hmn))).2
            rw [HAt.out] at lk
            rw [hd] at lm
            have cm := fun w1 => middle_any ax ay dx dy lk lm w1
            have HNO := Lib.hid (show (∀ j, j < n → ¬ turnT l j < 0) → whereR l (midX ax ay dx dy) (midY ax ay dx dy) (midD ax ay dx dy) ≠ 0 from fun h => by
              have := half_not_out H1.out (by rw [HN.out]; exact h) (i := k) (k := m) (by rw [HN.out]; exact HKN.out) (by rw [HN.out]; exact hmn)
              rw [HAt.out, hd] at this
              exact this)
            have y0 := fun p : KeptW wr => (HCe.out p.wd (N4.out.tr (NB.out.tr (HX.out.tr p.since))) k HKN.out).1
            have y1 := fun p : KeptW wr => (HCe.out p.wd (N4.out.tr (NB.out.tr (HX.out.tr p.since))) k HKN.out).2
            have y2 := fun p : KeptW wr => (HCe.out p.wd (N4.out.tr (NB.out.tr (HX.out.tr p.since))) m hmn).1
            have y3 := fun p : KeptW wr => (HCe.out p.wd (N4.out.tr (NB.out.tr (HX.out.tr p.since))) m hmn).2
            rw [HAt.out] at y0 y1
            rw [hd] at y2 y3
            have d1 := fun p : KeptW wr => HWP.out (midX ax ay dx dy) (midY ax ay dx dy) (midD ax ay dx dy) p.wd (N4.out.tr (NB.out.tr (HX.out.tr p.since)))
            obtain ⟨X, hX⟩ : ∃ X, midX ax ay dx dy = X := ⟨_, rfl⟩
            obtain ⟨Y, hY⟩ : ∃ Y, midY ax ay dx dy = Y := ⟨_, rfl⟩
            obtain ⟨D, hD⟩ : ∃ D, midD ax ay dx dy = D := ⟨_, rfl⟩
            rw [hX, hY, hD] at cm HNO
            rw [hX, hY, hD] at d1
            obtain ⟨u, hu⟩ : ∃ u, whereR l X Y D = u := ⟨_, rfl⟩
            rw [hu] at d1 HNO
            obtain ⟨e, he⟩ : ∃ e, (u == 0) = e := ⟨_, rfl⟩
            have HE := Lib.hid he
            have HMN := Lib.hid hmn
            clear hs7 hd hX hY hD hu lk lm hw hmn
            have fin : ∀ b' : Bool, (b' = true → (∃ j, j < n ∧ turnT l j < 0)) → b' = true → (∃ j, j < n ∧ turnT l j < 0) := fun _ h => h
            cases b
            · go_wp2_with fail
              refine wp_region_kept (Kp.refl _ _) (by assumption) (by kernel_rfl) ?_
              repeat (with_reducible refine wpQuiet_step (fun K hK => ?_); go_simp; first | ((with_reducible refine hK _ ?_); clear hK K) | (with_reducible apply Exists.intro; (with_reducible refine ⟨fun _ => ?_, hK _ ?_⟩); ((first | (go_at_call 9; with_reducible exact Calls.kept_of (cm _)) | (go_at_call 8; with_reducible exact Calls.kept_of (d1 _)) | fail)); clear hK K) | (simp only [undef, reduceCtorEq, if_false]; (with_reducible refine hK _ ?_); clear hK K))
              with_reducible refine wpQuiet_nil ?_
              rintro _ ⟨p, rfl⟩
              go_wp2_with fail
              go_roundw
              case rel =>
                refine ⟨m + 1, e, by rw [← H7.out], rfl, by have := HMN.out; omega, fun h => ?_, HX.out.tr p.since⟩
                apply Classical.byContradiction
                intro hno
                have := HNO.out fun j hj => by
                  rcases Int.lt_or_le (turnT l j) 0 with g | g
                  · exact absurd ⟨j, hj, g⟩ hno
                  · omega
                rw [← HE.out] at h
                exact this (by simpa using h)
              case measure => (have := H7.out; simp [intOf]; try omega)
            · go_wp2_with fail
              refine wp_region_kept (Kp.refl _ _) (by assumption) (by kernel_rfl) ?_
              repeat (with_reducible refine wpQuiet_step (fun K hK => ?_); go_simp; first | ((with_reducible refine hK _ ?_); clear hK K) | (with_reducible apply Exists.intro; (with_reducible refine ⟨fun _ => ?_, hK _ ?_⟩); (fail); clear hK K) | (simp only [undef, reduceCtorEq, if_false]; (with_reducible refine hK _ ?_); clear hK K))
              with_reducible refine wpQuiet_nil ?_
              rintro _ ⟨p, rfl⟩
              go_wp2_with fail
              go_roundw
              case rel => exact ⟨m + 1, true, by rw [← H7.out], rfl, by have := HMN.out; omega, fun _ => HOB.out (by simp), HX.out.tr p.since⟩
              case measure => (have := H7.out; simp [intOf]; try omega)
          · obtain rfl : m = n := by omega
            have j5 : ¬ ((m : Int) < (m : Int)) := by omega
            go_wp2_with fail
            go_roundw
            case rel =>
              refine ⟨k + 1, b, z, by rw [← H4.out], rfl, rfl, by have := HKN.out; omega, fun h j hj => ?_, fun h => ?_, HOB.out, NB.out.tr HX.out⟩
              · rcases Nat.lt_or_ge j k with g | g
                · have := HA.out (by simp) j g; omega
                · obtain rfl : j = k := by omega
                  rw [HT.out]
                  rw [← HZ.out] at h
                  exact of_decide_eq_false h
              · rw [← HZ.out] at h
                exact ⟨k, HKN.out, by rw [HT.out]; exact of_decide_eq_true h⟩
            case measure => (have := H4.out; simp [intOf]; try omega)
      · go_wp2_with fail
        refine wp_region_kept (Kp.refl _ _) (by assumption) (by kernel_rfl) ?_
        repeat (with_reducible refine wpQuiet_step (fun K hK => ?_); go_simp; first | ((with_reducible refine hK _ ?_); clear hK K) | (with_reducible apply Exists.intro; (with_reducible refine ⟨fun _ => ?_, hK _ ?_⟩); (fail); clear hK K) | (simp only [undef, reduceCtorEq, if_false]; (with_reducible refine hK _ ?_); clear hK K))
        with_reducible refine wpQuiet_nil ?_
        rintro _ ⟨p, rfl⟩
        go_wp2_with fail
        obtain ⟨wb, hwb⟩ : ∃ x, p.wd = x := ⟨_, rfl⟩
        have NB := Lib.hid (show Nw w4 wb by rw [← hwb]; exact HK.out.tr p.since)
        rw [hwb]
        clear q0 q1 q2 q3 q4 q5 hwb p HK
        go_loopw [3, 7] (fun o j wx => ∃ (m : Nat) (b : Bool), j = .int .i64 m ∧ o = .bool b ∧ m ≤ n ∧ (b = true → (∃ j, j < n ∧ turnT l j < 0)) ∧ Nw wb wx) (fun _ j _ => n - (intOf j).toNat)
        case atStart => exact ⟨0, _, rfl, rfl, Nat.zero_le _, HO.out, Kp.refl _ _⟩
        case round =>
          obtain ⟨m, b, rfl, rfl, hm, hob, hnx⟩ := hrel
          have HOB := Lib.hid hob
          have HX := Lib.hid hnx
          clear hob hnx
          by_cases hmn : m < n
          · have j0 : (0 : Int) ≤ (m : Int) := by omega
            have j1 : (m : Int) < (n : Int) := by omega
            obtain ⟨s7, hs7⟩ : ∃ s : Nat, m + 1 = s := ⟨_, rfl⟩
            have a7 : IntKind.i64.wrap ((m : Int) + 1) = (s7 : Int) := by rw [IntKind.wrap_i64]; omega
            have H7 := Lib.hid hs7
            obtain ⟨⟨dx, dy⟩, hd⟩ : ∃ p, at_ l m = p := ⟨_, rfl⟩
            obtain ⟨_, _, hw, _, _⟩ := valid_parts H1.out
            have lk := (w_lm (allTo_iff.1 hw k (by rw [HN.out]; exact HKN.out))).2
            have lm := (w_lm (allTo_iff.1 hw m (by rw [HN.out]; exact hmn))).2
            rw [HAt.out] at lk
            rw [hd] at lm
            have cm := fun w1 => middle_any ax ay dx dy lk lm w1
            have HNO := Lib.hid (show (∀ j, j < n → ¬ turnT l j < 0) → whereR l (midX ax ay dx dy) (midY ax ay dx dy) (midD ax ay dx dy) ≠ 0 from fun h => by
              have := half_not_out H1.out (by rw [HN.out]; exact h) (i := k) (k := m) (by rw [HN.out]; exact HKN.out) (by rw [HN.out]; exact hmn)
              rw [HAt.out, hd] at this
              exact this)
            have y0 := fun p : KeptW wr => (HCe.out p.wd (N4.out.tr (NB.out.tr (HX.out.tr p.since))) k HKN.out).1
            have y1 := fun p : KeptW wr => (HCe.out p.wd (N4.out.tr (NB.out.tr (HX.out.tr p.since))) k HKN.out).2
            have y2 := fun p : KeptW wr => (HCe.out p.wd (N4.out.tr (NB.out.tr (HX.out.tr p.since))) m hmn).1
            have y3 := fun p : KeptW wr => (HCe.out p.wd (N4.out.tr (NB.out.tr (HX.out.tr p.since))) m hmn).2
            rw [HAt.out] at y0 y1
            rw [hd] at y2 y3
            have d1 := fun p : KeptW wr => HWP.out (midX ax ay dx dy) (midY ax ay dx dy) (midD ax ay dx dy) p.wd (N4.out.tr (NB.out.tr (HX.out.tr p.since)))
            obtain ⟨X, hX⟩ : ∃ X, midX ax ay dx dy = X := ⟨_, rfl⟩
            obtain ⟨Y, hY⟩ : ∃ Y, midY ax ay dx dy = Y := ⟨_, rfl⟩
            obtain ⟨D, hD⟩ : ∃ D, midD ax ay dx dy = D := ⟨_, rfl⟩
            rw [hX, hY, hD] at cm HNO
            rw [hX, hY, hD] at d1
            obtain ⟨u, hu⟩ : ∃ u, whereR l X Y D = u := ⟨_, rfl⟩
            rw [hu] at d1 HNO
            obtain ⟨e, he⟩ : ∃ e, (u == 0) = e := ⟨_, rfl⟩
            have HE := Lib.hid he
            have HMN := Lib.hid hmn
            clear hs7 hd hX hY hD hu lk lm hw hmn
            have fin : ∀ b' : Bool, (b' = true → (∃ j, j < n ∧ turnT l j < 0)) → b' = true → (∃ j, j < n ∧ turnT l j < 0) := fun _ h => h
            cases b
            · go_wp2_with fail
              refine wp_region_kept (Kp.refl _ _) (by assumption) (by kernel_rfl) ?_
              repeat (with_reducible refine wpQuiet_step (fun K hK => ?_); go_simp; first | ((with_reducible refine hK _ ?_); clear hK K) | (with_reducible apply Exists.intro; (with_reducible refine ⟨fun _ => ?_, hK _ ?_⟩); ((first | (go_at_call 9; with_reducible exact Calls.kept_of (cm _)) | (go_at_call 8; with_reducible exact Calls.kept_of (d1 _)) | fail)); clear hK K) | (simp only [undef, reduceCtorEq, if_false]; (with_reducible refine hK _ ?_); clear hK K))
              with_reducible refine wpQuiet_nil ?_
              rintro _ ⟨p, rfl⟩
              go_wp2_with fail
              go_roundw
              case rel =>
                refine ⟨m + 1, e, by rw [← H7.out], rfl, by have := HMN.out; omega, fun h => ?_, HX.out.tr p.since⟩
                apply Classical.byContradiction
                intro hno
                have := HNO.out fun j hj => by
                  rcases Int.lt_or_le (turnT l j) 0 with g | g
                  · exact absurd ⟨j, hj, g⟩ hno
                  · omega
                rw [← HE.out] at h
                exact this (by simpa using h)
              case measure => (have := H7.out; simp [intOf]; try omega)
            · go_wp2_with fail
              refine wp_region_kept (Kp.refl _ _) (by assumption) (by kernel_rfl) ?_
              repeat (with_reducible refine wpQuiet_step (fun K hK => ?_); go_simp; first | ((with_reducible refine hK _ ?_); clear hK K) | (with_reducible apply Exists.intro; (with_reducible refine ⟨fun _ => ?_, hK _ ?_⟩); (fail); clear hK K) | (simp only [undef, reduceCtorEq, if_false]; (with_reducible refine hK _ ?_); clear hK K))
              with_reducible refine wpQuiet_nil ?_
              rintro _ ⟨p, rfl⟩
              go_wp2_with fail
              go_roundw
              case rel => exact ⟨m + 1, true, by rw [← H7.out], rfl, by have := HMN.out; omega, fun _ => HOB.out (by simp), HX.out.tr p.since⟩
              case measure => (have := H7.out; simp [intOf]; try omega)
          · obtain rfl : m = n := by omega
            have j5 : ¬ ((m : Int) < (m : Int)) := by omega
            go_wp2_with fail
            go_roundw
            case rel =>
              refine ⟨k + 1, b, true, by rw [← H4.out], rfl, rfl, by have := HKN.out; omega, fun h j hj => ?_, fun h => ?_, HOB.out, NB.out.tr HX.out⟩
              · cases h
              · exact HB.out (by simp)
            case measure => (have := H4.out; simp [intOf]; try omega)
    · obtain rfl : k = n := by omega
      have i5 : ¬ ((k : Int) < (k : Int)) := by omega
      have cc := HC.out _ (N4.out.tr HK.out)
      cases br
      · have g : ∀ j, j < l.length → ¬ turnT l j < 0 := by rw [HN.out]; exact HA.out rfl
        rw [convex_of H1.out g] at cc
        obtain rfl : bo = false := by
          rw [← Bool.not_eq_true]
          intro h
          obtain ⟨j, hj, h⟩ := HO.out h
          exact g j (by rw [HN.out]; exact hj) h
        go_wp2_with fail
        with_reducible refine cc.mono ?_
        rintro e w5 ⟨rfl, k5⟩
        go_wp2_with fail
        go_ret
        exact ⟨rfl, (N4.out.tr HK.out).tr k5⟩
      · have g := HB.out rfl
        rw [convex_not (by rw [HN.out]; exact g)] at cc
        go_wp2_with fail
        with_reducible refine cc.mono ?_
        rintro e w5 ⟨rfl, k5⟩
        go_wp2_with fail
        go_ret
        exact ⟨rfl, (N4.out.tr HK.out).tr k5⟩

set_option maxRecDepth 100000 in
set_option maxHeartbeats 3200000 in
theorem ringConvex_any (l : List (Int × Int)) (v : Value) (w : World) (hv : SrcV w v l) : Calls Try.prog 3 #[v] w fun e w' => e = .returned (.bool true) ∧ Nw w w' := by
  by_cases hl : l.length ≤ 1099511627776
  case pos => exact ringConvex_walk l v w hv hl
  case neg =>
    have cf := fun w1 (h : Nw w w1) => few_any l v w1 (hv.nw h)
    rw [decide_eq_false (by omega)] at cf
    clear hv hl
    go_enter Try.func3, Try.ntmps3
    go_wp2_with fail
    with_reducible refine (awake8_any _).mono ?_
    rintro e w1 ⟨rfl, k1⟩
    go_wp2_with fail
    with_reducible refine (cf _ k1).mono ?_
    rintro e w2 ⟨rfl, k2⟩
    go_wp2_with fail
    go_ret
    exact ⟨rfl, k1.tr k2⟩

end Go.Proofs.Ythifljljaejfmaa.W
