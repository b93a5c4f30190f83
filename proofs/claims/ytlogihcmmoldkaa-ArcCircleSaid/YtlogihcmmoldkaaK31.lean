/-
  ring: Valid, Area2, Convex: what they return. Condition: the list is not longer than 2^40.
  ring: Canonical: what it returns. Condition: the list is not longer than 2^40.
-/
import Derived.Test.YtlogihcmmoldkaaK30
import Derived.Test.YtlogihcmmoldkaaK27
import Derived.Test.YtlogihcmmoldkaaK14
import Derived.Test.YtlogihcmmoldkaaK28
import Derived.Deep.RegionWith
namespace Go.Proofs.Ytlogihcmmoldkaa.W
open Go.RowKit Go.Proofs.Ytlogihcmmoldkaa.V Go.Proofs.Ytlogihcmmoldkaa.G


set_option maxRecDepth 100000 in
set_option maxHeartbeats 6400000 in
theorem ringValid_any (l : List (Int × Int)) (v : Value) (w : World) (hv : SrcV w v l) (hl : l.length ≤ 1099511627776) : Calls Try.prog 49 #[v] w fun e w' => e = .returned (.bool (validR l)) ∧ Nw w w' := by
  obtain ⟨A, c, rfl⟩ := hv.shape
  obtain ⟨n, hn⟩ : ∃ n, l.length = n := ⟨_, rfl⟩
  replace hv := src_n hv hn
  rw [hn] at hl ⊢
  have HV := Lib.hid hv
  have HN := Lib.hid hn
  have hmx := src_max hv
  clear hv hn
  have hr : validR l = (decide (3 ≤ n) && decide (n ≤ 40) && allW l && turnsP l && decide (0 < areaP l) && simpleP l) := by unfold validR; rw [HN.out]
  rw [hr]
  clear hr
  have hsv := src_v HV.out HN.out
  have cw := fun w1 (h : Nw w w1) => isWithinL_any l (.slice A n c) w1 (hsv.nw h)
  have ct := fun w1 (h : Nw w w1) => turnsEv_any l (.slice A n c) w1 (hsv.nw h) (by rw [HN.out]; exact hl)
  have ca := fun w1 (h : Nw w w1) => dArea_any l (.slice A n c) w1 (hsv.nw h) (by rw [HN.out]; exact hl)
  by_cases g0 : 3 ≤ n
  case neg =>
    have f0 : decide (3 ≤ n) = false := decide_eq_false g0
    have f0' : decide ((3 : Int) ≤ (n : Int)) = false := decide_eq_false (by omega)
    clear g0
    go_enter Try.func49, Try.ntmps49
    go_wp2_with fail
    go_ret
    exact ⟨by simp [f0], Kp.refl _ _⟩
  have f0 : decide (3 ≤ n) = true := decide_eq_true g0
  have f0' : decide ((3 : Int) ≤ (n : Int)) = true := decide_eq_true (by omega)
  have cs := fun w1 (h : Nw w w1) => isSimple_any l (.slice A n c) w1 (hsv.nw h) (by rw [HN.out]; exact hl) (by rw [HN.out]; exact g0)
  clear g0 hsv
  by_cases g1 : n ≤ 40
  case neg =>
    have f1 : decide (n ≤ 40) = false := decide_eq_false g1
    have f1' : decide ((n : Int) ≤ 40) = false := decide_eq_false (by omega)
    clear g1
    go_enter Try.func49, Try.ntmps49
    go_wp2_with fail
    go_ret
    exact ⟨by simp [f1], Kp.refl _ _⟩
  have f1 : decide (n ≤ 40) = true := decide_eq_true g1
  have f1' : decide ((n : Int) ≤ 40) = true := decide_eq_true (by omega)
  clear g1
  generalize allW l = b2 at *
  generalize turnsP l = b3 at *
  obtain ⟨ar, har⟩ : ∃ a, areaP l = a := ⟨_, rfl⟩
  rw [har] at ca ⊢
  clear har
  generalize simpleP l = b5 at *
  cases b2
  case false =>
    go_enter Try.func49, Try.ntmps49
    go_wp2_with fail
    with_reducible refine (cw _ (Kp.refl _ _)).mono ?_
    rintro e w1 ⟨rfl, k1⟩
    go_wp2_with fail
    go_ret
    exact ⟨by simp, k1⟩
  cases b3
  case false =>
    go_enter Try.func49, Try.ntmps49
    go_wp2_with fail
    with_reducible refine (cw _ (Kp.refl _ _)).mono ?_
    rintro e w1 ⟨rfl, k1⟩
    go_wp2_with fail
    with_reducible refine (ct _ (k1)).mono ?_
    rintro e w2 ⟨rfl, k2⟩
    go_wp2_with fail
    go_ret
    exact ⟨by simp, (k1).tr k2⟩
  by_cases g4 : 0 < ar
  case neg =>
    have f4 : decide (0 < ar) = false := decide_eq_false g4
    clear g4
    go_enter Try.func49, Try.ntmps49
    go_wp2_with fail
    with_reducible refine (cw _ (Kp.refl _ _)).mono ?_
    rintro e w1 ⟨rfl, k1⟩
    go_wp2_with fail
    with_reducible refine (ct _ (k1)).mono ?_
    rintro e w2 ⟨rfl, k2⟩
    go_wp2_with fail
    with_reducible refine (ca _ ((k1).tr k2)).mono ?_
    rintro e w3 ⟨rfl, k3⟩
    go_wp2_with fail
    go_ret
    exact ⟨by simp [f4], ((k1).tr k2).tr k3⟩
  have f4 : decide (0 < ar) = true := decide_eq_true g4
  clear g4
  go_enter Try.func49, Try.ntmps49
  go_wp2_with fail
  with_reducible refine (cw _ (Kp.refl _ _)).mono ?_
  rintro e w1 ⟨rfl, k1⟩
  go_wp2_with fail
  with_reducible refine (ct _ (k1)).mono ?_
  rintro e w2 ⟨rfl, k2⟩
  go_wp2_with fail
  with_reducible refine (ca _ ((k1).tr k2)).mono ?_
  rintro e w3 ⟨rfl, k3⟩
  go_wp2_with fail
  with_reducible refine (cs _ (((k1).tr k2).tr k3)).mono ?_
  rintro e w4 ⟨rfl, k4⟩
  go_wp2_with fail
  go_ret
  exact ⟨by simp [f0, f1, f4], (((k1).tr k2).tr k3).tr k4⟩

end Go.Proofs.Ytlogihcmmoldkaa.W

namespace Go.Proofs.Ytlogihcmmoldkaa.W
open Go.RowKit Go.Proofs.Ytlogihcmmoldkaa.V Go.Proofs.Ytlogihcmmoldkaa.G


theorem elemRing : Try.prog.elem 34 = 23 := by kernel_rfl
theorem vdrop (l : List (Int × Int)) (k : Nat) : (l.flatMap vC).drop (k * 2) = (l.drop k).flatMap vC := flat_drop (f := vC) (fun _ => rfl) l k
theorem vtake (l : List (Int × Int)) (k : Nat) : (l.flatMap vC).take (k * 2) = (l.take k).flatMap vC := flat_take (f := vC) (fun _ => rfl) l k
theorem valid_len {l : List Pt} (h : validR l = true) : 3 ≤ l.length ∧ l.length ≤ 40 := by
  unfold validR at h
  simp only [Bool.and_eq_true, decide_eq_true_eq] at h
  exact ⟨h.1.1.1.1.1, h.1.1.1.1.2⟩
theorem low_lt {l : List Pt} (h : 0 < l.length) : low l < l.length := lowTo_lt h
theorem low_first {l : List Pt} (h : 0 < l.length) : ∀ j, j < low l → at_ l j ≠ at_ l (low l) := fun j hj e => by
  have := (lowTo_is (l := l) (k := l.length) j (by have := low_lt h; omega)).2 hj
  rw [show lowTo l l.length = low l from rfl, e] at this
  exact ltV_irrefl _ this

set_option maxRecDepth 100000 in
set_option maxHeartbeats 6400000 in
theorem canon_any (l : List (Int × Int)) (v : Value) (w : World) (hv : SrcV w v l) (hl : l.length ≤ 1099511627776) : Calls Try.prog 50 #[v] w fun e w' => ∃ v', e = .returned v' ∧ OwnL w w' v' (canonR l) ∧ Nw w w' := by
  have hmix := mixed7
  have cv := ringValid_any l v w hv hl
  obtain ⟨b, hb⟩ : ∃ b, validR l = b := ⟨_, rfl⟩
  rw [hb] at cv
  cases b with
  | false =>
    rw [show canonR l = [] by unfold canonR; rw [hb]; rfl]
    clear hv hb
    go_enter Try.func50, Try.ntmps50
    go_wp2_with fail
    with_reducible refine cv.mono ?_
    rintro e w1 ⟨rfl, k1⟩
    go_wp2_with fail
    go_ret
    exact ⟨_, rfl, .inr ⟨rfl, none, 0, rfl, Nat.zero_le _⟩, k1⟩
  | true =>
    obtain ⟨g3, g40⟩ := valid_len hb
    rw [show canonR l = l.drop (low l) ++ l.take (low l) by unfold canonR; rw [hb]; rfl]
    obtain ⟨A, c, rfl⟩ := hv.shape
    have hlow := low_lt (l := l) (by omega)
    have hfst := low_first (l := l) (by omega)
    have cm := fun w1 (h : Nw w w1) => sMin_any l _ w1 (hv.nw h) (by omega) hl
    have ci := fun w1 (h : Nw w w1) => sIndex_any l _ (at_ l (low l)).1 (at_ l (low l)).2 w1 (hv.nw h) (low l) hlow rfl hfst hl
    generalize (at_ l (low l)).1 = mx at *
    generalize (at_ l (low l)).2 = my at *
    obtain ⟨k, hk⟩ : ∃ k, low l = k := ⟨_, rfl⟩
    rw [hk] at ci hlow ⊢
    obtain ⟨n, hn⟩ : ∃ n, l.length = n := ⟨_, rfl⟩
    replace hv := src_n hv hn
    rw [hn] at cv cm ci hlow g40 g3 ⊢
    obtain ⟨B1, d1, hr1, hs1, _⟩ := hv.cutl elemRing Try.underlying34 infoVec k (Nat.le_of_lt hlow)
    obtain ⟨B2, d2, hr2, hs2, _⟩ := hv.cuth elemRing Try.underlying34 infoVec k (Nat.le_of_lt hlow)
    rw [vdrop] at hs1
    rw [vtake] at hs2
    have hd1 : (l.drop k).length = n - k := by rw [List.length_drop, hn]
    have hd2 : (l.take k).length = k := by rw [List.length_take, hn]; omega
    have cc := fun w1 g (h : Nw w w1) => sConcat_any (l.drop k) (l.take k) (.slice B1 (n - k) d1) (.slice B2 k d2) w1 (by show Src _ 2 _ (l.drop k).length _; rw [hd1]; exact hs1.nw h) (by show Src _ 2 _ (l.take k).length _; rw [hd2]; exact hs2.nw h) (by rw [hd1]; omega) (by rw [hd2]; omega) g
    have HC := Lib.hid cc
    clear cc hs1 hs2 hd1 hd2 hfst hk hv hb hn hl
    go_enter Try.func50, Try.ntmps50
    go_wp2_with fail
    with_reducible refine cv.mono ?_
    rintro e w1 ⟨rfl, k1⟩
    go_wp2_with fail
    with_reducible refine (cm _ k1).mono ?_
    rintro e w2 ⟨rfl, k2⟩
    go_wp2_with fail
    with_reducible refine (ci _ (k1.tr k2)).mono ?_
    rintro e w3 ⟨rfl, k3⟩
    have HK3 := Lib.hid ((k1.tr k2).tr k3)
    clear k1 k2 k3 cm ci cv
    go_wp2_with fail
    go_region_with (go_at_call 69; ((with_reducible refine (HC.out _ _ ((by repeat (first | exact HK3.out | refine Kp.alloc ?_ _ | refine Kp.drew ?_))) (Blk.new _ _ _).drew).mono ?_); rintro e w5 ⟨v5, rfl, o5, k5⟩))
    all_goals (
      go_wp2_with fail
      go_ret
      exact ⟨_, rfl, by
        rcases o5 with ⟨kk, cap, h1, h2, h3⟩ | h
        · exact .inl ⟨kk, cap, h1, Nat.le_trans HK3.out.size (by simp at h2; omega), h3⟩
        · exact .inr h, (((by repeat (first | exact HK3.out | refine Kp.alloc ?_ _ | refine Kp.drew ?_)) : Nw w _)).tr k5⟩)

end Go.Proofs.Ytlogihcmmoldkaa.W
