/-
  ring: Valid, Area2, Convex: what they return. Condition: the list is not longer than 2^40.
  ring: Canonical: what it returns. Condition: the list is not longer than 2^40.
  ring: the reference's Begin: what it returns. Condition: the list is not longer than 2^20.
  ring: a row of vectors that the call has made, known whole. No condition.
  seg, plain: how two segments meet does not depend on their order, nor on that of their ends, and is moved with them. Conditions stand at each lemma.
  ring, plain: a ring that begins with another vertex is valid as before and has the same area; a canonical ring is its own canonical and cleaned ring. No condition.
  ring, plain: where a rational point lies: the way of the program, by edges that lead upwards, is the reference's. Conditions: the coordinates are within 2000, the point is valid.
-/
import Derived.Test.YtahamffngmdjfaaDoorK24
import Derived.Test.YtahamffngmdjfaaDoorK18
import Derived.Test.YtahamffngmdjfaaDoorK09
import Derived.Test.YtahamffngmdjfaaDoorK22
import Derived.Deep.RegionWith
import Derived.Test.YtahamffngmdjfaaDoorK08
import Derived.Test.YtahamffngmdjfaaDoorK07
namespace Go.Proofs.YtahamffngmdjfaaDoor.W
open Go.RowKit Go.Proofs.YtahamffngmdjfaaDoor.V Go.Proofs.YtahamffngmdjfaaDoor.G


set_option maxRecDepth 100000 in
set_option maxHeartbeats 6400000 in
theorem ringValid_any (l : List (Int × Int)) (v : Value) (w : World) (hv : SrcV w v l) (hl : l.length ≤ 1099511627776) : Calls Tryd.prog 42 #[v] w fun e w' => e = .returned (.bool (validR l)) ∧ Nw w w' := by
  obtain ⟨A, c, rfl⟩ := hv.shape
  obtain ⟨n, hn⟩ : ∃ n, l.length = n := ⟨_, rfl⟩
  replace hv := src_n hv hn
  rw [hn] at hl ⊢
  have HV := Lib.hid hv
  have HN := Lib.hid hn
  have hmx := src_max hv
  clear hv hn
  have hr : validR l = (decide (3 ≤ n) && decide (n ≤ 40) && allW l && turnsP l && decide (0 < areaP l) && simpleP l) := by unfold validR; rw [HN.out]
  rw [hr]
  clear hr
  have hsv := src_v HV.out HN.out
  have cw := fun w1 (h : Nw w w1) => isWithinL_any l (.slice A n c) w1 (hsv.nw h)
  have ct := fun w1 (h : Nw w w1) => turnsEv_any l (.slice A n c) w1 (hsv.nw h) (by rw [HN.out]; exact hl)
  have ca := fun w1 (h : Nw w w1) => dArea_any l (.slice A n c) w1 (hsv.nw h) (by rw [HN.out]; exact hl)
  by_cases g0 : 3 ≤ n
  case neg =>
    have f0 : decide (3 ≤ n) = false := decide_eq_false g0
    have f0' : decide ((3 : Int) ≤ (n : Int)) = false := decide_eq_false (by omega)
    clear g0
    go_enter Tryd.func42, Tryd.ntmps42
    go_wp2_with fail
    go_ret
    exact ⟨by simp [f0], Kp.refl _ _⟩
  have f0 : decide (3 ≤ n) = true := decide_eq_true g0
  have f0' : decide ((3 : Int) ≤ (n : Int)) = true := decide_eq_true (by omega)
  have cs := fun w1 (h : Nw w w1) => isSimple_any l (.slice A n c) w1 (hsv.nw h) (by rw [HN.out]; exact hl) (by rw [HN.out]; exact g0)
  clear g0 hsv
  by_cases g1 : n ≤ 40
  case neg =>
    have f1 : decide (n ≤ 40) = false := decide_eq_false g1
    have f1' : decide ((n : Int) ≤ 40) = false := decide_eq_false (by omega)
    clear g1
    go_enter Tryd.func42, Tryd.ntmps42
    go_wp2_with fail
    go_ret
    exact ⟨by simp [f1], Kp.refl _ _⟩
  have f1 : decide (n ≤ 40) = true := decide_eq_true g1
  have f1' : decide ((n : Int) ≤ 40) = true := decide_eq_true (by omega)
  clear g1
  generalize allW l = b2 at *
  generalize turnsP l = b3 at *
  obtain ⟨ar, har⟩ : ∃ a, areaP l = a := ⟨_, rfl⟩
  rw [har] at ca ⊢
  clear har
  generalize simpleP l = b5 at *
  cases b2
  case false =>
    go_enter Tryd.func42, Tryd.ntmps42
    go_wp2_with fail
    with_reducible refine (cw _ (Kp.refl _ _)).mono ?_
    rintro e w1 ⟨rfl, k1⟩
    go_wp2_with fail
    go_ret
    exact ⟨by simp, k1⟩
  cases b3
  case false =>
    go_enter Tryd.func42, Tryd.ntmps42
    go_wp2_with fail
    with_reducible refine (cw _ (Kp.refl _ _)).mono ?_
    rintro e w1 ⟨rfl, k1⟩
    go_wp2_with fail
    with_reducible refine (ct _ (k1)).mono ?_
    rintro e w2 ⟨rfl, k2⟩
    go_wp2_with fail
    go_ret
    exact ⟨by simp, (k1).tr k2⟩
  by_cases g4 : 0 < ar
  case neg =>
    have f4 : decide (0 < ar) = false := decide_eq_false g4
    clear g4
    go_enter Tryd.func42, Tryd.ntmps42
    go_wp2_with fail
    with_reducible refine (cw _ (Kp.refl _ _)).mono ?_
    rintro e w1 ⟨rfl, k1⟩
    go_wp2_with fail
    with_reducible refine (ct _ (k1)).mono ?_
    rintro e w2 ⟨rfl, k2⟩
    go_wp2_with fail
    with_reducible refine (ca _ ((k1).tr k2)).mono ?_
    rintro e w3 ⟨rfl, k3⟩
    go_wp2_with fail
    go_ret
    exact ⟨by simp [f4], ((k1).tr k2).tr k3⟩
  have f4 : decide (0 < ar) = true := decide_eq_true g4
  clear g4
  go_enter Tryd.func42, Tryd.ntmps42
  go_wp2_with fail
  with_reducible refine (cw _ (Kp.refl _ _)).mono ?_
  rintro e w1 ⟨rfl, k1⟩
  go_wp2_with fail
  with_reducible refine (ct _ (k1)).mono ?_
  rintro e w2 ⟨rfl, k2⟩
  go_wp2_with fail
  with_reducible refine (ca _ ((k1).tr k2)).mono ?_
  rintro e w3 ⟨rfl, k3⟩
  go_wp2_with fail
  with_reducible refine (cs _ (((k1).tr k2).tr k3)).mono ?_
  rintro e w4 ⟨rfl, k4⟩
  go_wp2_with fail
  go_ret
  exact ⟨by simp [f0, f1, f4], (((k1).tr k2).tr k3).tr k4⟩

end Go.Proofs.YtahamffngmdjfaaDoor.W

namespace Go.Proofs.YtahamffngmdjfaaDoor.W
open Go.RowKit Go.Proofs.YtahamffngmdjfaaDoor.V Go.Proofs.YtahamffngmdjfaaDoor.G


theorem elemRing : Tryd.prog.elem 35 = 23 := by kernel_rfl
theorem vdrop (l : List (Int × Int)) (k : Nat) : (l.flatMap vC).drop (k * 2) = (l.drop k).flatMap vC := flat_drop (f := vC) (fun _ => rfl) l k
theorem vtake (l : List (Int × Int)) (k : Nat) : (l.flatMap vC).take (k * 2) = (l.take k).flatMap vC := flat_take (f := vC) (fun _ => rfl) l k
theorem valid_len {l : List Pt} (h : validR l = true) : 3 ≤ l.length ∧ l.length ≤ 40 := by
  unfold validR at h
  simp only [Bool.and_eq_true, decide_eq_true_eq] at h
  exact ⟨h.1.1.1.1.1, h.1.1.1.1.2⟩
theorem low_lt {l : List Pt} (h : 0 < l.length) : low l < l.length := lowTo_lt h
theorem low_first {l : List Pt} (h : 0 < l.length) : ∀ j, j < low l → at_ l j ≠ at_ l (low l) := fun j hj e => by
  have := (lowTo_is (l := l) (k := l.length) j (by have := low_lt h; omega)).2 hj
  rw [show lowTo l l.length = low l from rfl, e] at this
  exact ltV_irrefl _ this

set_option maxRecDepth 100000 in
set_option maxHeartbeats 6400000 in
theorem canon_any (l : List (Int × Int)) (v : Value) (w : World) (hv : SrcV w v l) (hl : l.length ≤ 1099511627776) : Calls Tryd.prog 44 #[v] w fun e w' => ∃ v', e = .returned v' ∧ OwnL w w' v' (canonR l) ∧ Nw w w' := by
  have hmix := mixed7
  have cv := ringValid_any l v w hv hl
  obtain ⟨b, hb⟩ : ∃ b, validR l = b := ⟨_, rfl⟩
  rw [hb] at cv
  cases b with
  | false =>
    rw [show canonR l = [] by unfold canonR; rw [hb]; rfl]
    clear hv hb
    go_enter Tryd.func44, Tryd.ntmps44
    go_wp2_with fail
    with_reducible refine cv.mono ?_
    rintro e w1 ⟨rfl, k1⟩
    go_wp2_with fail
    go_ret
    exact ⟨_, rfl, .inr ⟨rfl, none, 0, rfl, Nat.zero_le _⟩, k1⟩
  | true =>
    obtain ⟨g3, g40⟩ := valid_len hb
    rw [show canonR l = l.drop (low l) ++ l.take (low l) by unfold canonR; rw [hb]; rfl]
    obtain ⟨A, c, rfl⟩ := hv.shape
    have hlow := low_lt (l := l) (by omega)
    have hfst := low_first (l := l) (by omega)
    have cm := fun w1 (h : Nw w w1) => sMin_any l _ w1 (hv.nw h) (by omega) hl
    have ci := fun w1 (h : Nw w w1) => sIndex_any l _ (at_ l (low l)).1 (at_ l (low l)).2 w1 (hv.nw h) (low l) hlow rfl hfst hl
    generalize (at_ l (low l)).1 = mx at *
    generalize (at_ l (low l)).2 = my at *
    obtain ⟨k, hk⟩ : ∃ k, low l = k := ⟨_, rfl⟩
    rw [hk] at ci hlow ⊢
    obtain ⟨n, hn⟩ : ∃ n, l.length = n := ⟨_, rfl⟩
    replace hv := src_n hv hn
    rw [hn] at cv cm ci hlow g40 g3 ⊢
    obtain ⟨B1, d1, hr1, hs1, _⟩ := hv.cutl elemRing Tryd.underlying35 infoVec k (Nat.le_of_lt hlow)
    obtain ⟨B2, d2, hr2, hs2, _⟩ := hv.cuth elemRing Tryd.underlying35 infoVec k (Nat.le_of_lt hlow)
    rw [vdrop] at hs1
    rw [vtake] at hs2
    have hd1 : (l.drop k).length = n - k := by rw [List.length_drop, hn]
    have hd2 : (l.take k).length = k := by rw [List.length_take, hn]; omega
    have cc := fun w1 g (h : Nw w w1) => sConcat_any (l.drop k) (l.take k) (.slice B1 (n - k) d1) (.slice B2 k d2) w1 (by show Src _ 2 _ (l.drop k).length _; rw [hd1]; exact hs1.nw h) (by show Src _ 2 _ (l.take k).length _; rw [hd2]; exact hs2.nw h) (by rw [hd1]; omega) (by rw [hd2]; omega) g
    have HC := Lib.hid cc
    clear cc hs1 hs2 hd1 hd2 hfst hk hv hb hn hl
    go_enter Tryd.func44, Tryd.ntmps44
    go_wp2_with fail
    with_reducible refine cv.mono ?_
    rintro e w1 ⟨rfl, k1⟩
    go_wp2_with fail
    with_reducible refine (cm _ k1).mono ?_
    rintro e w2 ⟨rfl, k2⟩
    go_wp2_with fail
    with_reducible refine (ci _ (k1.tr k2)).mono ?_
    rintro e w3 ⟨rfl, k3⟩
    have HK3 := Lib.hid ((k1.tr k2).tr k3)
    clear k1 k2 k3 cm ci cv
    go_wp2_with fail
    go_region_with (go_at_call 65; ((with_reducible refine (HC.out _ _ ((by repeat (first | exact HK3.out | refine Kp.alloc ?_ _ | refine Kp.drew ?_))) (Blk.new _ _ _).drew).mono ?_); rintro e w5 ⟨v5, rfl, o5, k5⟩))
    all_goals (
      go_wp2_with fail
      go_ret
      exact ⟨_, rfl, by
        rcases o5 with ⟨kk, cap, h1, h2, h3⟩ | h
        · exact .inl ⟨kk, cap, h1, Nat.le_trans HK3.out.size (by simp at h2; omega), h3⟩
        · exact .inr h, (((by repeat (first | exact HK3.out | refine Kp.alloc ?_ _ | refine Kp.drew ?_)) : Nw w _)).tr k5⟩)

end Go.Proofs.YtahamffngmdjfaaDoor.W

namespace Go.Proofs.YtahamffngmdjfaaDoor.W
open Go.RowKit Go.Proofs.YtahamffngmdjfaaDoor.V Go.Proofs.YtahamffngmdjfaaDoor.G


set_option maxRecDepth 100000 in
set_option maxHeartbeats 6400000 in
theorem rbegin_any (l : List (Int × Int)) (v : Value) (w : World) (hv : SrcV w v l) (hl : l.length ≤ 1048576) : Calls Tryd.prog 46 #[v] w fun e w' => ∃ v', e = .returned v' ∧ SrcV w' v' (beginL l) ∧ Nw w w' := by
  obtain ⟨A, c, rfl⟩ := hv.shape
  obtain ⟨n, hn⟩ : ∃ n, l.length = n := ⟨_, rfl⟩
  replace hv := src_n hv hn
  rw [hn] at hl ⊢
  have HV := Lib.hid hv
  have HN := Lib.hid hn
  have hmx := src_max hv
  clear hv hn
  have hmix := mixed7
  go_enter Tryd.func46, Tryd.ntmps46
  go_wp2_with fail
  go_loopw [3, 4] (fun s i wr => ∃ k : Nat, i = .int .i64 k ∧ k ≤ n ∧ s = .int .i64 (lowTo l k : Nat) ∧ Nw w wr) (fun s i _ => n - (intOf i).toNat)
  case atStart => exact ⟨0, rfl, Nat.zero_le _, rfl, (by repeat (first | exact Kp.refl _ _ | refine Kp.alloc ?_ _ | refine Kp.drew ?_))⟩
  case round =>
    obtain ⟨k, rfl, hk, rfl, hnw⟩ := hrel
    have HK := Lib.hid hnw
    clear hnw
    by_cases hkn : k < n
    · have i0 : (0 : Int) ≤ (k : Int) := by omega
      have i1 : (k : Int) < (n : Int) := by omega
      obtain ⟨s4, hs4⟩ : ∃ s : Nat, k + 1 = s := ⟨_, rfl⟩
      have a4 : IntKind.i64.wrap ((k : Int) + 1) = (s4 : Int) := by rw [IntKind.wrap_i64]; omega
      have H4 := Lib.hid hs4
      have hlw : lowTo l k < n := by
        rcases Nat.eq_zero_or_pos k with h | h
        · subst h; exact hkn
        · have := lowTo_lt (l := l) h; omega
      obtain ⟨q, hqq⟩ : ∃ q, lowTo l k = q := ⟨_, rfl⟩
      rw [hqq] at hlw ⊢
      have b4 : (0 : Int) ≤ (q : Int) := by omega
      have b5 : (q : Int) < (n : Int) := by omega
      obtain ⟨g, o, rfl, hg, hc⟩ := src_at HV.out (by omega)
      obtain ⟨⟨ax, ay⟩, ha⟩ : ∃ p, at_ l k = p := ⟨_, rfl⟩
      obtain ⟨⟨bx, bz⟩, hb⟩ : ∃ p, at_ l q = p := ⟨_, rfl⟩
      have hst : lowTo l (k + 1) = if lessV ax ay bx bz then k else q := by
        show (if lessV (at_ l k).1 (at_ l k).2 (at_ l (lowTo l k)).1 (at_ l (lowTo l k)).2 then k else lowTo l k) = _
        rw [hqq, ha, hb]
      have HST := Lib.hid hst
      have cl := fun w1 => rless_any ax ay bx bz w1
      have q0 := fun p : KeptW wr => (hc p.wd (HK.out.tr p.since) k hkn).1
      have q1 := fun p : KeptW wr => (hc p.wd (HK.out.tr p.since) k hkn).2
      have q2 := fun p : KeptW wr => (hc p.wd (HK.out.tr p.since) q hlw).1
      have q3 := fun p : KeptW wr => (hc p.wd (HK.out.tr p.since) q hlw).2
      rw [ha] at q0 q1
      rw [hb] at q2 q3
      obtain ⟨lt, hlt⟩ : ∃ b, lessV ax ay bx bz = b := ⟨_, rfl⟩
      rw [hlt] at cl HST
      clear hc hg hs4 ha hb hst hlt hlw hqq
      cases lt
      · go_wp2_with fail
        refine wp_region_kept (Kp.refl _ _) (by assumption) (by kernel_rfl) ?_
        repeat (with_reducible refine wpQuiet_step (fun K hK => ?_); go_simp; first | ((with_reducible refine hK _ ?_); clear hK K) | (with_reducible apply Exists.intro; (with_reducible refine ⟨fun _ => ?_, hK _ ?_⟩); ((first | (go_at_call 66; with_reducible exact Calls.kept_of (cl _)) | fail)); clear hK K) | (simp only [undef, reduceCtorEq, if_false]; (with_reducible refine hK _ ?_); clear hK K))
        with_reducible refine wpQuiet_nil ?_
        rintro _ ⟨p, rfl⟩
        go_wp2_with fail
        go_roundw
        case rel => exact ⟨k + 1, by rw [← H4.out], by omega, by rw [HST.out]; rfl, HK.out.tr p.since⟩
        case measure => (have := H4.out; simp [intOf]; try omega)
      · go_wp2_with fail
        refine wp_region_kept (Kp.refl _ _) (by assumption) (by kernel_rfl) ?_
        repeat (with_reducible refine wpQuiet_step (fun K hK => ?_); go_simp; first | ((with_reducible refine hK _ ?_); clear hK K) | (with_reducible apply Exists.intro; (with_reducible refine ⟨fun _ => ?_, hK _ ?_⟩); ((first | (go_at_call 66; with_reducible exact Calls.kept_of (cl _)) | fail)); clear hK K) | (simp only [undef, reduceCtorEq, if_false]; (with_reducible refine hK _ ?_); clear hK K))
        with_reducible refine wpQuiet_nil ?_
        rintro _ ⟨p, rfl⟩
        go_wp2_with fail
        go_roundw
        case rel => exact ⟨k + 1, by rw [← H4.out], by omega, by rw [HST.out]; rfl, HK.out.tr p.since⟩
        case measure => (have := H4.out; simp [intOf]; try omega)
    · obtain rfl : k = n := by omega
      have i5 : ¬ ((k : Int) < (k : Int)) := by omega
      have hlo : lowTo l k ≤ k := by
        rcases Nat.eq_zero_or_pos k with h | h
        · subst h; exact Nat.le_refl _
        · exact Nat.le_of_lt (lowTo_lt h)
      have hbg : beginL l = l.drop (lowTo l k) ++ l.take (lowTo l k) := by unfold beginL low rotL; rw [HN.out]
      obtain ⟨q, hqq⟩ : ∃ q, lowTo l k = q := ⟨_, rfl⟩
      rw [hqq] at hlo hbg ⊢
      have HBG := Lib.hid hbg
      have hv2 : SrcN wr A k c l := HV.out.nw HK.out
      obtain ⟨B1, d1, hr1, hs1, -⟩ := hv2.cutl elemVec Tryd.underlying34 infoVec q hlo
      obtain ⟨B2, d2, hr2, hs2, -⟩ := hv2.cuth elemVec Tryd.underlying34 infoVec q hlo
      rw [vdrop] at hs1
      rw [vtake] at hs2
      have HS1 := Lib.hid hs1
      have HS2 := Lib.hid hs2
      have hd : (l.drop q ++ l.take q).length = k := by rw [List.length_append, List.length_drop, List.length_take, HN.out]; omega
      have HD := Lib.hid hd
      have hq1 : k - q + q = k := by omega
      have HSZ := Lib.hid HK.out.size
      clear hs1 hs2 hd hv2 hqq hbg
      go_wp2_with fail
      go_region_law (first
        | (refine step_appG (by rfl) (.tmp 21) (.tmp 24) 34 23 2 16 (.agg #[.int .i64 0, .int .i64 0]) (by rfl) Tryd.underlying34 infoVec rfl (by omega) wr.heap.size 0 (k - q) (.slice (some ⟨wr.heap.size, 0, none⟩) 0 0) (.slice B1 (k - q) d1) [] ((l.drop q).flatMap vC) (by rfl) (own_lit_at wr wr.heap.size rfl (Nat.le_refl _)) (by rfl) (HS1.out.nw ((nw_alloc wr _).drew)) (flatV_one _) (by omega) (by omega) (by simp) ?_; intro v3 w3 own3 gr3; simp only [Nat.zero_add, List.nil_append] at own3; have hk3 : Nw wr w3 := gr3.nw ((nw_alloc wr _).drew) (by intro kk hkk; simp [Value.ownBlock] at hkk; omega))
        | (refine step_appG (by rfl) (.tmp 25) (.tmp 28) 34 23 2 16 (.agg #[.int .i64 0, .int .i64 0]) (by rfl) Tryd.underlying34 infoVec rfl (by omega) wr.heap.size (k - q) q v3 (.slice B2 q d2) ((l.drop q).flatMap vC) ((l.take q).flatMap vC) (by rfl) own3 (by rfl) (HS2.out.nw hk3) (flatV_one _) (by omega) (by omega) hk3.size ?_; intro v4 w4 own4 gr4; have hk4 : Nw wr w4 := gr4.nw hk3 (own_from own3)))
      all_goals (
        have HO4 := Lib.hid own4
        have HK4 := Lib.hid hk4
        clear own3 own4 gr3 gr4 hk3 hk4
        go_wp2_with fail
        go_ret
        refine ⟨_, rfl, ?_, HK.out.tr HK4.out⟩
        have h := own_src HO4.out
        rw [← List.flatMap_append, hq1] at h
        rw [HBG.out]
        show Src _ 2 _ (l.drop q ++ l.take q).length _
        rw [HD.out]
        exact h)

end Go.Proofs.YtahamffngmdjfaaDoor.W

namespace Go.Proofs.YtahamffngmdjfaaDoor.W
open Go.RowKit Go.Proofs.YtahamffngmdjfaaDoor.V Go.Proofs.YtahamffngmdjfaaDoor.G

abbrev RowB (w : World) (g : Nat) (l : List (Int × Int)) : Prop := Blk w g 23 (l.flatMap vC).toArray
theorem flatV_set : ∀ (l : List (Int × Int)) (k : Nat) (a b : Int), ((l.flatMap vC).set (k * 2) (.int .i64 a)).set (k * 2 + 1) (.int .i64 b) = (l.set k (a, b)).flatMap vC
  | [], k, a, b => rfl
  | q :: r, 0, a, b => rfl
  | q :: r, k + 1, a, b => by
    rw [List.set_cons_succ, List.flatMap_cons, List.flatMap_cons, ← flatV_set r k a b]
    show ((Value.int .i64 q.1 :: Value.int .i64 q.2 :: r.flatMap vC).set ((k + 1) * 2) _).set ((k + 1) * 2 + 1) _ = _
    rw [show (k + 1) * 2 = k * 2 + 1 + 1 by omega]
    rfl
theorem RowB.set_ {w : World} {g : Nat} {l : List (Int × Int)} (h : RowB w g l) (k : Nat) (a b : Int) : RowB ((w.setCell ⟨g, k * 2, none⟩ (.int .i64 a)).setCell ⟨g, k * 2 + 1, none⟩ (.int .i64 b)) g (l.set k (a, b)) := by
  have := Blk.set_ (Blk.set_ h (k * 2) (.int .i64 a)) (k * 2 + 1) (.int .i64 b)
  rw [List.setIfInBounds_toArray, List.setIfInBounds_toArray, flatV_set] at this
  exact this
theorem RowB.at_ {w : World} {g : Nat} {l : List (Int × Int)} (h : RowB w g l) {k : Nat} {e : Int × Int} (hk : l[k]? = some e) : (w.cell? ⟨g, k * 2, none⟩ = some (.int .i64 e.1) ∧ w.cell? ⟨g, k * 2 + 1, none⟩ = some (.int .i64 e.2)) ∧ w.frozen? ⟨g, k * 2, none⟩ = false ∧ w.frozen? ⟨g, k * 2 + 1, none⟩ = false := by
  obtain ⟨f1, f2⟩ := flatV_at l k e hk
  refine ⟨⟨?_, ?_⟩, h.frozen _, h.frozen _⟩
  · rw [h.cell]; simpa using f1
  · rw [h.cell]; simpa using f2
theorem RowB.src {w : World} {g : Nat} {l : List (Int × Int)} (h : RowB w g l) {n : Nat} (hn : l.length = n) (hm : n ≤ maxLen) : SrcV w (.slice (some ⟨g, 0, none⟩) n n) l := by
  subst hn
  refine ⟨flatV_len l, _, _, rfl, Nat.le_refl _, hm, fun _ => ⟨g, 0, rfl, h.lt, fun j u hu => ?_⟩⟩
  rw [Nat.zero_add, h.cell j, ← hu]
  exact List.getElem?_toArray
theorem made_vecs (n : Nat) : madeCells #[Value.int .i64 0, .int .i64 0] (n * 2) = ((List.replicate n ((0, 0) : Int × Int)).flatMap vC).toArray := by
  have hl : ((List.replicate n ((0, 0) : Int × Int)).flatMap vC) = List.replicate (n * 2) (.int .i64 0) := by
    induction n with
    | zero => rfl
    | succ n ih => rw [List.replicate_succ, List.flatMap_cons, ih, show (n + 1) * 2 = n * 2 + 1 + 1 by omega, List.replicate_succ, List.replicate_succ]; rfl
  rw [hl]
  apply Array.ext_getElem?
  intro j
  by_cases hj : j < n * 2
  · rcases Nat.mod_two_eq_zero_or_one j with h | h <;> simp [madeCells, hj, h]
  · simp [madeCells, hj]
theorem make_ring (n : Nat) (hn : n ≤ 1099511627776) (w : World) : (Instr.makeSlice 35 (.int .i64 (n : Int)) (.int .i64 (n : Int))).run Tryd.prog w = .ok (.slice (some ⟨w.heap.size, 0, none⟩) n n) (w.alloc (.cells ((List.replicate n ((0, 0) : Int × Int)).flatMap vC).toArray 23)) := by
  obtain ⟨i0, hi, hz, hs, hb⟩ := vec_info
  have hr := run_make (P := Tryd.prog) w 35 23 i0 (vV 0 0) Tryd.underlying35 hi hz .i64 .i64 n n (by omega) (Int.le_refl _) (by rw [hb]; omega) (by omega)
  simp only [Int.toNat_natCast, hs] at hr
  rw [← made_vecs]
  exact hr
end Go.Proofs.YtahamffngmdjfaaDoor.W

namespace Go.Proofs.YtahamffngmdjfaaDoor.W
open Go.RowKit Go.Proofs.YtahamffngmdjfaaDoor.V Go.Proofs.YtahamffngmdjfaaDoor.G

theorem valid_turned (ax ay bx bz : Int) : validS bx bz ax ay = validS ax ay bx bz := by
  unfold validS
  rw [Bool.and_comm]
theorem crs_turned (ax ay bx bz px py : Int) : crs bx bz ax ay px py = -crs ax ay bx bz px py := by
  unfold crs
  grind
theorem on_turned (ax ay bx bz px py : Int) : On bx bz ax ay px py ↔ On ax ay bx bz px py := by
  unfold On dotP
  rw [crs_turned, Int.mul_comm (bx - px), Int.mul_comm (bz - py)]
  constructor <;> rintro ⟨h1, h2⟩ <;> exact ⟨by omega, h2⟩
theorem prt_turned_l (ax ay bx bz cx cy dx dy : Int) : Prt bx bz ax ay cx cy dx dy ↔ Prt ax ay bx bz cx cy dx dy := by
  unfold Prt
  rw [crs_turned ax ay bx bz cx cy, crs_turned ax ay bx bz dx dy, Int.neg_mul_neg]
theorem prt_turned_r (ax ay bx bz cx cy dx dy : Int) : Prt ax ay bx bz dx dy cx cy ↔ Prt ax ay bx bz cx cy dx dy := by
  unfold Prt
  rw [Int.mul_comm]

theorem end_lm2 {ax ay bx bz cx cy dx dy : Int} (h1 : validS ax ay bx bz = true) (h2 : validS cx cy dx dy = true) {x y : Int} (hz : (x, y) ∈ endsL ax ay bx bz cx cy dx dy) : Lm x y := by
  obtain ⟨ha, hb⟩ := valid_lm h1
  obtain ⟨hc, hd⟩ := valid_lm h2
  have : (x, y) = (ax, ay) ∨ (x, y) = (bx, bz) ∨ (x, y) = (cx, cy) ∨ (x, y) = (dx, dy) := by simpa [endsL] using hz
  rcases this with e | e | e | e <;> (injection e with e1 e2; subst e1 e2; assumption)
/-- when two pairs of segments meet in the same way -/
theorem same_way {ax ay bx bz cx cy dx dy ax' ay' bx' bz' cx' cy' dx' dy' : Int}
    (hv : (validS ax' ay' bx' bz' = true ∧ validS cx' cy' dx' dy' = true) ↔ (validS ax ay bx bz = true ∧ validS cx cy dx dy = true))
    (he : ∀ z, z ∈ endsL ax' ay' bx' bz' cx' cy' dx' dy' ↔ z ∈ endsL ax ay bx bz cx cy dx dy)
    (ho : ∀ px py, (On ax' ay' bx' bz' px py ∧ On cx' cy' dx' dy' px py) ↔ (On ax ay bx bz px py ∧ On cx cy dx dy px py))
    (hp : (Prt ax' ay' bx' bz' cx' cy' dx' dy' ∧ Prt cx' cy' dx' dy' ax' ay' bx' bz') ↔ (Prt ax ay bx bz cx cy dx dy ∧ Prt cx cy dx dy ax ay bx bz))
    (hc : denX ax' ay' bx' bz' cx' cy' dx' dy' = -denX ax ay bx bz cx cy dx dy ∧ crossX ax' ay' bx' bz' cx' cy' dx' dy' = -crossX ax ay bx bz cx cy dx dy ∧ crossY ax' ay' bx' bz' cx' cy' dx' dy' = -crossY ax ay bx bz cx cy dx dy) :
    kindS ax' ay' bx' bz' cx' cy' dx' dy' = kindS ax ay bx bz cx cy dx dy ∧ atS ax' ay' bx' bz' cx' cy' dx' dy' = atS ax ay bx bz cx cy dx dy ∧ shareS ax' ay' bx' bz' cx' cy' dx' dy' = shareS ax ay bx bz cx cy dx dy := by
  by_cases h : validS ax ay bx bz = true ∧ validS cx cy dx dy = true
  · have h' := hv.2 h
    obtain ⟨h1, h2⟩ := h
    obtain ⟨h1', h2'⟩ := h'
    have hcom : comS ax' ay' bx' bz' cx' cy' dx' dy' = comS ax ay bx bz cx cy dx dy := by
      refine asc_unique (com_asc ..) (com_asc ..) fun z => ?_
      obtain ⟨x, y⟩ := z
      rw [com_mem, com_mem, he]
      refine and_congr_right fun hz => ?_
      have hl : Lm x y := end_lm2 h1 h2 hz
      obtain ⟨ha, hb⟩ := valid_lm h1
      obtain ⟨hc, hd⟩ := valid_lm h2
      obtain ⟨ha', hb'⟩ := valid_lm h1'
      obtain ⟨hc', hd'⟩ := valid_lm h2'
      unfold bothS
      rw [Bool.and_eq_true, Bool.and_eq_true]
      show conS _ _ _ _ x y = true ∧ conS _ _ _ _ x y = true ↔ conS _ _ _ _ x y = true ∧ conS _ _ _ _ x y = true
      rw [con_lm ha hb hl, con_lm hc hd hl, con_lm ha' hb' hl, con_lm hc' hd' hl]
      exact ho x y
    obtain ⟨ha, hb⟩ := valid_lm h1
    obtain ⟨hcc, hd⟩ := valid_lm h2
    obtain ⟨ha', hb'⟩ := valid_lm h1'
    obtain ⟨hc', hd'⟩ := valid_lm h2'
    have hps : (partS ax' ay' bx' bz' cx' cy' dx' dy' && partS cx' cy' dx' dy' ax' ay' bx' bz') = (partS ax ay bx bz cx cy dx dy && partS cx cy dx dy ax ay bx bz) := by
      apply Bool.eq_iff_iff.2
      rw [Bool.and_eq_true, Bool.and_eq_true, part_lm ha hb hcc hd, part_lm hcc hd ha hb, part_lm ha' hb' hc' hd', part_lm hc' hd' ha' hb']
      exact hp
    have hk : kindS ax' ay' bx' bz' cx' cy' dx' dy' = kindS ax ay bx bz cx cy dx dy := by
      rw [kind_is h1' h2', kind_is h1 h2, hcom, hps]
    have hpp : partsS ax' ay' bx' bz' cx' cy' dx' dy' = partsS ax ay bx bz cx cy dx dy := by
      unfold partsS
      rw [h1, h2, h1', h2', hcom]
    refine ⟨hk, ?_, ?_⟩
    · unfold atS
      rw [hk, hpp]
      split
      · rfl
      · split
        · rename_i hk2
          have h0 := prt_den (kind_two hk2).2.2.1
          unfold crossS
          rw [hc.1, hc.2.1, hc.2.2]
          by_cases hn : denX ax ay bx bz cx cy dx dy < 0
          · rw [if_neg (by omega), if_pos hn]
          · rw [if_pos (by omega), if_neg hn, Int.neg_neg, Int.neg_neg, Int.neg_neg]
        · rfl
    · unfold shareS
      rw [hk, hpp]
  · have h' := fun e => h (hv.1 e)
    rw [kind_inv h, kind_inv h']
    unfold atS shareS
    rw [kind_inv h, kind_inv h']
    exact ⟨rfl, rfl, rfl⟩
theorem way_swap (ax ay bx bz cx cy dx dy : Int) : kindS cx cy dx dy ax ay bx bz = kindS ax ay bx bz cx cy dx dy ∧ atS cx cy dx dy ax ay bx bz = atS ax ay bx bz cx cy dx dy ∧ shareS cx cy dx dy ax ay bx bz = shareS ax ay bx bz cx cy dx dy := by
  refine same_way ⟨fun h => ⟨h.2, h.1⟩, fun h => ⟨h.2, h.1⟩⟩ (fun z => ?_) (fun px py => ⟨fun h => ⟨h.2, h.1⟩, fun h => ⟨h.2, h.1⟩⟩) ⟨fun h => ⟨h.2, h.1⟩, fun h => ⟨h.2, h.1⟩⟩ ⟨?_, ?_, ?_⟩
  · simp only [endsL, List.mem_cons, List.not_mem_nil, or_false]
    constructor <;> (rintro (h | h | h | h) <;> simp [h])
  · unfold denX; grind
  · unfold crossX denX numX; grind
  · unfold crossY denX numX; grind
theorem way_left (ax ay bx bz cx cy dx dy : Int) : kindS bx bz ax ay cx cy dx dy = kindS ax ay bx bz cx cy dx dy ∧ atS bx bz ax ay cx cy dx dy = atS ax ay bx bz cx cy dx dy ∧ shareS bx bz ax ay cx cy dx dy = shareS ax ay bx bz cx cy dx dy := by
  refine same_way (by rw [valid_turned]) (fun z => ?_) (fun px py => by rw [on_turned]) (by rw [prt_turned_l ax ay bx bz cx cy dx dy, prt_turned_r cx cy dx dy ax ay bx bz]) ⟨?_, ?_, ?_⟩
  · simp only [endsL, List.mem_cons, List.not_mem_nil, or_false]
    constructor <;> (rintro (h | h | h | h) <;> simp [h])
  · unfold denX; grind
  · unfold crossX denX numX; grind
  · unfold crossY denX numX; grind
theorem way_right (ax ay bx bz cx cy dx dy : Int) : kindS ax ay bx bz dx dy cx cy = kindS ax ay bx bz cx cy dx dy ∧ atS ax ay bx bz dx dy cx cy = atS ax ay bx bz cx cy dx dy ∧ shareS ax ay bx bz dx dy cx cy = shareS ax ay bx bz cx cy dx dy := by
  refine same_way (by rw [valid_turned cx cy dx dy]) (fun z => ?_) (fun px py => by rw [on_turned cx]) (by rw [prt_turned_r ax ay bx bz cx cy dx dy, prt_turned_l cx cy dx dy ax ay bx bz]) ⟨?_, ?_, ?_⟩
  · simp only [endsL, List.mem_cons, List.not_mem_nil, or_false]
    constructor <;> (rintro (h | h | h | h) <;> simp [h])
  · unfold denX; grind
  · unfold crossX denX numX; grind
  · unfold crossY denX numX; grind
theorem crs_moved (ax ay bx bz px py vx vy : Int) : crs (ax + vx) (ay + vy) (bx + vx) (bz + vy) (px + vx) (py + vy) = crs ax ay bx bz px py := by
  unfold crs
  rw [show bx + vx - (ax + vx) = bx - ax by omega, show py + vy - (ay + vy) = py - ay by omega, show bz + vy - (ay + vy) = bz - ay by omega, show px + vx - (ax + vx) = px - ax by omega]
theorem on_moved (ax ay bx bz px py vx vy : Int) : On (ax + vx) (ay + vy) (bx + vx) (bz + vy) (px + vx) (py + vy) ↔ On ax ay bx bz px py := by
  unfold On dotP
  rw [crs_moved, show ax + vx - (px + vx) = ax - px by omega, show ay + vy - (py + vy) = ay - py by omega, show bx + vx - (px + vx) = bx - px by omega, show bz + vy - (py + vy) = bz - py by omega]
def mv (vx vy : Int) (z : Int × Int) : Int × Int := (z.1 + vx, z.2 + vy)
theorem lt_mv (vx vy : Int) (x y : Int × Int) : ltV (mv vx vy x) (mv vx vy y) ↔ ltV x y := by
  rw [ltV_iff, ltV_iff]
  unfold mv
  simp only
  omega
theorem asc_mv (vx vy : Int) {L : List (Int × Int)} (h : Asc L) : Asc (L.map (mv vx vy)) := by
  refine List.pairwise_map.2 (h.imp fun {a b} hab => (lt_mv vx vy a b).2 hab)
theorem first_mv (vx vy : Int) {L : List (Int × Int)} (h : L ≠ []) : firstV (L.map (mv vx vy)) = mv vx vy (firstV L) := by
  cases L with
  | nil => exact absurd rfl h
  | cons x r => rfl
theorem last_mv (vx vy : Int) {L : List (Int × Int)} (h : L ≠ []) : lastV (L.map (mv vx vy)) = mv vx vy (lastV L) := by
  unfold lastV
  rw [List.getLast?_map, List.getLast?_eq_some_getLast h]
  rfl
theorem way_moved {ax ay bx bz cx cy dx dy : Int} (vx vy : Int) (h1 : validS ax ay bx bz = true) (h2 : validS cx cy dx dy = true) (h1' : validS (ax + vx) (ay + vy) (bx + vx) (bz + vy) = true) (h2' : validS (cx + vx) (cy + vy) (dx + vx) (dy + vy) = true) :
    kindS (ax + vx) (ay + vy) (bx + vx) (bz + vy) (cx + vx) (cy + vy) (dx + vx) (dy + vy) = kindS ax ay bx bz cx cy dx dy ∧
    ((kindS ax ay bx bz cx cy dx dy = 1 ∨ kindS ax ay bx bz cx cy dx dy = 2) → atS (ax + vx) (ay + vy) (bx + vx) (bz + vy) (cx + vx) (cy + vy) (dx + vx) (dy + vy) = ((atS ax ay bx bz cx cy dx dy).1 + vx * (atS ax ay bx bz cx cy dx dy).2.2, (atS ax ay bx bz cx cy dx dy).2.1 + vy * (atS ax ay bx bz cx cy dx dy).2.2, (atS ax ay bx bz cx cy dx dy).2.2)) ∧
    (kindS ax ay bx bz cx cy dx dy = 3 → shareS (ax + vx) (ay + vy) (bx + vx) (bz + vy) (cx + vx) (cy + vy) (dx + vx) (dy + vy) = (mv vx vy (shareS ax ay bx bz cx cy dx dy).1, mv vx vy (shareS ax ay bx bz cx cy dx dy).2)) := by
  obtain ⟨ha, hb⟩ := valid_lm h1
  obtain ⟨hc, hd⟩ := valid_lm h2
  obtain ⟨ha', hb'⟩ := valid_lm h1'
  obtain ⟨hc', hd'⟩ := valid_lm h2'
  have hcom : comS (ax + vx) (ay + vy) (bx + vx) (bz + vy) (cx + vx) (cy + vy) (dx + vx) (dy + vy) = (comS ax ay bx bz cx cy dx dy).map (mv vx vy) := by
    refine asc_unique (com_asc ..) (asc_mv vx vy (com_asc ..)) fun z => ?_
    rw [List.mem_map]
    constructor
    · intro hz
      obtain ⟨x, y⟩ := z
      obtain ⟨he, hl, o1, o2⟩ := com_lm h1' h2' hz
      have e1 : x = (x - vx) + vx := by omega
      have e2 : y = (y - vy) + vy := by omega
      rw [e1, e2, on_moved] at o1 o2
      refine ⟨(x - vx, y - vy), (com_of h1 h2 ?_ o1 o2).1, by unfold mv; simp only; rw [← e1, ← e2]⟩
      rcases he with ⟨e, e'⟩ | ⟨e, e'⟩ | ⟨e, e'⟩ | ⟨e, e'⟩
      · exact .inl ⟨by omega, by omega⟩
      · exact .inr (.inl ⟨by omega, by omega⟩)
      · exact .inr (.inr (.inl ⟨by omega, by omega⟩))
      · exact .inr (.inr (.inr ⟨by omega, by omega⟩))
    · rintro ⟨⟨x, y⟩, hz, rfl⟩
      obtain ⟨he, hl, o1, o2⟩ := com_lm h1 h2 hz
      refine (com_of h1' h2' ?_ ((on_moved ..).2 o1) ((on_moved ..).2 o2)).1
      rcases he with ⟨rfl, rfl⟩ | ⟨rfl, rfl⟩ | ⟨rfl, rfl⟩ | ⟨rfl, rfl⟩
      · exact .inl ⟨rfl, rfl⟩
      · exact .inr (.inl ⟨rfl, rfl⟩)
      · exact .inr (.inr (.inl ⟨rfl, rfl⟩))
      · exact .inr (.inr (.inr ⟨rfl, rfl⟩))
  have hps : (partS (ax + vx) (ay + vy) (bx + vx) (bz + vy) (cx + vx) (cy + vy) (dx + vx) (dy + vy) && partS (cx + vx) (cy + vy) (dx + vx) (dy + vy) (ax + vx) (ay + vy) (bx + vx) (bz + vy)) = (partS ax ay bx bz cx cy dx dy && partS cx cy dx dy ax ay bx bz) := by
    apply Bool.eq_iff_iff.2
    rw [Bool.and_eq_true, Bool.and_eq_true, part_lm ha hb hc hd, part_lm hc hd ha hb, part_lm ha' hb' hc' hd', part_lm hc' hd' ha' hb']
    unfold Prt
    rw [crs_moved, crs_moved, crs_moved, crs_moved]
  have hk : kindS (ax + vx) (ay + vy) (bx + vx) (bz + vy) (cx + vx) (cy + vy) (dx + vx) (dy + vy) = kindS ax ay bx bz cx cy dx dy := by
    rw [kind_is h1' h2', kind_is h1 h2, hcom, hps]
    cases hL : comS ax ay bx bz cx cy dx dy with
    | nil => rfl
    | cons x r =>
      rw [← hL, first_mv vx vy (by rw [hL]; simp), last_mv vx vy (by rw [hL]; simp)]
      have e : (mv vx vy (firstV (comS ax ay bx bz cx cy dx dy)) = mv vx vy (lastV (comS ax ay bx bz cx cy dx dy))) = (firstV (comS ax ay bx bz cx cy dx dy) = lastV (comS ax ay bx bz cx cy dx dy)) := by
        apply propext
        constructor
        · intro h
          unfold mv at h
          injection h with h3 h4
          exact Prod.ext (by omega) (by omega)
        · intro h; rw [h]
      simp only [e, List.isEmpty_map]
  have hpp : comS ax ay bx bz cx cy dx dy ≠ [] → partsS (ax + vx) (ay + vy) (bx + vx) (bz + vy) (cx + vx) (cy + vy) (dx + vx) (dy + vy) = (mv vx vy (partsS ax ay bx bz cx cy dx dy).1, mv vx vy (partsS ax ay bx bz cx cy dx dy).2) := fun hne => by
    rw [parts_is h1 h2 hne, parts_is h1' h2' (by rw [hcom]; simpa using hne), hcom, first_mv vx vy hne, last_mv vx vy hne]
  refine ⟨hk, fun h => ?_, fun h => ?_⟩
  · unfold atS
    rw [hk]
    rcases h with h | h
    · rw [if_pos h, if_pos h, hpp (kind_ne h1 h2 h (.inl rfl)).1]
      unfold mv
      simp
    · have h0 := prt_den (kind_two h).2.2.1
      rw [if_neg (by omega), if_pos h, if_neg (by omega), if_pos h]
      have eD : denX (ax + vx) (ay + vy) (bx + vx) (bz + vy) (cx + vx) (cy + vy) (dx + vx) (dy + vy) = denX ax ay bx bz cx cy dx dy := by unfold denX; grind
      have eX : crossX (ax + vx) (ay + vy) (bx + vx) (bz + vy) (cx + vx) (cy + vy) (dx + vx) (dy + vy) = crossX ax ay bx bz cx cy dx dy + vx * denX ax ay bx bz cx cy dx dy := by unfold crossX denX numX; grind
      have eY : crossY (ax + vx) (ay + vy) (bx + vx) (bz + vy) (cx + vx) (cy + vy) (dx + vx) (dy + vy) = crossY ax ay bx bz cx cy dx dy + vy * denX ax ay bx bz cx cy dx dy := by unfold crossY denX numX; grind
      unfold crossS
      rw [eD, eX, eY]
      by_cases hn : denX ax ay bx bz cx cy dx dy < 0
      · rw [if_pos hn, if_pos hn, show -(crossX ax ay bx bz cx cy dx dy + vx * denX ax ay bx bz cx cy dx dy) = -crossX ax ay bx bz cx cy dx dy + vx * -denX ax ay bx bz cx cy dx dy by rw [Int.mul_neg]; omega, show -(crossY ax ay bx bz cx cy dx dy + vy * denX ax ay bx bz cx cy dx dy) = -crossY ax ay bx bz cx cy dx dy + vy * -denX ax ay bx bz cx cy dx dy by rw [Int.mul_neg]; omega]
        exact low_move vx vy (by omega)
      · rw [if_neg hn, if_neg hn]
        exact low_move vx vy h0
  · unfold shareS
    rw [hk, if_pos h, if_pos h]
    exact hpp (kind_ne h1 h2 h (.inr rfl)).1
end Go.Proofs.YtahamffngmdjfaaDoor.W

namespace Go.Proofs.YtahamffngmdjfaaDoor.G
open Go.RowKit Go.Proofs.YtahamffngmdjfaaDoor.V Go.Proofs.YtahamffngmdjfaaDoor.W

theorem rot_len {l : List Pt} {k : Nat} (hk : k ≤ l.length) : (rotL l k).length = l.length := by
  unfold rotL
  rw [List.length_append, List.length_drop, List.length_take]
  omega
theorem rot_at {l : List Pt} {k i : Nat} (hk : k ≤ l.length) (hi : i < l.length) : at_ (rotL l k) i = at_ l ((i + k) % l.length) := by
  apply at_of
  unfold rotL
  rcases Nat.lt_or_ge i (l.length - k) with h | h
  · rw [List.getElem?_append_left (by rw [List.length_drop]; exact h), List.getElem?_drop, Nat.mod_eq_of_lt (by omega), Nat.add_comm]
    exact at_some (by omega)
  · rw [List.getElem?_append_right (by rw [List.length_drop]; exact h), List.length_drop, List.getElem?_take_of_lt (by omega), Nat.mod_eq_sub_mod (by omega), Nat.mod_eq_of_lt (by omega), show i - (l.length - k) = i + k - l.length by omega]
    exact at_some (by omega)
theorem mod_next (i k n : Nat) : ((i + 1) % n + k) % n = ((i + k) % n + 1) % n := by
  rw [Nat.mod_add_mod, Nat.mod_add_mod]
  congr 1
  omega
theorem mod_prev {i k n : Nat} (hn : 0 < n) : ((i + n - 1) % n + k) % n = ((i + k) % n + n - 1) % n := by
  rw [Nat.mod_add_mod, show (i + k) % n + n - 1 = (i + k) % n + (n - 1) by omega, Nat.mod_add_mod]
  congr 1
  omega
theorem rot_turn {l : List Pt} {k i : Nat} (hk : k ≤ l.length) (hi : i < l.length) : turnI (rotL l k) i = turnI l ((i + k) % l.length) := by
  have hn : 0 < l.length := by omega
  unfold turnI
  rw [rot_len hk, rot_at hk (Nat.mod_lt _ hn), rot_at hk hi, rot_at hk (Nat.mod_lt _ hn), mod_next, mod_prev hn]
theorem rot_edge {l : List Pt} {k i : Nat} (hk : k ≤ l.length) (hi : i < l.length) : edgeP (rotL l k) i = edgeP l ((i + k) % l.length) := by
  have hn : 0 < l.length := by omega
  unfold edgeP
  rw [rot_len hk, rot_at hk hi, rot_at hk (Nat.mod_lt _ hn), mod_next]
theorem rot_back {n k j : Nat} (hk : k ≤ n) (hj : j < n) : (j + n - k) % n < n ∧ ((j + n - k) % n + k) % n = j := by
  refine ⟨Nat.mod_lt _ (by omega), ?_⟩
  rw [Nat.mod_add_mod, show j + n - k + k = j + n by omega, Nat.add_mod_right, Nat.mod_eq_of_lt hj]
theorem rot_all {n k : Nat} (hk : k ≤ n) (P : Nat → Prop) : (∀ i, i < n → P ((i + k) % n)) ↔ ∀ i, i < n → P i := by
  constructor
  · intro h j hj
    obtain ⟨h1, h2⟩ := rot_back hk hj
    have := h _ h1
    rwa [h2] at this
  · intro h i hi
    exact h _ (Nat.mod_lt _ (by omega))
theorem rot_allW {l : List Pt} {k : Nat} (hk : k ≤ l.length) : allW (rotL l k) = allW l := by
  apply Bool.eq_iff_iff.2
  unfold allW
  rw [allTo_iff, allTo_iff, rot_len hk, ← rot_all hk fun i => wOk (at_ l i) = true]
  exact ⟨fun h i hi => by rw [← rot_at hk hi]; exact h i hi, fun h i hi => by rw [rot_at hk hi]; exact h i hi⟩
theorem rot_turns {l : List Pt} {k : Nat} (hk : k ≤ l.length) : turnsP (rotL l k) = turnsP l := by
  apply Bool.eq_iff_iff.2
  unfold turnsP
  rw [allTo_iff, allTo_iff, rot_len hk, ← rot_all hk fun i => (!(turnI l i == 0)) = true]
  exact ⟨fun h i hi => by rw [← rot_turn hk hi]; exact h i hi, fun h i hi => by rw [rot_turn hk hi]; exact h i hi⟩

def sumTo (f : Nat → Int) : Nat → Int
  | 0 => 0
  | k + 1 => sumTo f k + f k
theorem sum_ext {f g : Nat → Int} : ∀ {k : Nat}, (∀ i, i < k → f i = g i) → sumTo f k = sumTo g k
  | 0, _ => rfl
  | k + 1, h => by
    show sumTo f k + f k = sumTo g k + g k
    rw [sum_ext fun i hi => h i (by omega), h k (by omega)]
theorem sum_shift (g : Nat → Int) : ∀ k, sumTo (fun i => g (i + 1)) k + g 0 = sumTo g (k + 1)
  | 0 => rfl
  | k + 1 => by
    show sumTo (fun i => g (i + 1)) k + g (k + 1) + g 0 = sumTo g (k + 1) + g (k + 1)
    rw [← sum_shift g k]
    omega
theorem sum_one (g : Nat → Int) (n : Nat) : sumTo (fun i => g ((i + 1) % n)) n = sumTo g n := by
  cases n with
  | zero => rfl
  | succ n =>
    rw [← sum_shift g n]
    show sumTo (fun i => g ((i + 1) % (n + 1))) n + g ((n + 1) % (n + 1)) = _
    rw [Nat.mod_self, sum_ext (g := fun i => g (i + 1)) fun i hi => by rw [Nat.mod_eq_of_lt (by omega)]]
theorem sum_rot (g : Nat → Int) (n : Nat) : ∀ k, sumTo (fun i => g ((i + k) % n)) n = sumTo g n
  | 0 => sum_ext fun i hi => by rw [Nat.add_zero, Nat.mod_eq_of_lt hi]
  | k + 1 => by
    rw [← sum_rot g n k, ← sum_one (fun i => g ((i + k) % n)) n]
    refine sum_ext fun i hi => ?_
    rw [Nat.mod_add_mod]
    congr 2
    omega
def crossAt (l : List Pt) (i : Nat) : Int := crossP (at_ l i) (at_ l ((i + 1) % l.length))
theorem area_sum (l : List Pt) : ∀ k, areaTo l k = w64 (sumTo (crossAt l) k)
  | 0 => (w64_id (n := 0) ⟨by omega, by omega⟩).symm
  | k + 1 => by
    show w64 (areaTo l k + crossAt l k) = w64 (sumTo (crossAt l) k + crossAt l k)
    rw [area_sum l k, w64_addl]
theorem rot_area {l : List Pt} {k : Nat} (hk : k ≤ l.length) : areaP (rotL l k) = areaP l := by
  unfold areaP
  rw [area_sum, area_sum, rot_len hk, ← sum_rot (crossAt l) l.length k]
  congr 1
  refine sum_ext fun i hi => ?_
  unfold crossAt
  rw [rot_len hk, rot_at hk hi, rot_at hk (Nat.mod_lt _ (by omega)), mod_next]
theorem apart_comm (e f : Ed) : apartE e f = apartE f e := by
  unfold apartE
  rw [Bool.or_comm (decide (max e.1.1 e.2.1 < _)), Bool.or_assoc, Bool.or_comm (decide (max e.1.2 e.2.2 < _)), ← Bool.or_assoc]
theorem kind_comm (e f : Ed) : kindE e f = kindE f e := (way_swap ..).1
def Simple (l : List Pt) : Prop := ∀ i j, i < l.length → j < l.length → i ≠ j → (i + 1) % l.length ≠ j → (j + 1) % l.length ≠ i → apartE (edgeP l i) (edgeP l j) = true ∨ kindE (edgeP l i) (edgeP l j) = 0
theorem simple_iff (l : List Pt) : simpleP l = true ↔ Simple l := by
  unfold simpleP
  rw [allTo_iff]
  constructor
  · intro h
    have hlt : ∀ i j, i < l.length → j < l.length → i < j → (i + 1) % l.length ≠ j → (j + 1) % l.length ≠ i → apartE (edgeP l i) (edgeP l j) = true ∨ kindE (edgeP l i) (edgeP l j) = 0 := fun i j hi hj hij h1 h2 => by
      have := allTo_iff.1 (h i hi) j hj
      unfold pairOk at this
      have c1 : ¬ j < i + 2 := by
        intro c
        apply h1
        rw [Nat.mod_eq_of_lt (by omega)]
        omega
      simp [c1, h2] at this
      exact this
    intro i j hi hj hne h1 h2
    rcases Nat.lt_or_gt_of_ne hne with c | c
    · exact hlt i j hi hj c h1 h2
    · rw [apart_comm, kind_comm]
      exact hlt j i hj hi c h2 h1
  · intro h i hi
    refine allTo_iff.2 fun j hj => ?_
    unfold pairOk
    by_cases c1 : j < i + 2
    · simp [c1]
    · by_cases c2 : (j + 1) % l.length = i
      · simp [c2]
      · have := h i j hi hj (by omega) (by
          intro e
          rcases Nat.lt_or_ge (i + 1) l.length with c | c
          · rw [Nat.mod_eq_of_lt c] at e; omega
          · omega) c2
        simp [c1, c2]
        exact this
theorem rot_inj {n k i j : Nat} (hi : i < n) (hj : j < n) (h : (i + k) % n = (j + k) % n) : i = j := by
  have h2 := congrArg (fun z => (z + (n - k % n)) % n) h
  simp only [Nat.mod_add_mod] at h2
  have e : ∀ a, a < n → (a + k + (n - k % n)) % n = a := fun a ha => by
    have hk := Nat.mod_lt k (show 0 < n by omega)
    have hd := Nat.div_add_mod k n
    rw [show a + k + (n - k % n) = a + n + n * (k / n) by omega, Nat.add_mul_mod_self_left, Nat.add_mod_right, Nat.mod_eq_of_lt ha]
  rwa [e i hi, e j hj] at h2
theorem rot_simple {l : List Pt} {k : Nat} (hk : k ≤ l.length) (h : Simple l) : Simple (rotL l k) := by
  intro i j hi hj hne h1 h2
  rw [rot_len hk] at hi hj h1 h2
  have hn : 0 < l.length := by omega
  rw [rot_edge hk hi, rot_edge hk hj]
  refine h _ _ (Nat.mod_lt _ hn) (Nat.mod_lt _ hn) (fun e => hne (rot_inj hi hj e)) (fun e => h1 ?_) (fun e => h2 ?_)
  · rw [← mod_next] at e
    exact rot_inj (Nat.mod_lt _ hn) hj e
  · rw [← mod_next] at e
    exact rot_inj (Nat.mod_lt _ hn) hi e
theorem rot_valid {l : List Pt} {k : Nat} (hk : k ≤ l.length) (h : validR l = true) : validR (rotL l k) = true := by
  unfold validR at h ⊢
  rw [rot_len hk, rot_allW hk, rot_turns hk, rot_area hk]
  simp only [Bool.and_eq_true] at h ⊢
  exact ⟨h.1, (simple_iff _).2 (rot_simple hk ((simple_iff _).1 h.2))⟩

/-- a ring that begins with its least vertex is its own canonical ring -/
theorem low_zero {l : List Pt} : ∀ {k : Nat}, (∀ j, j < k → ¬ ltV (at_ l j) (at_ l 0)) → lowTo l k = 0
  | 0, _ => rfl
  | k + 1, h => by
    have := low_zero (l := l) (k := k) fun j hj => h j (by omega)
    unfold lowTo
    rw [this]
    exact if_neg (h k (by omega))
theorem begin_again {l : List Pt} (hl : 0 < l.length) : beginL (beginL l) = beginL l := by
  have hlow : low l < l.length := lowTo_lt hl
  have hk := Nat.le_of_lt hlow
  have h0 : low (beginL l) = 0 := by
    unfold low
    refine low_zero fun j hj => ?_
    unfold beginL at hj ⊢
    rw [rot_len hk] at hj
    rw [rot_at hk hj, rot_at hk hl, Nat.zero_add, Nat.mod_eq_of_lt hlow]
    exact (lowTo_is (l := l) (k := l.length) _ (Nat.mod_lt _ hl)).1
  show rotL (beginL l) (low (beginL l)) = beginL l
  rw [h0]
  unfold rotL
  rw [List.drop_zero, List.take_zero, List.append_nil]
theorem turn_same (a b : Pt) : turnP a b b = 0 := by
  unfold turnP turnV
  rw [show (b.1 - a.1) * (b.2 - a.2) - (b.2 - a.2) * (b.1 - a.1) = 0 by rw [Int.mul_comm]; omega]
  decide +kernel
theorem no_spare {l : List Pt} (h : turnsP l = true) : need l = l.length := by
  refine need_of (Nat.le_refl _) (fun j hj => ?_) fun c => absurd c (Nat.lt_irrefl _)
  have ht := allTo_iff.1 h j hj
  unfold spare
  rw [Bool.or_eq_false_iff]
  refine ⟨?_, by simpa using ht⟩
  rw [Bool.eq_false_iff]
  intro e
  have e := eq_of_beq e
  unfold turnI at ht
  rw [← e, turn_same] at ht
  simp at ht
theorem valid_parts {l : List Pt} (h : validR l = true) : 3 ≤ l.length ∧ l.length ≤ 40 ∧ allW l = true ∧ turnsP l = true ∧ 0 < areaP l := by
  unfold validR at h
  simp only [Bool.and_eq_true, decide_eq_true_eq] at h
  exact ⟨h.1.1.1.1.1, h.1.1.1.1.2, h.1.1.1.2, h.1.1.2, h.1.2⟩
theorem clean_valid {l : List Pt} (h : validR l = true) : cleanR l = (beginL l, 0) := by
  obtain ⟨h1, h2, h3, h4, h5⟩ := valid_parts h
  have hc : cleanL l = l := clean_end (by rw [no_spare h4]; exact Nat.lt_irrefl _)
  have ht : turnedL l = l := if_neg (by omega)
  unfold cleanR
  rw [if_neg (by omega), h3, hc, ht, h]
  rfl
theorem clean_result {l : List Pt} (h : (cleanR l).2 = 0) : validR (cleanR l).1 = true ∧ cleanR (cleanR l).1 = ((cleanR l).1, 0) ∧ canonR (cleanR l).1 = (cleanR l).1 := by
  unfold cleanR at h
  split at h
  · cases h
  · rename_i h200
    split at h
    · cases h
    · rename_i hw
      split at h
      · cases h
      · rename_i hv
        have hv : validR (turnedL (cleanL l)) = true := by simpa using hv
        have e : cleanR l = (beginL (turnedL (cleanL l)), 0) := by
          unfold cleanR
          rw [if_neg h200, if_neg hw, hv]
          rfl
        rw [e]
        have h3 := (valid_parts hv).1
        have hb : validR (beginL (turnedL (cleanL l))) = true := rot_valid (Nat.le_of_lt (lowTo_lt (by omega))) hv
        refine ⟨hb, ?_, ?_⟩
        · rw [clean_valid hb, begin_again (by omega)]
        · unfold canonR
          rw [hb]
          exact begin_again (by omega)
theorem clean_none {l : List Pt} (h : (cleanR l).2 ≠ 0) : (cleanR l).1 = [] := by
  unfold cleanR at h ⊢
  split at h
  · rename_i c; rw [if_pos c]
  · rename_i c
    rw [if_neg c]
    split at h
    · rename_i c2; rw [if_pos c2]
    · rename_i c2
      rw [if_neg c2]
      split at h
      · rename_i c3; rw [if_pos c3]
      · exact absurd rfl h
end Go.Proofs.YtahamffngmdjfaaDoor.G

namespace Go.Proofs.YtahamffngmdjfaaDoor.G
open Go.RowKit Go.Proofs.YtahamffngmdjfaaDoor.V Go.Proofs.YtahamffngmdjfaaDoor.W

/-- the edge, its lower end first -/
def upE (e : Ed) : Ed := if lessV e.2.1 e.2.2 e.1.1 e.1.2 then (e.2, e.1) else e
def onU (e : Ed) (x y d : Int) : Bool := (sideP e x y d == 0) && !lessV x y (e.1.1 * d) (e.1.2 * d) && !lessV (e.2.1 * d) (e.2.2 * d) x y
def crU (e : Ed) (x y d : Int) : Bool := decide (0 < sideP e x y d) && decide (e.1.2 * d ≤ y) && decide (y < e.2.2 * d)
theorem side_turn (a b : Pt) (x y d : Int) : sideP (b, a) x y d = -sideP (a, b) x y d := by unfold sideP; grind
theorem on_turn (a b : Pt) (x y d : Int) : onP (b, a) x y d = onP (a, b) x y d := by
  unfold onP
  rw [side_turn, Int.min_comm, Int.max_comm, Int.min_comm b.2, Int.max_comm b.2]
  congr 1
  apply Bool.eq_iff_iff.2
  simp only [beq_iff_eq]
  omega
theorem cross_turn (a b : Pt) (x y d : Int) : crossesP (b, a) x y d = crossesP (a, b) x y d := by
  unfold crossesP upP downP
  rw [side_turn]
  apply Bool.eq_iff_iff.2
  simp only [Bool.or_eq_true, Bool.and_eq_true, decide_eq_true_eq]
  omega
theorem le_of_mul {k a b : Int} (hk : 0 < k) (h : k * a ≤ k * b) : a ≤ b := Int.le_of_mul_le_mul_left h hk
theorem on_low {ax ay bx bz x y d : Int} (hd : 0 < d) (hl : ay < bz ∨ ay = bz ∧ ax ≤ bx) : onU ((ax, ay), (bx, bz)) x y d = onP ((ax, ay), (bx, bz)) x y d := by
  apply Bool.eq_iff_iff.2
  unfold onU onP sideP lessV
  simp only [Bool.and_eq_true, Bool.not_eq_true', Bool.or_eq_false_iff, Bool.and_eq_false_iff, decide_eq_false_iff_not, decide_eq_true_eq, beq_iff_eq]
  rcases hl with hl | ⟨rfl, hl⟩
  · rw [Int.min_eq_left (Int.le_of_lt hl), Int.max_eq_right (Int.le_of_lt hl)]
    have hh : ay * d < bz * d := Int.mul_lt_mul_of_pos_right hl hd
    constructor
    · rintro ⟨⟨h0, h1⟩, h2⟩
      have t1 : ay * d ≤ y := by omega
      have t2 : y ≤ bz * d := by omega
      have q1 : 0 ≤ y - ay * d := by omega
      have q2 : y - ay * d ≤ (bz - ay) * d := by rw [Int.sub_mul]; omega
      have hk : 0 < bz - ay := by omega
      have e : (bz - ay) * (x - ax * d) = (bx - ax) * (y - ay * d) := by omega
      rcases Int.le_total ax bx with hx | hx
      · rw [Int.min_eq_left hx, Int.max_eq_right hx]
        have p1 : 0 ≤ (bx - ax) * (y - ay * d) := Int.mul_nonneg (by omega) q1
        have p2 : (bx - ax) * (y - ay * d) ≤ (bx - ax) * ((bz - ay) * d) := Int.mul_le_mul_of_nonneg_left q2 (by omega)
        have r1 : 0 ≤ x - ax * d := le_of_mul hk (by rw [Int.mul_zero, e]; exact p1)
        have r2 : x - ax * d ≤ (bx - ax) * d := le_of_mul hk (by rw [e]; refine Int.le_trans p2 (Int.le_of_eq ?_); grind)
        rw [Int.sub_mul] at r2
        exact ⟨⟨⟨⟨by omega, by omega⟩, t1⟩, t2⟩, h0⟩
      · rw [Int.min_eq_right hx, Int.max_eq_left hx]
        have p1 : (bx - ax) * (y - ay * d) ≤ 0 := Int.mul_nonpos_of_nonpos_of_nonneg (by omega) q1
        have p2 : (bx - ax) * ((bz - ay) * d) ≤ (bx - ax) * (y - ay * d) := Int.mul_le_mul_of_nonpos_left (by omega) q2
        have r1 : x - ax * d ≤ 0 := le_of_mul hk (by rw [Int.mul_zero, e]; exact p1)
        have r2 : (bx - ax) * d ≤ x - ax * d := le_of_mul hk (by rw [e]; refine Int.le_trans (Int.le_of_eq ?_) p2; grind)
        rw [Int.sub_mul] at r2
        exact ⟨⟨⟨⟨by omega, by omega⟩, t1⟩, t2⟩, h0⟩
    · rintro ⟨⟨⟨⟨h1, h2⟩, h3⟩, h4⟩, h0⟩
      refine ⟨⟨h0, by omega, ?_⟩, by omega, ?_⟩
      · rcases Int.lt_or_eq_of_le h3 with h | h
        · exact .inl (by omega)
        · have e : (bz - ay) * (x - ax * d) = 0 := by rw [← h, Int.sub_self, Int.mul_zero] at h0; omega
          rcases Int.mul_eq_zero.1 e with e | e
          · omega
          · exact .inr (by omega)
      · rcases Int.lt_or_eq_of_le h4 with h | h
        · exact .inl (by omega)
        · have e : (bz - ay) * (x - bx * d) = 0 := by
            rw [h] at h0
            have e2 : (bx - ax) * (bz * d - ay * d) - (bz - ay) * (x - ax * d) = -((bz - ay) * (x - bx * d)) := by grind
            omega
          rcases Int.mul_eq_zero.1 e with e | e
          · omega
          · exact .inr (by omega)
  · rw [Int.min_eq_left hl, Int.max_eq_right hl, Int.min_self, Int.max_self, Int.sub_self, Int.zero_mul]
    constructor
    · rintro ⟨⟨h0, h1⟩, h2⟩
      exact ⟨⟨⟨⟨by omega, by omega⟩, by omega⟩, by omega⟩, h0⟩
    · rintro ⟨⟨⟨⟨h1, h2⟩, h3⟩, h4⟩, h0⟩
      exact ⟨⟨h0, by omega, by omega⟩, by omega, by omega⟩
theorem cr_low {ax ay bx bz x y d : Int} (hd : 0 < d) (hl : ay < bz ∨ ay = bz ∧ ax ≤ bx) : crU ((ax, ay), (bx, bz)) x y d = crossesP ((ax, ay), (bx, bz)) x y d := by
  apply Bool.eq_iff_iff.2
  unfold crU crossesP upP downP
  simp only [Bool.and_eq_true, Bool.or_eq_true, decide_eq_true_eq]
  have h : ay * d ≤ bz * d := Int.mul_le_mul_of_nonneg_right (by omega) (Int.le_of_lt hd)
  omega
theorem up_low (e : Ed) : (upE e).1.2 < (upE e).2.2 ∨ (upE e).1.2 = (upE e).2.2 ∧ (upE e).1.1 ≤ (upE e).2.1 := by
  unfold upE
  by_cases h : lessV e.2.1 e.2.2 e.1.1 e.1.2 = true
  · rw [if_pos h]
    have := (ltV_iff e.2 e.1).1 h
    show e.2.2 < e.1.2 ∨ e.2.2 = e.1.2 ∧ e.2.1 ≤ e.1.1
    omega
  · rw [if_neg h]
    have : ¬ (e.2.2 < e.1.2 ∨ e.2.2 = e.1.2 ∧ e.2.1 < e.1.1) := fun hh => h ((ltV_iff e.2 e.1).2 hh)
    omega
theorem on_up (e : Ed) {x y d : Int} (hd : 0 < d) : onU (upE e) x y d = onP e x y d := by
  rw [show upE e = (((upE e).1.1, (upE e).1.2), ((upE e).2.1, (upE e).2.2)) from rfl, on_low hd (up_low e)]
  show onP (upE e) x y d = _
  unfold upE
  split
  · exact on_turn _ _ _ _ _
  · rfl
theorem cr_up (e : Ed) {x y d : Int} (hd : 0 < d) : crU (upE e) x y d = crossesP e x y d := by
  rw [show upE e = (((upE e).1.1, (upE e).1.2), ((upE e).2.1, (upE e).2.2)) from rfl, cr_low hd (up_low e)]
  show crossesP (upE e) x y d = _
  unfold upE
  split
  · exact cross_turn _ _ _ _ _
  · rfl
/-- the wrapped numbers are the numbers themselves -/
structure PtOk (x y d : Int) : Prop where
  d1 : 1 ≤ d
  d2 : d ≤ 134217728
  x1 : -536870912000 ≤ x
  x2 : x ≤ 536870912000
  y1 : -536870912000 ≤ y
  y2 : y ≤ 536870912000
theorem pt_ok {x y d : Int} (h : validP x y d = true) : PtOk x y d := by
  unfold validP at h
  rw [Bool.and_eq_true] at h
  obtain ⟨⟨h1, h2⟩, ⟨h3, h4, h5, h6⟩, h7, h8⟩ := in_mid (m := 4000) (by omega) h.1
  exact ⟨h1, h2, by omega, by omega, by omega, by omega⟩
theorem scaled {p : Pt} (hp : wOk p = true) {x y d : Int} (h : PtOk x y d) : (-268435456000 ≤ p.1 * d ∧ p.1 * d ≤ 268435456000 ∧ -268435456000 ≤ p.2 * d ∧ p.2 * d ≤ 268435456000) ∧ w64 (d * p.1) = p.1 * d ∧ w64 (d * p.2) = p.2 * d ∧ w64 (p.1 * d) = p.1 * d ∧ w64 (p.2 * d) = p.2 * d := by
  obtain ⟨g1, g2, g3, g4⟩ := (w_lm hp).1
  obtain ⟨d1, d2⟩ := And.intro h.d1 h.d2
  have a1 := abs_le_mul (x := p.1) (y := d) (A := 2000) (B := 134217728) (by omega) (by omega)
  have a2 := abs_le_mul (x := p.2) (y := d) (A := 2000) (B := 134217728) (by omega) (by omega)
  rw [Int.mul_comm d, Int.mul_comm d]
  exact ⟨by omega, w64_id ⟨by omega, by omega⟩, w64_id ⟨by omega, by omega⟩, w64_id ⟨by omega, by omega⟩, w64_id ⟨by omega, by omega⟩⟩
theorem side_cross {e : Ed} (h1 : wOk e.1 = true) (h2 : wOk e.2 = true) {x y d : Int} (h : PtOk x y d) : crossV (w64 (e.2.1 - e.1.1)) (w64 (e.2.2 - e.1.2)) (w64 (x - e.1.1 * d)) (w64 (y - e.1.2 * d)) = sideP e x y d := by
  obtain ⟨⟨b1, b2, b3, b4⟩, _⟩ := scaled h1 h
  obtain ⟨g1, g2, g3, g4⟩ := (w_lm h1).1
  obtain ⟨k1, k2, k3, k4⟩ := (w_lm h2).1
  obtain ⟨_, _, x1, x2, y1, y2⟩ := h
  rw [w64_id (n := e.2.1 - e.1.1) ⟨by omega, by omega⟩, w64_id (n := e.2.2 - e.1.2) ⟨by omega, by omega⟩, w64_id (n := x - e.1.1 * d) ⟨by omega, by omega⟩, w64_id (n := y - e.1.2 * d) ⟨by omega, by omega⟩]
  have a1 := abs_le_mul (x := e.2.1 - e.1.1) (y := y - e.1.2 * d) (A := 4000) (B := 900000000000) (by omega) (by omega)
  have a2 := abs_le_mul (x := e.2.2 - e.1.2) (y := x - e.1.1 * d) (A := 4000) (B := 900000000000) (by omega) (by omega)
  unfold crossV sideP
  exact w64_id ⟨by omega, by omega⟩
end Go.Proofs.YtahamffngmdjfaaDoor.G
