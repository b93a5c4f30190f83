/-
  ring: the reference's Clean: it returns what the program's does. Condition: the list is not longer than 2^40.
  seg, plain: how two segments meet does not depend on their order, nor on that of their ends, and is moved with them. Conditions stand at each lemma.
  ring, plain: a ring that begins with another vertex is valid as before and has the same area; a canonical ring is its own canonical and cleaned ring. No condition.
  RingClean: the law returns true, whatever its argument. No condition.
-/
import Derived.Test.YthiabmcfooobfaaK28
import Derived.Test.YthiabmcfooobfaaK19
import Derived.Test.YthiabmcfooobfaaK29
import Derived.Test.YthiabmcfooobfaaK26
import Derived.Test.YthiabmcfooobfaaK13
namespace Go.Proofs.Ythiabmcfooobfaa.W
open Go.RowKit Go.Proofs.Ythiabmcfooobfaa.V Go.Proofs.Ythiabmcfooobfaa.G


set_option maxRecDepth 100000 in
set_option maxHeartbeats 12800000 in
theorem rclean8_any (l : List (Int × Int)) (v : Value) (w : World) (hv : SrcV w v l) (hl : l.length ≤ 1099511627776) : Calls Try.prog 88 #[v] w fun e w' => ∃ v', e = .returned (.tuple #[v', .int .i64 (cleanR l).2]) ∧ SrcV w' v' (cleanR l).1 ∧ Nw w w' := by
  have hmix := mixed7
  have cw := rwithinL_any l v w hv
  obtain ⟨A, c, rfl⟩ := hv.shape
  obtain ⟨n, hn⟩ : ∃ n, l.length = n := ⟨_, rfl⟩
  replace hv := src_n hv hn
  rw [hn] at cw hl ⊢
  by_cases h200 : 200 < n
  · have hi : (200 : Int) < (n : Int) := by omega
    rw [show cleanR l = ([], 9) by unfold cleanR; rw [hn, if_pos h200]]
    clear hv cw
    go_enter Try.func88, Try.ntmps88
    go_wp2_with fail
    go_ret2
    exact ⟨_, rfl, src_none _ _ _ (Nat.zero_le _), Kp.refl _ _⟩
  have hi : ¬ ((200 : Int) < (n : Int)) := by omega
  obtain ⟨b, hb⟩ : ∃ b, allW l = b := ⟨_, rfl⟩
  rw [hb] at cw
  cases b with
  | false =>
    rw [show cleanR l = ([], 2) by unfold cleanR; rw [hn, if_neg h200, hb]; rfl]
    clear hv hb h200
    go_enter Try.func88, Try.ntmps88
    go_wp2_with fail
    with_reducible refine cw.mono ?_
    rintro e w1 ⟨rfl, k1⟩
    go_wp2_with fail
    go_ret2
    exact ⟨_, rfl, src_none _ _ _ (Nat.zero_le _), k1⟩
  | true =>
    have HR := Lib.hid (show cleanR l = if !validR (turnedL (cleanL l)) then ([], 11) else (beginL (turnedL (cleanL l)), 0) by unfold cleanR; rw [hn, if_neg h200, hb]; rfl)
    have HN := Lib.hid hn
    have HV := Lib.hid hv
    have H200 := Lib.hid h200
    clear hv hb hn h200 hl
    go_enter Try.func88, Try.ntmps88
    go_wp2_with fail
    with_reducible refine cw.mono ?_
    rintro e w1 ⟨rfl, k1⟩
    have HK1 := Lib.hid k1
    have hB1 : w1.heap.size ≤ w1.heap.size := Nat.le_refl _
    clear k1 cw
    go_wp2_with (at_builtin; refine wp_appG rfl (.tmp 12) (.tmp 13) 36 23 2 16 (.agg #[.int .i64 0, .int .i64 0]) rfl Try.underlying36 infoVec rfl (by omega) w1.heap.size 0 n _ _ [] (l.flatMap vC) (by rfl) (own_lit_at w1 w1.heap.size rfl (Nat.le_refl _)) (by rfl) (HV.out.nw (HK1.out.alloc _)) (flatV_one _) (by have := H200.out; omega) (by have := H200.out; omega) (by simp) ?_; intro v2 w2 own2 gr2)
    simp only [Nat.zero_add, List.nil_append] at own2
    have HK2 := Lib.hid (HK1.out.tr (gr2.nw (nw_alloc w1 _) (by intro kk hkk; simp [Value.ownBlock] at hkk; omega)))
    have HO2 := Lib.hid (show SrcV w2 v2 l by show Src _ 2 _ l.length _; rw [HN.out]; exact own_src own2)
    clear own2 gr2
    go_wp2_with fail
    with_reducible refine (extra_any l v2 _ HO2.out (by have := HN.out; have := H200.out; omega)).mono ?_
    rintro e w3 ⟨rfl, k3⟩
    have HK3 := Lib.hid (HK2.out.tr k3)
    have HO3 := Lib.hid (HO2.out.nw k3)
    clear k3
    obtain ⟨x0, hx0⟩ : ∃ x : Int, (if need l < l.length then (need l : Int) else -1) = x := ⟨_, rfl⟩
    rw [hx0]
    have HX0 := Lib.hid hx0
    clear hx0
    go_wp2_with fail
    go_loopw [4, 5] (fun r i wr => ∃ (m : List (Int × Int)) (x : Int), i = .int .i64 x ∧ (if need m < m.length then (need m : Int) else -1) = x ∧ SrcV wr r m ∧ cleanL m = cleanL l ∧ m.length ≤ n ∧ Nw w wr) (fun r i _ => lenV r)
    case atStart => exact ⟨l, x0, rfl, HX0.out, HO3.out, rfl, by rw [HN.out]; exact Nat.le_refl _, HK3.out⟩
    case round =>
      obtain ⟨m, x, rfl, hx, ho, hcl, hmn, hnw⟩ := hrel
      obtain ⟨A1, c1, rfl⟩ := ho.shape
      have HO := Lib.hid ho
      have HK := Lib.hid hnw
      have HCL := Lib.hid hcl
      have HMN := Lib.hid hmn
      have hmb : m.length ≤ 1099511627776 := by have := H200.out; omega
      have hm2 : m.length ≤ 200 := by have := H200.out; omega
      clear ho hnw hcl hmn
      by_cases hne : need m < m.length
      · rw [if_pos hne] at hx
        subst hx
        obtain ⟨k, hk⟩ : ∃ k, need m = k := ⟨_, rfl⟩
        obtain ⟨J, hJ⟩ : ∃ J, k + 1 = J := ⟨_, rfl⟩
        obtain ⟨q, hq⟩ : ∃ q, m.length = q := ⟨_, rfl⟩
        have HC2 := Lib.hid (show cleanL (m.eraseIdx k) = cleanL l by rw [← HCL.out, ← hk]; exact clean_step hne)
        have HE := Lib.hid (show (m.eraseIdx k).length = q - 1 ∧ 0 < q by rw [← hq]; exact ⟨List.length_eraseIdx_of_lt (by rw [← hk]; exact hne), by omega⟩)
        have HEE := Lib.hid (show m.eraseIdx k = m.take k ++ m.drop J by rw [List.eraseIdx_eq_take_drop_succ, hJ])
        have hs : SrcN wr A1 q c1 m := src_n HO.out hq
        rw [hk, hq] at hne
        rw [hk, hq]
        rw [hq] at hmb hm2
        have HQ := Lib.hid hq
        have i1 : (0 : Int) ≤ (k : Int) := by omega
        have a4 : IntKind.i64.wrap ((k : Int) + 1) = (J : Int) := by rw [IntKind.wrap_i64]; omega
        obtain ⟨B1, d1, hr1, hs1, -⟩ := hs.cuth elemVec Try.underlying36 infoVec k (by omega)
        obtain ⟨B2, d2, hr2, hs2, -⟩ := hs.cutl elemVec Try.underlying36 infoVec J (by omega)
        rw [vtake] at hs1
        rw [vdrop] at hs2
        have HS1 := Lib.hid hs1
        have HS2 := Lib.hid hs2
        have hqj : k + (q - J) = q - 1 := by omega
        have HNE := Lib.hid hne
        clear hs1 hs2 hk hJ hq hs
        go_wp2_with fail
        go_region_law (first
          | (refine step_appG (by rfl) (.tmp 21) (.tmp 24) 36 23 2 16 (.agg #[.int .i64 0, .int .i64 0]) (by rfl) Try.underlying36 infoVec rfl (by omega) wr.heap.size 0 k (.slice (some ⟨wr.heap.size, 0, none⟩) 0 0) (.slice B1 k d1) [] ((m.take k).flatMap vC) (by rfl) (own_lit_at wr wr.heap.size rfl (Nat.le_refl _)) (by rfl) (HS1.out.nw ((nw_alloc wr _).drew)) (flatV_one _) (by omega) (by omega) (by simp) ?_; intro v3 w4 own3 gr3; simp only [Nat.zero_add, List.nil_append] at own3; have hk3 : Nw wr w4 := gr3.nw ((nw_alloc wr _).drew) (by intro kk hkk; simp [Value.ownBlock] at hkk; omega))
          | (refine step_appG (by rfl) (.tmp 25) (.tmp 29) 36 23 2 16 (.agg #[.int .i64 0, .int .i64 0]) (by rfl) Try.underlying36 infoVec rfl (by omega) wr.heap.size k (q - J) v3 (.slice B2 (q - J) d2) ((m.take k).flatMap vC) ((m.drop J).flatMap vC) (by rfl) own3 (by rfl) (HS2.out.nw hk3) (flatV_one _) (by omega) (by omega) hk3.size ?_; intro v4 w5 own4 gr4; have hk4 : Nw wr w5 := gr4.nw hk3 (own_from own3)))
        all_goals (
          have HO4 := Lib.hid (show SrcV w5 v4 (m.eraseIdx k) by
            have h := own_src own4
            rw [← List.flatMap_append, ← HEE.out, hqj] at h
            show Src _ 2 _ (m.eraseIdx k).length _
            rw [HE.out.1]
            exact h)
          have HK4 := Lib.hid (HK.out.tr hk4)
          clear own3 own4 gr3 gr4 hk3 hk4
          go_wp2_with fail
          with_reducible refine (extra_any (m.eraseIdx k) v4 _ HO4.out (by have := HE.out.1; omega)).mono ?_
          rintro e w6 ⟨rfl, k6⟩
          obtain ⟨A5, c5, rfl⟩ := HO4.out.shape
          go_wp2_with fail
          go_roundw
          case rel => exact ⟨_, _, rfl, rfl, HO4.out.nw k6, HC2.out, by have := HE.out.1; have := HMN.out; have := HQ.out; omega, HK4.out.tr k6⟩
          case measure => (have := HE.out; simp [lenV]; omega))
      · rw [if_neg hne] at hx
        have i1 : ¬ (0 ≤ x) := by omega
        have i2 : decide (0 ≤ x) = false := decide_eq_false i1
        obtain ⟨C, hC⟩ : ∃ C, cleanL l = C := ⟨_, rfl⟩
        have hmC : m = C := by rw [← hC, ← HCL.out, clean_end hne]
        subst hmC
        have HR2 := Lib.hid (show cleanR l = if !validR (turnedL m) then ([], 11) else (beginL (turnedL m), 0) by rw [HR.out, hC])
        clear hC hx
        go_wp2_with fail
        with_reducible refine (rsigned_any m _ _ HO.out hmb).mono ?_
        rintro e w4 ⟨rfl, k4⟩
        have HK4 := Lib.hid (HK.out.tr k4)
        have HO4 := Lib.hid (HO.out.nw k4)
        clear k4
        obtain ⟨a, ha⟩ : ∃ a, areaP m = a := ⟨_, rfl⟩
        rw [ha]
        obtain ⟨T, hT⟩ : ∃ T, turnedL m = T := ⟨_, rfl⟩
        have HTL := Lib.hid (show T.length ≤ 1048576 by
          rw [← hT]; unfold turnedL; split
          · rw [List.length_reverse]; omega
          · omega)
        have HR3 := Lib.hid (show cleanR l = if !validR T then ([], 11) else (beginL T, 0) by rw [HR2.out, hT])
        have HTT := Lib.hid (show T = if a < 0 then m.reverse else m by rw [← hT, ← ha]; rfl)
        clear ha hT HR2 i1 i2 hne HR
        by_cases h0 : a < 0
        · go_wp2_with fail
          with_reducible refine (rreverse_any m _ w4 HO4.out hmb).mono ?_
          rintro e w5 ⟨v5, rfl, o5, k5⟩
          rw [show m.reverse = T by rw [HTT.out, if_pos h0]] at o5
          have HO5 := Lib.hid o5
          have HK5 := Lib.hid (HK4.out.tr k5)
          clear o5 k5
          go_wp2_with fail
          with_reducible refine (rvalid8_any T _ _ HO5.out (by have := HTL.out; omega)).mono ?_
          rintro e w6 ⟨rfl, k6⟩
          have HO6 := Lib.hid (HO5.out.nw k6)
          have HK6 := Lib.hid (HK5.out.tr k6)
          clear k6
          obtain ⟨b, hb⟩ : ∃ b, validR T = b := ⟨_, rfl⟩
          rw [hb]
          have HB := Lib.hid hb
          clear hb
          cases b
          · go_wp2_with fail
            go_ret2
            rw [HR3.out, HB.out]
            exact ⟨_, rfl, src_none _ _ _ (Nat.zero_le _), HK6.out⟩
          · go_wp2_with fail
            with_reducible refine (rbegin_any T _ _ HO6.out HTL.out).mono ?_
            rintro e w7 ⟨v7, rfl, o7, k7⟩
            go_wp2_with fail
            go_ret2
            rw [HR3.out, HB.out]
            exact ⟨_, rfl, o7, HK6.out.tr k7⟩
        · have hmT := Lib.hid (show m = T by rw [HTT.out, if_neg h0])
          have HO5 := Lib.hid (show SrcV w4 (.slice A1 m.length c1) T by rw [← hmT.out]; exact HO4.out)
          have HK5 := Lib.hid HK4.out
          go_wp2_with fail
          with_reducible refine (rvalid8_any T _ _ HO5.out (by have := HTL.out; omega)).mono ?_
          rintro e w6 ⟨rfl, k6⟩
          have HO6 := Lib.hid (HO5.out.nw k6)
          have HK6 := Lib.hid (HK5.out.tr k6)
          clear k6
          obtain ⟨b, hb⟩ : ∃ b, validR T = b := ⟨_, rfl⟩
          rw [hb]
          have HB := Lib.hid hb
          clear hb
          cases b
          · go_wp2_with fail
            go_ret2
            rw [HR3.out, HB.out]
            exact ⟨_, rfl, src_none _ _ _ (Nat.zero_le _), HK6.out⟩
          · go_wp2_with fail
            with_reducible refine (rbegin_any T _ _ HO6.out HTL.out).mono ?_
            rintro e w7 ⟨v7, rfl, o7, k7⟩
            go_wp2_with fail
            go_ret2
            rw [HR3.out, HB.out]
            exact ⟨_, rfl, o7, HK6.out.tr k7⟩

end Go.Proofs.Ythiabmcfooobfaa.W

namespace Go.Proofs.Ythiabmcfooobfaa.W
open Go.RowKit Go.Proofs.Ythiabmcfooobfaa.V Go.Proofs.Ythiabmcfooobfaa.G

theorem valid_turned (ax ay bx bz : Int) : validS bx bz ax ay = validS ax ay bx bz := by
  unfold validS
  rw [Bool.and_comm]
theorem crs_turned (ax ay bx bz px py : Int) : crs bx bz ax ay px py = -crs ax ay bx bz px py := by
  unfold crs
  grind
theorem on_turned (ax ay bx bz px py : Int) : On bx bz ax ay px py ↔ On ax ay bx bz px py := by
  unfold On dotP
  rw [crs_turned, Int.mul_comm (bx - px), Int.mul_comm (bz - py)]
  constructor <;> rintro ⟨h1, h2⟩ <;> exact ⟨by omega, h2⟩
theorem prt_turned_l (ax ay bx bz cx cy dx dy : Int) : Prt bx bz ax ay cx cy dx dy ↔ Prt ax ay bx bz cx cy dx dy := by
  unfold Prt
  rw [crs_turned ax ay bx bz cx cy, crs_turned ax ay bx bz dx dy, Int.neg_mul_neg]
theorem prt_turned_r (ax ay bx bz cx cy dx dy : Int) : Prt ax ay bx bz dx dy cx cy ↔ Prt ax ay bx bz cx cy dx dy := by
  unfold Prt
  rw [Int.mul_comm]

theorem end_lm2 {ax ay bx bz cx cy dx dy : Int} (h1 : validS ax ay bx bz = true) (h2 : validS cx cy dx dy = true) {x y : Int} (hz : (x, y) ∈ endsL ax ay bx bz cx cy dx dy) : Lm x y := by
  obtain ⟨ha, hb⟩ := valid_lm h1
  obtain ⟨hc, hd⟩ := valid_lm h2
  have : (x, y) = (ax, ay) ∨ (x, y) = (bx, bz) ∨ (x, y) = (cx, cy) ∨ (x, y) = (dx, dy) := by simpa [endsL] using hz
  rcases this with e | e | e | e <;> (injection e with e1 e2; subst e1 e2; assumption)
/-- when two pairs of segments meet in the same way -/
theorem same_way {ax ay bx bz cx cy dx dy ax' ay' bx' bz' cx' cy' dx' dy' : Int}
    (hv : (validS ax' ay' bx' bz' = true ∧ validS cx' cy' dx' dy' = true) ↔ (validS ax ay bx bz = true ∧ validS cx cy dx dy = true))
    (he : ∀ z, z ∈ endsL ax' ay' bx' bz' cx' cy' dx' dy' ↔ z ∈ endsL ax ay bx bz cx cy dx dy)
    (ho : ∀ px py, (On ax' ay' bx' bz' px py ∧ On cx' cy' dx' dy' px py) ↔ (On ax ay bx bz px py ∧ On cx cy dx dy px py))
    (hp : (Prt ax' ay' bx' bz' cx' cy' dx' dy' ∧ Prt cx' cy' dx' dy' ax' ay' bx' bz') ↔ (Prt ax ay bx bz cx cy dx dy ∧ Prt cx cy dx dy ax ay bx bz))
    (hc : denX ax' ay' bx' bz' cx' cy' dx' dy' = -denX ax ay bx bz cx cy dx dy ∧ crossX ax' ay' bx' bz' cx' cy' dx' dy' = -crossX ax ay bx bz cx cy dx dy ∧ crossY ax' ay' bx' bz' cx' cy' dx' dy' = -crossY ax ay bx bz cx cy dx dy) :
    kindS ax' ay' bx' bz' cx' cy' dx' dy' = kindS ax ay bx bz cx cy dx dy ∧ atS ax' ay' bx' bz' cx' cy' dx' dy' = atS ax ay bx bz cx cy dx dy ∧ shareS ax' ay' bx' bz' cx' cy' dx' dy' = shareS ax ay bx bz cx cy dx dy := by
  by_cases h : validS ax ay bx bz = true ∧ validS cx cy dx dy = true
  · have h' := hv.2 h
    obtain ⟨h1, h2⟩ := h
    obtain ⟨h1', h2'⟩ := h'
    have hcom : comS ax' ay' bx' bz' cx' cy' dx' dy' = comS ax ay bx bz cx cy dx dy := by
      refine asc_unique (com_asc ..) (com_asc ..) fun z => ?_
      obtain ⟨x, y⟩ := z
      rw [com_mem, com_mem, he]
      refine and_congr_right fun hz => ?_
      have hl : Lm x y := end_lm2 h1 h2 hz
      obtain ⟨ha, hb⟩ := valid_lm h1
      obtain ⟨hc, hd⟩ := valid_lm h2
      obtain ⟨ha', hb'⟩ := valid_lm h1'
      obtain ⟨hc', hd'⟩ := valid_lm h2'
      unfold bothS
      rw [Bool.and_eq_true, Bool.and_eq_true]
      show conS _ _ _ _ x y = true ∧ conS _ _ _ _ x y = true ↔ conS _ _ _ _ x y = true ∧ conS _ _ _ _ x y = true
      rw [con_lm ha hb hl, con_lm hc hd hl, con_lm ha' hb' hl, con_lm hc' hd' hl]
      exact ho x y
    obtain ⟨ha, hb⟩ := valid_lm h1
    obtain ⟨hcc, hd⟩ := valid_lm h2
    obtain ⟨ha', hb'⟩ := valid_lm h1'
    obtain ⟨hc', hd'⟩ := valid_lm h2'
    have hps : (partS ax' ay' bx' bz' cx' cy' dx' dy' && partS cx' cy' dx' dy' ax' ay' bx' bz') = (partS ax ay bx bz cx cy dx dy && partS cx cy dx dy ax ay bx bz) := by
      apply Bool.eq_iff_iff.2
      rw [Bool.and_eq_true, Bool.and_eq_true, part_lm ha hb hcc hd, part_lm hcc hd ha hb, part_lm ha' hb' hc' hd', part_lm hc' hd' ha' hb']
      exact hp
    have hk : kindS ax' ay' bx' bz' cx' cy' dx' dy' = kindS ax ay bx bz cx cy dx dy := by
      rw [kind_is h1' h2', kind_is h1 h2, hcom, hps]
    have hpp : partsS ax' ay' bx' bz' cx' cy' dx' dy' = partsS ax ay bx bz cx cy dx dy := by
      unfold partsS
      rw [h1, h2, h1', h2', hcom]
    refine ⟨hk, ?_, ?_⟩
    · unfold atS
      rw [hk, hpp]
      split
      · rfl
      · split
        · rename_i hk2
          have h0 := prt_den (kind_two hk2).2.2.1
          unfold crossS
          rw [hc.1, hc.2.1, hc.2.2]
          by_cases hn : denX ax ay bx bz cx cy dx dy < 0
          · rw [if_neg (by omega), if_pos hn]
          · rw [if_pos (by omega), if_neg hn, Int.neg_neg, Int.neg_neg, Int.neg_neg]
        · rfl
    · unfold shareS
      rw [hk, hpp]
  · have h' := fun e => h (hv.1 e)
    rw [kind_inv h, kind_inv h']
    unfold atS shareS
    rw [kind_inv h, kind_inv h']
    exact ⟨rfl, rfl, rfl⟩
theorem way_swap (ax ay bx bz cx cy dx dy : Int) : kindS cx cy dx dy ax ay bx bz = kindS ax ay bx bz cx cy dx dy ∧ atS cx cy dx dy ax ay bx bz = atS ax ay bx bz cx cy dx dy ∧ shareS cx cy dx dy ax ay bx bz = shareS ax ay bx bz cx cy dx dy := by
  refine same_way ⟨fun h => ⟨h.2, h.1⟩, fun h => ⟨h.2, h.1⟩⟩ (fun z => ?_) (fun px py => ⟨fun h => ⟨h.2, h.1⟩, fun h => ⟨h.2, h.1⟩⟩) ⟨fun h => ⟨h.2, h.1⟩, fun h => ⟨h.2, h.1⟩⟩ ⟨?_, ?_, ?_⟩
  · simp only [endsL, List.mem_cons, List.not_mem_nil, or_false]
    constructor <;> (rintro (h | h | h | h) <;> simp [h])
  · unfold denX; grind
  · unfold crossX denX numX; grind
  · unfold crossY denX numX; grind
theorem way_left (ax ay bx bz cx cy dx dy : Int) : kindS bx bz ax ay cx cy dx dy = kindS ax ay bx bz cx cy dx dy ∧ atS bx bz ax ay cx cy dx dy = atS ax ay bx bz cx cy dx dy ∧ shareS bx bz ax ay cx cy dx dy = shareS ax ay bx bz cx cy dx dy := by
  refine same_way (by rw [valid_turned]) (fun z => ?_) (fun px py => by rw [on_turned]) (by rw [prt_turned_l ax ay bx bz cx cy dx dy, prt_turned_r cx cy dx dy ax ay bx bz]) ⟨?_, ?_, ?_⟩
  · simp only [endsL, List.mem_cons, List.not_mem_nil, or_false]
    constructor <;> (rintro (h | h | h | h) <;> simp [h])
  · unfold denX; grind
  · unfold crossX denX numX; grind
  · unfold crossY denX numX; grind
theorem way_right (ax ay bx bz cx cy dx dy : Int) : kindS ax ay bx bz dx dy cx cy = kindS ax ay bx bz cx cy dx dy ∧ atS ax ay bx bz dx dy cx cy = atS ax ay bx bz cx cy dx dy ∧ shareS ax ay bx bz dx dy cx cy = shareS ax ay bx bz cx cy dx dy := by
  refine same_way (by rw [valid_turned cx cy dx dy]) (fun z => ?_) (fun px py => by rw [on_turned cx]) (by rw [prt_turned_r ax ay bx bz cx cy dx dy, prt_turned_l cx cy dx dy ax ay bx bz]) ⟨?_, ?_, ?_⟩
  · simp only [endsL, List.mem_cons, List.not_mem_nil, or_false]
    constructor <;> (rintro (h | h | h | h) <;> simp [h])
  · unfold denX; grind
  · unfold crossX denX numX; grind
  · unfold crossY denX numX; grind
theorem crs_moved (ax ay bx bz px py vx vy : Int) : crs (ax + vx) (ay + vy) (bx + vx) (bz + vy) (px + vx) (py + vy) = crs ax ay bx bz px py := by
  unfold crs
  rw [show bx + vx - (ax + vx) = bx - ax by omega, show py + vy - (ay + vy) = py - ay by omega, show bz + vy - (ay + vy) = bz - ay by omega, show px + vx - (ax + vx) = px - ax by omega]
theorem on_moved (ax ay bx bz px py vx vy : Int) : On (ax + vx) (ay + vy) (bx + vx) (bz + vy) (px + vx) (py + vy) ↔ On ax ay bx bz px py := by
  unfold On dotP
  rw [crs_moved, show ax + vx - (px + vx) = ax - px by omega, show ay + vy - (py + vy) = ay - py by omega, show bx + vx - (px + vx) = bx - px by omega, show bz + vy - (py + vy) = bz - py by omega]
def mv (vx vy : Int) (z : Int × Int) : Int × Int := (z.1 + vx, z.2 + vy)
theorem lt_mv (vx vy : Int) (x y : Int × Int) : ltV (mv vx vy x) (mv vx vy y) ↔ ltV x y := by
  rw [ltV_iff, ltV_iff]
  unfold mv
  simp only
  omega
theorem asc_mv (vx vy : Int) {L : List (Int × Int)} (h : Asc L) : Asc (L.map (mv vx vy)) := by
  refine List.pairwise_map.2 (h.imp fun {a b} hab => (lt_mv vx vy a b).2 hab)
theorem first_mv (vx vy : Int) {L : List (Int × Int)} (h : L ≠ []) : firstV (L.map (mv vx vy)) = mv vx vy (firstV L) := by
  cases L with
  | nil => exact absurd rfl h
  | cons x r => rfl
theorem last_mv (vx vy : Int) {L : List (Int × Int)} (h : L ≠ []) : lastV (L.map (mv vx vy)) = mv vx vy (lastV L) := by
  unfold lastV
  rw [List.getLast?_map, List.getLast?_eq_some_getLast h]
  rfl
theorem way_moved {ax ay bx bz cx cy dx dy : Int} (vx vy : Int) (h1 : validS ax ay bx bz = true) (h2 : validS cx cy dx dy = true) (h1' : validS (ax + vx) (ay + vy) (bx + vx) (bz + vy) = true) (h2' : validS (cx + vx) (cy + vy) (dx + vx) (dy + vy) = true) :
    kindS (ax + vx) (ay + vy) (bx + vx) (bz + vy) (cx + vx) (cy + vy) (dx + vx) (dy + vy) = kindS ax ay bx bz cx cy dx dy ∧
    ((kindS ax ay bx bz cx cy dx dy = 1 ∨ kindS ax ay bx bz cx cy dx dy = 2) → atS (ax + vx) (ay + vy) (bx + vx) (bz + vy) (cx + vx) (cy + vy) (dx + vx) (dy + vy) = ((atS ax ay bx bz cx cy dx dy).1 + vx * (atS ax ay bx bz cx cy dx dy).2.2, (atS ax ay bx bz cx cy dx dy).2.1 + vy * (atS ax ay bx bz cx cy dx dy).2.2, (atS ax ay bx bz cx cy dx dy).2.2)) ∧
    (kindS ax ay bx bz cx cy dx dy = 3 → shareS (ax + vx) (ay + vy) (bx + vx) (bz + vy) (cx + vx) (cy + vy) (dx + vx) (dy + vy) = (mv vx vy (shareS ax ay bx bz cx cy dx dy).1, mv vx vy (shareS ax ay bx bz cx cy dx dy).2)) := by
  obtain ⟨ha, hb⟩ := valid_lm h1
  obtain ⟨hc, hd⟩ := valid_lm h2
  obtain ⟨ha', hb'⟩ := valid_lm h1'
  obtain ⟨hc', hd'⟩ := valid_lm h2'
  have hcom : comS (ax + vx) (ay + vy) (bx + vx) (bz + vy) (cx + vx) (cy + vy) (dx + vx) (dy + vy) = (comS ax ay bx bz cx cy dx dy).map (mv vx vy) := by
    refine asc_unique (com_asc ..) (asc_mv vx vy (com_asc ..)) fun z => ?_
    rw [List.mem_map]
    constructor
    · intro hz
      obtain ⟨x, y⟩ := z
      obtain ⟨he, hl, o1, o2⟩ := com_lm h1' h2' hz
      have e1 : x = (x - vx) + vx := by omega
      have e2 : y = (y - vy) + vy := by omega
      rw [e1, e2, on_moved] at o1 o2
      refine ⟨(x - vx, y - vy), (com_of h1 h2 ?_ o1 o2).1, by unfold mv; simp only; rw [← e1, ← e2]⟩
      rcases he with ⟨e, e'⟩ | ⟨e, e'⟩ | ⟨e, e'⟩ | ⟨e, e'⟩
      · exact .inl ⟨by omega, by omega⟩
      · exact .inr (.inl ⟨by omega, by omega⟩)
      · exact .inr (.inr (.inl ⟨by omega, by omega⟩))
      · exact .inr (.inr (.inr ⟨by omega, by omega⟩))
    · rintro ⟨⟨x, y⟩, hz, rfl⟩
      obtain ⟨he, hl, o1, o2⟩ := com_lm h1 h2 hz
      refine (com_of h1' h2' ?_ ((on_moved ..).2 o1) ((on_moved ..).2 o2)).1
      rcases he with ⟨rfl, rfl⟩ | ⟨rfl, rfl⟩ | ⟨rfl, rfl⟩ | ⟨rfl, rfl⟩
      · exact .inl ⟨rfl, rfl⟩
      · exact .inr (.inl ⟨rfl, rfl⟩)
      · exact .inr (.inr (.inl ⟨rfl, rfl⟩))
      · exact .inr (.inr (.inr ⟨rfl, rfl⟩))
  have hps : (partS (ax + vx) (ay + vy) (bx + vx) (bz + vy) (cx + vx) (cy + vy) (dx + vx) (dy + vy) && partS (cx + vx) (cy + vy) (dx + vx) (dy + vy) (ax + vx) (ay + vy) (bx + vx) (bz + vy)) = (partS ax ay bx bz cx cy dx dy && partS cx cy dx dy ax ay bx bz) := by
    apply Bool.eq_iff_iff.2
    rw [Bool.and_eq_true, Bool.and_eq_true, part_lm ha hb hc hd, part_lm hc hd ha hb, part_lm ha' hb' hc' hd', part_lm hc' hd' ha' hb']
    unfold Prt
    rw [crs_moved, crs_moved, crs_moved, crs_moved]
  have hk : kindS (ax + vx) (ay + vy) (bx + vx) (bz + vy) (cx + vx) (cy + vy) (dx + vx) (dy + vy) = kindS ax ay bx bz cx cy dx dy := by
    rw [kind_is h1' h2', kind_is h1 h2, hcom, hps]
    cases hL : comS ax ay bx bz cx cy dx dy with
    | nil => rfl
    | cons x r =>
      rw [← hL, first_mv vx vy (by rw [hL]; simp), last_mv vx vy (by rw [hL]; simp)]
      have e : (mv vx vy (firstV (comS ax ay bx bz cx cy dx dy)) = mv vx vy (lastV (comS ax ay bx bz cx cy dx dy))) = (firstV (comS ax ay bx bz cx cy dx dy) = lastV (comS ax ay bx bz cx cy dx dy)) := by
        apply propext
        constructor
        · intro h
          unfold mv at h
          injection h with h3 h4
          exact Prod.ext (by omega) (by omega)
        · intro h; rw [h]
      simp only [e, List.isEmpty_map]
  have hpp : comS ax ay bx bz cx cy dx dy ≠ [] → partsS (ax + vx) (ay + vy) (bx + vx) (bz + vy) (cx + vx) (cy + vy) (dx + vx) (dy + vy) = (mv vx vy (partsS ax ay bx bz cx cy dx dy).1, mv vx vy (partsS ax ay bx bz cx cy dx dy).2) := fun hne => by
    rw [parts_is h1 h2 hne, parts_is h1' h2' (by rw [hcom]; simpa using hne), hcom, first_mv vx vy hne, last_mv vx vy hne]
  refine ⟨hk, fun h => ?_, fun h => ?_⟩
  · unfold atS
    rw [hk]
    rcases h with h | h
    · rw [if_pos h, if_pos h, hpp (kind_ne h1 h2 h (.inl rfl)).1]
      unfold mv
      simp
    · have h0 := prt_den (kind_two h).2.2.1
      rw [if_neg (by omega), if_pos h, if_neg (by omega), if_pos h]
      have eD : denX (ax + vx) (ay + vy) (bx + vx) (bz + vy) (cx + vx) (cy + vy) (dx + vx) (dy + vy) = denX ax ay bx bz cx cy dx dy := by unfold denX; grind
      have eX : crossX (ax + vx) (ay + vy) (bx + vx) (bz + vy) (cx + vx) (cy + vy) (dx + vx) (dy + vy) = crossX ax ay bx bz cx cy dx dy + vx * denX ax ay bx bz cx cy dx dy := by unfold crossX denX numX; grind
      have eY : crossY (ax + vx) (ay + vy) (bx + vx) (bz + vy) (cx + vx) (cy + vy) (dx + vx) (dy + vy) = crossY ax ay bx bz cx cy dx dy + vy * denX ax ay bx bz cx cy dx dy := by unfold crossY denX numX; grind
      unfold crossS
      rw [eD, eX, eY]
      by_cases hn : denX ax ay bx bz cx cy dx dy < 0
      · rw [if_pos hn, if_pos hn, show -(crossX ax ay bx bz cx cy dx dy + vx * denX ax ay bx bz cx cy dx dy) = -crossX ax ay bx bz cx cy dx dy + vx * -denX ax ay bx bz cx cy dx dy by rw [Int.mul_neg]; omega, show -(crossY ax ay bx bz cx cy dx dy + vy * denX ax ay bx bz cx cy dx dy) = -crossY ax ay bx bz cx cy dx dy + vy * -denX ax ay bx bz cx cy dx dy by rw [Int.mul_neg]; omega]
        exact low_move vx vy (by omega)
      · rw [if_neg hn, if_neg hn]
        exact low_move vx vy h0
  · unfold shareS
    rw [hk, if_pos h, if_pos h]
    exact hpp (kind_ne h1 h2 h (.inr rfl)).1
end Go.Proofs.Ythiabmcfooobfaa.W

namespace Go.Proofs.Ythiabmcfooobfaa.G
open Go.RowKit Go.Proofs.Ythiabmcfooobfaa.V Go.Proofs.Ythiabmcfooobfaa.W

theorem rot_len {l : List Pt} {k : Nat} (hk : k ≤ l.length) : (rotL l k).length = l.length := by
  unfold rotL
  rw [List.length_append, List.length_drop, List.length_take]
  omega
theorem rot_at {l : List Pt} {k i : Nat} (hk : k ≤ l.length) (hi : i < l.length) : at_ (rotL l k) i = at_ l ((i + k) % l.length) := by
  apply at_of
  unfold rotL
  rcases Nat.lt_or_ge i (l.length - k) with h | h
  · rw [List.getElem?_append_left (by rw [List.length_drop]; exact h), List.getElem?_drop, Nat.mod_eq_of_lt (by omega), Nat.add_comm]
    exact at_some (by omega)
  · rw [List.getElem?_append_right (by rw [List.length_drop]; exact h), List.length_drop, List.getElem?_take_of_lt (by omega), Nat.mod_eq_sub_mod (by omega), Nat.mod_eq_of_lt (by omega), show i - (l.length - k) = i + k - l.length by omega]
    exact at_some (by omega)
theorem mod_next (i k n : Nat) : ((i + 1) % n + k) % n = ((i + k) % n + 1) % n := by
  rw [Nat.mod_add_mod, Nat.mod_add_mod]
  congr 1
  omega
theorem mod_prev {i k n : Nat} (hn : 0 < n) : ((i + n - 1) % n + k) % n = ((i + k) % n + n - 1) % n := by
  rw [Nat.mod_add_mod, show (i + k) % n + n - 1 = (i + k) % n + (n - 1) by omega, Nat.mod_add_mod]
  congr 1
  omega
theorem rot_turn {l : List Pt} {k i : Nat} (hk : k ≤ l.length) (hi : i < l.length) : turnI (rotL l k) i = turnI l ((i + k) % l.length) := by
  have hn : 0 < l.length := by omega
  unfold turnI
  rw [rot_len hk, rot_at hk (Nat.mod_lt _ hn), rot_at hk hi, rot_at hk (Nat.mod_lt _ hn), mod_next, mod_prev hn]
theorem rot_edge {l : List Pt} {k i : Nat} (hk : k ≤ l.length) (hi : i < l.length) : edgeP (rotL l k) i = edgeP l ((i + k) % l.length) := by
  have hn : 0 < l.length := by omega
  unfold edgeP
  rw [rot_len hk, rot_at hk hi, rot_at hk (Nat.mod_lt _ hn), mod_next]
theorem rot_back {n k j : Nat} (hk : k ≤ n) (hj : j < n) : (j + n - k) % n < n ∧ ((j + n - k) % n + k) % n = j := by
  refine ⟨Nat.mod_lt _ (by omega), ?_⟩
  rw [Nat.mod_add_mod, show j + n - k + k = j + n by omega, Nat.add_mod_right, Nat.mod_eq_of_lt hj]
theorem rot_all {n k : Nat} (hk : k ≤ n) (P : Nat → Prop) : (∀ i, i < n → P ((i + k) % n)) ↔ ∀ i, i < n → P i := by
  constructor
  · intro h j hj
    obtain ⟨h1, h2⟩ := rot_back hk hj
    have := h _ h1
    rwa [h2] at this
  · intro h i hi
    exact h _ (Nat.mod_lt _ (by omega))
theorem rot_allW {l : List Pt} {k : Nat} (hk : k ≤ l.length) : allW (rotL l k) = allW l := by
  apply Bool.eq_iff_iff.2
  unfold allW
  rw [allTo_iff, allTo_iff, rot_len hk, ← rot_all hk fun i => wOk (at_ l i) = true]
  exact ⟨fun h i hi => by rw [← rot_at hk hi]; exact h i hi, fun h i hi => by rw [rot_at hk hi]; exact h i hi⟩
theorem rot_turns {l : List Pt} {k : Nat} (hk : k ≤ l.length) : turnsP (rotL l k) = turnsP l := by
  apply Bool.eq_iff_iff.2
  unfold turnsP
  rw [allTo_iff, allTo_iff, rot_len hk, ← rot_all hk fun i => (!(turnI l i == 0)) = true]
  exact ⟨fun h i hi => by rw [← rot_turn hk hi]; exact h i hi, fun h i hi => by rw [rot_turn hk hi]; exact h i hi⟩

def sumTo (f : Nat → Int) : Nat → Int
  | 0 => 0
  | k + 1 => sumTo f k + f k
theorem sum_ext {f g : Nat → Int} : ∀ {k : Nat}, (∀ i, i < k → f i = g i) → sumTo f k = sumTo g k
  | 0, _ => rfl
  | k + 1, h => by
    show sumTo f k + f k = sumTo g k + g k
    rw [sum_ext fun i hi => h i (by omega), h k (by omega)]
theorem sum_shift (g : Nat → Int) : ∀ k, sumTo (fun i => g (i + 1)) k + g 0 = sumTo g (k + 1)
  | 0 => rfl
  | k + 1 => by
    show sumTo (fun i => g (i + 1)) k + g (k + 1) + g 0 = sumTo g (k + 1) + g (k + 1)
    rw [← sum_shift g k]
    omega
theorem sum_one (g : Nat → Int) (n : Nat) : sumTo (fun i => g ((i + 1) % n)) n = sumTo g n := by
  cases n with
  | zero => rfl
  | succ n =>
    rw [← sum_shift g n]
    show sumTo (fun i => g ((i + 1) % (n + 1))) n + g ((n + 1) % (n + 1)) = _
    rw [Nat.mod_self, sum_ext (g := fun i => g (i + 1)) fun i hi => by rw [Nat.mod_eq_of_lt (by omega)]]
theorem sum_rot (g : Nat → Int) (n : Nat) : ∀ k, sumTo (fun i => g ((i + k) % n)) n = sumTo g n
  | 0 => sum_ext fun i hi => by rw [Nat.add_zero, Nat.mod_eq_of_lt hi]
  | k + 1 => by
    rw [← sum_rot g n k, ← sum_one (fun i => g ((i + k) % n)) n]
    refine sum_ext fun i hi => ?_
    rw [Nat.mod_add_mod]
    congr 2
    omega
def crossAt (l : List Pt) (i : Nat) : Int := crossP (at_ l i) (at_ l ((i + 1) % l.length))
theorem area_sum (l : List Pt) : ∀ k, areaTo l k = w64 (sumTo (crossAt l) k)
  | 0 => (w64_id (n := 0) ⟨by omega, by omega⟩).symm
  | k + 1 => by
    show w64 (areaTo l k + crossAt l k) = w64 (sumTo (crossAt l) k + crossAt l k)
    rw [area_sum l k, w64_addl]
theorem rot_area {l : List Pt} {k : Nat} (hk : k ≤ l.length) : areaP (rotL l k) = areaP l := by
  unfold areaP
  rw [area_sum, area_sum, rot_len hk, ← sum_rot (crossAt l) l.length k]
  congr 1
  refine sum_ext fun i hi => ?_
  unfold crossAt
  rw [rot_len hk, rot_at hk hi, rot_at hk (Nat.mod_lt _ (by omega)), mod_next]
theorem apart_comm (e f : Ed) : apartE e f = apartE f e := by
  unfold apartE
  rw [Bool.or_comm (decide (max e.1.1 e.2.1 < _)), Bool.or_assoc, Bool.or_comm (decide (max e.1.2 e.2.2 < _)), ← Bool.or_assoc]
theorem kind_comm (e f : Ed) : kindE e f = kindE f e := (way_swap ..).1
def Simple (l : List Pt) : Prop := ∀ i j, i < l.length → j < l.length → i ≠ j → (i + 1) % l.length ≠ j → (j + 1) % l.length ≠ i → apartE (edgeP l i) (edgeP l j) = true ∨ kindE (edgeP l i) (edgeP l j) = 0
theorem simple_iff (l : List Pt) : simpleP l = true ↔ Simple l := by
  unfold simpleP
  rw [allTo_iff]
  constructor
  · intro h
    have hlt : ∀ i j, i < l.length → j < l.length → i < j → (i + 1) % l.length ≠ j → (j + 1) % l.length ≠ i → apartE (edgeP l i) (edgeP l j) = true ∨ kindE (edgeP l i) (edgeP l j) = 0 := fun i j hi hj hij h1 h2 => by
      have := allTo_iff.1 (h i hi) j hj
      unfold pairOk at this
      have c1 : ¬ j < i + 2 := by
        intro c
        apply h1
        rw [Nat.mod_eq_of_lt (by omega)]
        omega
      simp [c1, h2] at this
      exact this
    intro i j hi hj hne h1 h2
    rcases Nat.lt_or_gt_of_ne hne with c | c
    · exact hlt i j hi hj c h1 h2
    · rw [apart_comm, kind_comm]
      exact hlt j i hj hi c h2 h1
  · intro h i hi
    refine allTo_iff.2 fun j hj => ?_
    unfold pairOk
    by_cases c1 : j < i + 2
    · simp [c1]
    · by_cases c2 : (j + 1) % l.length = i
      · simp [c2]
      · have := h i j hi hj (by omega) (by
          intro e
          rcases Nat.lt_or_ge (i + 1) l.length with c | c
          · rw [Nat.mod_eq_of_lt c] at e; omega
          · omega) c2
        simp [c1, c2]
        exact this
theorem rot_inj {n k i j : Nat} (hi : i < n) (hj : j < n) (h : (i + k) % n = (j + k) % n) : i = j := by
  have h2 := congrArg (fun z => (z + (n - k % n)) % n) h
  simp only [Nat.mod_add_mod] at h2
  have e : ∀ a, a < n → (a + k + (n - k % n)) % n = a := fun a ha => by
    have hk := Nat.mod_lt k (show 0 < n by omega)
    have hd := Nat.div_add_mod k n
    rw [show a + k + (n - k % n) = a + n + n * (k / n) by omega, Nat.add_mul_mod_self_left, Nat.add_mod_right, Nat.mod_eq_of_lt ha]
  rwa [e i hi, e j hj] at h2
theorem rot_simple {l : List Pt} {k : Nat} (hk : k ≤ l.length) (h : Simple l) : Simple (rotL l k) := by
  intro i j hi hj hne h1 h2
  rw [rot_len hk] at hi hj h1 h2
  have hn : 0 < l.length := by omega
  rw [rot_edge hk hi, rot_edge hk hj]
  refine h _ _ (Nat.mod_lt _ hn) (Nat.mod_lt _ hn) (fun e => hne (rot_inj hi hj e)) (fun e => h1 ?_) (fun e => h2 ?_)
  · rw [← mod_next] at e
    exact rot_inj (Nat.mod_lt _ hn) hj e
  · rw [← mod_next] at e
    exact rot_inj (Nat.mod_lt _ hn) hi e
theorem rot_valid {l : List Pt} {k : Nat} (hk : k ≤ l.length) (h : validR l = true) : validR (rotL l k) = true := by
  unfold validR at h ⊢
  rw [rot_len hk, rot_allW hk, rot_turns hk, rot_area hk]
  simp only [Bool.and_eq_true] at h ⊢
  exact ⟨h.1, (simple_iff _).2 (rot_simple hk ((simple_iff _).1 h.2))⟩

/-- a ring that begins with its least vertex is its own canonical ring -/
theorem low_zero {l : List Pt} : ∀ {k : Nat}, (∀ j, j < k → ¬ ltV (at_ l j) (at_ l 0)) → lowTo l k = 0
  | 0, _ => rfl
  | k + 1, h => by
    have := low_zero (l := l) (k := k) fun j hj => h j (by omega)
    unfold lowTo
    rw [this]
    exact if_neg (h k (by omega))
theorem begin_again {l : List Pt} (hl : 0 < l.length) : beginL (beginL l) = beginL l := by
  have hlow : low l < l.length := lowTo_lt hl
  have hk := Nat.le_of_lt hlow
  have h0 : low (beginL l) = 0 := by
    unfold low
    refine low_zero fun j hj => ?_
    unfold beginL at hj ⊢
    rw [rot_len hk] at hj
    rw [rot_at hk hj, rot_at hk hl, Nat.zero_add, Nat.mod_eq_of_lt hlow]
    exact (lowTo_is (l := l) (k := l.length) _ (Nat.mod_lt _ hl)).1
  show rotL (beginL l) (low (beginL l)) = beginL l
  rw [h0]
  unfold rotL
  rw [List.drop_zero, List.take_zero, List.append_nil]
theorem turn_same (a b : Pt) : turnP a b b = 0 := by
  unfold turnP turnV
  rw [show (b.1 - a.1) * (b.2 - a.2) - (b.2 - a.2) * (b.1 - a.1) = 0 by rw [Int.mul_comm]; omega]
  decide +kernel
theorem no_spare {l : List Pt} (h : turnsP l = true) : need l = l.length := by
  refine need_of (Nat.le_refl _) (fun j hj => ?_) fun c => absurd c (Nat.lt_irrefl _)
  have ht := allTo_iff.1 h j hj
  unfold spare
  rw [Bool.or_eq_false_iff]
  refine ⟨?_, by simpa using ht⟩
  rw [Bool.eq_false_iff]
  intro e
  have e := eq_of_beq e
  unfold turnI at ht
  rw [← e, turn_same] at ht
  simp at ht
theorem valid_parts {l : List Pt} (h : validR l = true) : 3 ≤ l.length ∧ l.length ≤ 40 ∧ allW l = true ∧ turnsP l = true ∧ 0 < areaP l := by
  unfold validR at h
  simp only [Bool.and_eq_true, decide_eq_true_eq] at h
  exact ⟨h.1.1.1.1.1, h.1.1.1.1.2, h.1.1.1.2, h.1.1.2, h.1.2⟩
theorem clean_valid {l : List Pt} (h : validR l = true) : cleanR l = (beginL l, 0) := by
  obtain ⟨h1, h2, h3, h4, h5⟩ := valid_parts h
  have hc : cleanL l = l := clean_end (by rw [no_spare h4]; exact Nat.lt_irrefl _)
  have ht : turnedL l = l := if_neg (by omega)
  unfold cleanR
  rw [if_neg (by omega), h3, hc, ht, h]
  rfl
theorem clean_result {l : List Pt} (h : (cleanR l).2 = 0) : validR (cleanR l).1 = true ∧ cleanR (cleanR l).1 = ((cleanR l).1, 0) ∧ canonR (cleanR l).1 = (cleanR l).1 := by
  unfold cleanR at h
  split at h
  · cases h
  · rename_i h200
    split at h
    · cases h
    · rename_i hw
      split at h
      · cases h
      · rename_i hv
        have hv : validR (turnedL (cleanL l)) = true := by simpa using hv
        have e : cleanR l = (beginL (turnedL (cleanL l)), 0) := by
          unfold cleanR
          rw [if_neg h200, if_neg hw, hv]
          rfl
        rw [e]
        have h3 := (valid_parts hv).1
        have hb : validR (beginL (turnedL (cleanL l))) = true := rot_valid (Nat.le_of_lt (lowTo_lt (by omega))) hv
        refine ⟨hb, ?_, ?_⟩
        · rw [clean_valid hb, begin_again (by omega)]
        · unfold canonR
          rw [hb]
          exact begin_again (by omega)
theorem clean_none {l : List Pt} (h : (cleanR l).2 ≠ 0) : (cleanR l).1 = [] := by
  unfold cleanR at h ⊢
  split at h
  · rename_i c; rw [if_pos c]
  · rename_i c
    rw [if_neg c]
    split at h
    · rename_i c2; rw [if_pos c2]
    · rename_i c2
      rw [if_neg c2]
      split at h
      · rename_i c3; rw [if_pos c3]
      · exact absurd rfl h
end Go.Proofs.Ythiabmcfooobfaa.G

namespace Go.Proofs.Ythiabmcfooobfaa.W
open Go.RowKit Go.Proofs.Ythiabmcfooobfaa.V Go.Proofs.Ythiabmcfooobfaa.G


set_option maxRecDepth 100000 in
set_option maxHeartbeats 6400000 in
theorem ringClean_any (l : List (Int × Int)) (v : Value) (w : World) (hv : SrcV w v l) : Calls Try.prog 16 #[v] w fun e w' => e = .returned (.bool true) ∧ Nw w w' := by
  have hmix := mixed7
  obtain ⟨A, c, rfl⟩ := hv.shape
  obtain ⟨n, hn⟩ : ∃ n, l.length = n := ⟨_, rfl⟩
  rw [hn]
  have HV := Lib.hid hv
  have HN := Lib.hid hn
  clear hv hn
  by_cases h60 : 60 < n
  · have i1 : (60 : Int) < (n : Int) := by omega
    go_enter Try.func16, Try.ntmps16
    go_wp2_with fail
    with_reducible refine (awake8_any _).mono ?_
    rintro e w1 ⟨rfl, k1⟩
    go_wp2_with fail
    go_ret
    exact ⟨rfl, k1⟩
  have i1 : ¬ ((60 : Int) < (n : Int)) := by omega
  have hl : l.length ≤ 1099511627776 := by rw [HN.out]; omega
  have hv2 : SrcV w (.slice A n c) l := by rw [← HN.out]; exact HV.out
  have c1 := fun w1 (h : Nw w w1) => clean_any l _ w1 (hv2.nw h) hl
  have c2 := fun w1 (h : Nw w w1) => rclean8_any l _ w1 (hv2.nw h) hl
  obtain ⟨a, ha⟩ : ∃ a, (cleanR l).1 = a := ⟨_, rfl⟩
  obtain ⟨q, hq⟩ : ∃ a, (cleanR l).2 = a := ⟨_, rfl⟩
  have hok : q = 0 → validR a = true ∧ cleanR a = (a, 0) ∧ canonR a = a := fun h => by rw [← ha]; exact clean_result (by rw [hq]; exact h)
  have hno : q ≠ 0 → a = [] := fun h => by rw [← ha]; exact clean_none (by rw [hq]; exact h)
  have hal : q = 0 → a.length ≤ 40 := fun h => (valid_parts (hok h).1).2.1
  rw [ha, hq] at c1 c2
  clear ha hq hv2 hl h60
  go_enter Try.func16, Try.ntmps16
  go_wp2_with fail
  with_reducible refine (awake8_any _).mono ?_
  rintro e w1 ⟨rfl, k1⟩
  go_wp2_with fail
  with_reducible refine (c1 _ k1).mono ?_
  rintro e w2 ⟨v2, rfl, o2, k2⟩
  have n2 := k1.tr k2
  have s2 := o2.src
  clear o2 k1 k2
  go_wp2_with fail
  with_reducible refine (c2 _ n2).mono ?_
  rintro e w3 ⟨v3, rfl, s3, k3⟩
  have n3 := n2.tr k3
  have s2b := s2.nw k3
  have cs := rringSame_any a a v2 v3 w3 s2b s3
  rw [decide_eq_true rfl] at cs
  clear n2 k3 s2 s3 c1 c2
  go_wp2_with fail
  with_reducible refine cs.mono ?_
  rintro e w4 ⟨rfl, k4⟩
  have N4 := Lib.hid (n3.tr k4)
  have S4 := Lib.hid (s2b.nw k4)
  clear cs n3 k4 s2b
  have eqq : (q != q) = false := by simp
  by_cases h0 : q = 0
  case neg =>
    have e0 : (q != 0) = true := by simp [h0]
    obtain rfl : a = [] := hno h0
    obtain ⟨A2, c2, rfl⟩ := S4.out.shape
    clear hok hno hal
    go_wp2_with fail
    go_ret
    exact ⟨rfl, N4.out⟩
  subst h0
  obtain ⟨p1, p2, p3⟩ := hok rfl
  have hl2 : a.length ≤ 1099511627776 := by have := hal rfl; omega
  clear hok hno hal
  have d1 := clean_any a v2 w4 S4.out hl2
  rw [p2] at d1
  go_wp2_with fail
  with_reducible refine d1.mono ?_
  rintro e w5 ⟨v5, rfl, o5, k5⟩
  have s5 := o5.src
  have S5 := Lib.hid (S4.out.nw k5)
  have N5 := Lib.hid (N4.out.tr k5)
  have d2 := ringSame_any a a v2 v5 w5 S5.out s5
  rw [decide_eq_true rfl] at d2
  clear o5 k5 d1 S4 N4 s5
  go_wp2_with fail
  with_reducible refine d2.mono ?_
  rintro e w6 ⟨rfl, k6⟩
  have S6 := Lib.hid (S5.out.nw k6)
  have N6 := Lib.hid (N5.out.tr k6)
  have d3 := ringValid_any a v2 w6 S6.out hl2
  rw [p1] at d3
  clear d2 k6 S5 N5
  go_wp2_with fail
  with_reducible refine d3.mono ?_
  rintro e w7 ⟨rfl, k7⟩
  have S7 := Lib.hid (S6.out.nw k7)
  have N7 := Lib.hid (N6.out.tr k7)
  have d4 := canon_any a v2 w7 S7.out hl2
  rw [p3] at d4
  clear d3 k7 S6 N6
  go_wp2_with fail
  with_reducible refine d4.mono ?_
  rintro e w8 ⟨v8, rfl, o8, k8⟩
  have N8 := Lib.hid (N7.out.tr k8)
  have d5 := ringSame_any a a v8 v2 w8 o8.src (S7.out.nw k8)
  rw [decide_eq_true rfl] at d5
  clear d4 k8 o8 N7
  go_wp2_with fail
  with_reducible refine d5.mono ?_
  rintro e w9 ⟨rfl, k9⟩
  go_wp2_with fail
  go_ret
  exact ⟨rfl, N8.out.tr k9⟩

end Go.Proofs.Ythiabmcfooobfaa.W
