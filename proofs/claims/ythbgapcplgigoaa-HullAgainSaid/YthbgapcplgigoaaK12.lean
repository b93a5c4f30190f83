/-
  hull: Where of both sides: what it returns. Condition: the list is not longer than 2^40.
  hull: Diameter2 of both sides: what it returns. Condition: the list is not longer than 2^40.
-/
import Derived.Test.YthbgapcplgigoaaK07
import Derived.Test.YthbgapcplgigoaaK11
namespace Go.Proofs.Ythbgapcplgigoaa.W
open Go.RowKit Go.Proofs.Ythbgapcplgigoaa.V Go.Proofs.Ythbgapcplgigoaa.G


def placeTo (l : List Pt) (p : Pt) : Nat → Int
  | 0 => 2
  | k + 1 => if turnE l p k == 0 then 1 else placeTo l p k
def onTo (l : List Pt) (p : Pt) : Nat → Bool
  | 0 => false
  | k + 1 => onTo l p k || (turnE l p k == 0)
theorem on_all (l : List Pt) (p : Pt) : ∀ k, onTo l p k = !(allTo k fun i => !(turnE l p i == 0))
  | 0 => rfl
  | k + 1 => by
    unfold onTo
    rw [on_all l p k]
    unfold allTo
    rw [List.range_succ, List.all_append]
    simp
theorem place_on (l : List Pt) (p : Pt) : ∀ k, placeTo l p k = if onTo l p k then 1 else 2
  | 0 => rfl
  | k + 1 => by
    unfold placeTo onTo
    rw [place_on l p k]
    cases onTo l p k <;> cases (turnE l p k == 0) <;> rfl
theorem where_no {l : List Pt} {p : Pt} (h : convB l = false ∨ sOk p = false) : whereH l p = 0 := by
  unfold whereH
  rcases h with h | h <;> rw [h] <;> simp
theorem where_neg {l : List Pt} {p : Pt} {i : Nat} (hi : i < l.length) (h : turnE l p i < 0) : whereH l p = 0 := by
  unfold whereH
  rw [allTo_not (p := fun i => decide (0 ≤ turnE l p i)) hi (decide_eq_false (by omega))]
  simp
theorem where_on {l : List Pt} {p : Pt} (hc : convB l = true) (hp : sOk p = true) (h : ∀ i, i < l.length → 0 ≤ turnE l p i) : whereH l p = if onTo l p l.length then 1 else 2 := by
  unfold whereH
  rw [hc, hp, allTo_iff.2 (fun i hi => decide_eq_true (h i hi)), on_all]
  cases allTo l.length (fun i => !(turnE l p i == 0)) <;> rfl

set_option maxRecDepth 100000 in
set_option maxHeartbeats 6400000 in
theorem where_any (l : List (Int × Int)) (px py : Int) (v : Value) (w : World) (hv : SrcV w v l) (hl : l.length ≤ 1099511627776)  : Calls Try.prog 23 #[v, vV px py] w fun e w' => e = .returned (.int .i64 (whereH l (px, py))) ∧ Nw w w' := by
  obtain ⟨A, c, rfl⟩ := hv.shape
  obtain ⟨n, hn⟩ : ∃ n, l.length = n := ⟨_, rfl⟩
  replace hv := src_n hv hn
  rw [hn] at hl ⊢
  have HV := Lib.hid hv
  have HN := Lib.hid hn
  have hmx := src_max hv
  clear hv hn
  have hmix := mixed7
  obtain ⟨res, hres⟩ : ∃ r, whereH l (px, py) = r := ⟨_, rfl⟩
  rw [hres]
  have HRES := Lib.hid hres
  clear hres
  obtain ⟨W0, hW0⟩ : ∃ W, w.alloc (.cells #[.int .i64 px, .int .i64 py] 32) = W := ⟨_, rfl⟩
  have HW0 := Lib.hid (show Nw w W0 by rw [← hW0]; exact nw_alloc _ _)
  have HB0 := Lib.hid (show Blk W0 w.heap.size 32 #[.int .i64 px, .int .i64 py] by rw [← hW0]; exact Blk.new _ _ _)
  have cv := fun w1 (h : SrcV w1 (.slice A n c) l) => conv_any l (.slice A n c) w1 h (by rw [HN.out]; exact hl)
  have cw := fun w1 => within_any px py 8000 w1
  obtain ⟨cb, hcb⟩ : ∃ b, convB l = b := ⟨_, rfl⟩
  obtain ⟨wb, hwb⟩ : ∃ b, withinV px py 8000 = b := ⟨_, rfl⟩
  rw [hcb] at cv
  rw [hwb] at cw
  have HCB := Lib.hid hcb
  have HWI := Lib.hid (show sOk (px, py) = wb from hwb)
  clear hcb hwb
  have HSV := Lib.hid (src_v HV.out HN.out)
  obtain ⟨y0, y1, _, _⟩ := HB0.out.two
  cases cb
  · obtain rfl : res = 0 := by rw [← HRES.out]; exact where_no (.inl HCB.out)
    go_enter Try.func23, Try.ntmps23
    go_wp2_with (first | (go_at_call 21; ((with_reducible refine (cv _ (HSV.out.nw HW0.out)).mono ?_); rintro e w5 ⟨rfl, hk5⟩)))
    go_ret
    exact ⟨rfl, HW0.out.tr hk5⟩
  go_enter Try.func23, Try.ntmps23
  go_wp2_with fail
  refine (cv _ (HSV.out.nw HW0.out)).mono ?_
  rintro e w5 ⟨rfl, hk5⟩
  clear y0 y1
  obtain ⟨z0, z1, _, _⟩ := (HB0.out.kp hk5 id).two
  go_wp2_with fail
  refine (cw _).mono ?_
  rintro e w6 ⟨rfl, hk6⟩
  have HK6 := Lib.hid (hk5.tr hk6)
  have HB6 := Lib.hid (HB0.out.kp (hk5.tr hk6) id)
  have HV6 := Lib.hid (HV.out.nw (HW0.out.tr (hk5.tr hk6)))
  clear hk5 hk6 z0 z1 cv
  cases wb
  · obtain rfl : res = 0 := by rw [← HRES.out]; exact where_no (.inr HWI.out)
    go_wp2_with fail
    go_ret
    exact ⟨rfl, HW0.out.tr HK6.out⟩
  go_wp2_with fail
  obtain ⟨B, hB⟩ : ∃ B, w.heap.size = B := ⟨_, rfl⟩
  rw [hB] at HB6 ⊢
  clear hB hW0 HB0
  go_loopw [5, 19] (fun pl i wr => ∃ k : Nat, i = .int .i64 k ∧ k ≤ n ∧ pl = .int .i64 (placeTo l (px, py) k) ∧ (∀ a, a < k → 0 ≤ turnE l (px, py) a) ∧ Nw w6 wr) (fun pl i _ => n - (intOf i).toNat)
  case atStart => exact ⟨0, rfl, Nat.zero_le _, rfl, fun a h => absurd h (Nat.not_lt_zero _), (by repeat (first | exact Kp.refl _ _ | refine Kp.alloc ?_ _ | refine Kp.drew ?_))⟩
  case round =>
    obtain ⟨k, rfl, hk, rfl, hall, hnw⟩ := hrel
    have HA := Lib.hid hall
    clear hall
    obtain ⟨pl, hpl⟩ : ∃ x, placeTo l (px, py) k = x := ⟨_, rfl⟩
    rw [hpl]
    have HPL := Lib.hid hpl
    clear hpl
    have HK := Lib.hid hnw
    clear hnw
    by_cases hkn : k < n
    · have i0 : (0 : Int) ≤ (k : Int) := by omega
      have i1 : (k : Int) < (n : Int) := by omega
      obtain ⟨s4, hs4⟩ : ∃ s : Nat, k + 1 = s := ⟨_, rfl⟩
      have a4 : IntKind.i64.wrap ((k : Int) + 1) = (s4 : Int) := by rw [IntKind.wrap_i64]; omega
      have H4 := Lib.hid hs4
      have hn0 : 0 < n := by omega
      obtain ⟨s5, hs5⟩ : ∃ s : Nat, (k + 1) % n = s := ⟨_, rfl⟩
      have l5 : s5 < n := by rw [← hs5]; exact Nat.mod_lt _ hn0
      have a5 : (s4 : Int).tmod (n : Int) = (s5 : Int) := by rw [tmod_nat, ← hs4, hs5]
      have z0 : ¬ (n = 0) := by omega
      have b4 : (0 : Int) ≤ (s5 : Int) := by omega
      have b5 : (s5 : Int) < (n : Int) := by omega
      obtain ⟨g, o, rfl, hg, hc⟩ := src_at HV6.out (by omega)
      obtain ⟨⟨ax, ay⟩, ha⟩ : ∃ p, at_ l k = p := ⟨_, rfl⟩
      obtain ⟨⟨bx, bz⟩, hb⟩ : ∃ p, at_ l s5 = p := ⟨_, rfl⟩
      have hT : turnE l (px, py) k = turnV ax ay bx bz px py := by unfold turnE; rw [HN.out, hs5, ha, hb]; rfl
      have ct := fun w1 => turn_any ax ay bx bz px py w1
      obtain ⟨t, ht⟩ : ∃ t, turnV ax ay bx bz px py = t := ⟨_, rfl⟩
      rw [ht] at ct hT
      obtain ⟨b1, hb1⟩ : ∃ b, decide (t < 0) = b := ⟨_, rfl⟩
      obtain ⟨b2, hb2⟩ : ∃ b, (t == 0) = b := ⟨_, rfl⟩
      have HB1 := Lib.hid hb1
      have HB2 := Lib.hid hb2
      have HT := Lib.hid hT
      obtain ⟨x0, x1⟩ := hc wr HK.out k hkn
      rw [ha] at x0 x1
      have HC := Lib.hid (show ∀ w', Nw wr w' → w'.cell? ⟨g, o + s5 * 2, none⟩ = some (.int .i64 bx) ∧ w'.cell? ⟨g, o + s5 * 2 + 1, none⟩ = some (.int .i64 bz) from fun w' h => by
        have y := hc w' (HK.out.tr h) s5 l5
        rw [hb] at y
        exact y)
      clear hc hg hs5 hs4 l5 ha hb hT ht
      go_upto_region 7 with fail
      generalize hwb : World.alloc _ (.cells #[.int .i64 ax, .int .i64 ay] _) = wb
      have HKB := Lib.hid (show Nw wr wb by rw [← hwb]; exact nw_alloc _ _)
      have HBB := Lib.hid (show Blk wb wr.heap.size 32 #[.int .i64 ax, .int .i64 ay] by rw [← hwb]; exact Blk.new _ _ _)
      clear hwb x0 x1
      have q0 := fun p : KeptW wb => (HBB.out.kept p).cell 0
      have q1 := fun p : KeptW wb => (HBB.out.kept p).cell 1
      have q2 := fun p : KeptW wb => (HC.out p.wd (HKB.out.tr p.since)).1
      have q3 := fun p : KeptW wb => (HC.out p.wd (HKB.out.tr p.since)).2
      have q4 := fun p : KeptW wb => (HB6.out.kp (HK.out.tr (HKB.out.tr p.since)) id).cell 0
      have q5 := fun p : KeptW wb => (HB6.out.kp (HK.out.tr (HKB.out.tr p.since)) id).cell 1
      refine wp_region_kept (Kp.refl _ _) (by assumption) (by kernel_rfl) ?_
      repeat (with_reducible refine wpQuiet_step (fun K hK => ?_); go_simp; first | ((with_reducible refine hK _ ?_); clear hK K) | (with_reducible apply Exists.intro; (with_reducible refine ⟨fun _ => ?_, hK _ ?_⟩); ((first | (go_at_call 51; with_reducible exact Calls.kept_of (ct _)) | fail)); clear hK K) | (simp only [undef, reduceCtorEq, if_false]; (with_reducible refine hK _ ?_); clear hK K))
      with_reducible refine wpQuiet_nil ?_
      rintro _ ⟨p, rfl⟩
      have HKK := Lib.hid (HK.out.tr (HKB.out.tr p.since))
      generalize p.wd = wz at HKK ⊢
      clear q0 q1 q2 q3 q4 q5 ct
      have fin : ∀ a, a < k + 1 → decide (t < 0) = false → 0 ≤ turnE l (px, py) a := fun a ha h0 => by
        rcases Nat.lt_or_ge a k with h | h
        · exact HA.out a h
        · obtain rfl : a = k := by omega
          rw [HT.out]
          have := of_decide_eq_false h0
          omega
      have HFIN := Lib.hid fin
      clear fin
      cases b1
      · cases b2 <;> 
        · go_wp2_with fail
          go_roundw
          case rel =>
            refine ⟨k + 1, by rw [← H4.out], by omega, ?_, fun a ha => HFIN.out a ha HB1.out, HKK.out⟩
            show _ = Value.int .i64 (if turnE l (px, py) k == 0 then 1 else placeTo l (px, py) k)
            rw [HT.out, HB2.out, HPL.out]
            first | done | rfl
          case measure => (have := H4.out; simp [intOf]; try omega)
      · obtain rfl : res = 0 := by rw [← HRES.out]; exact where_neg (i := k) (by rw [HN.out]; exact hkn) (by rw [HT.out]; exact of_decide_eq_true HB1.out)
        go_wp2_with fail
        go_ret
        exact ⟨rfl, HW0.out.tr (HK6.out.tr HKK.out)⟩
    · obtain rfl : k = n := by omega
      have i5 : ¬ ((k : Int) < (k : Int)) := by omega
      have hw := where_on HCB.out HWI.out (fun i hi => HA.out i (by rw [HN.out] at hi; exact hi))
      rw [HN.out, HRES.out] at hw
      have hpo := place_on l (px, py) k
      rw [HPL.out, ← hw] at hpo
      subst hpo
      clear hw
      go_wp2_with fail
      go_ret
      exact ⟨rfl, HW0.out.tr (HK6.out.tr HK.out)⟩

set_option maxRecDepth 100000 in
set_option maxHeartbeats 6400000 in
theorem r10where_any (l : List (Int × Int)) (px py : Int) (v : Value) (w : World) (hv : SrcV w v l) (hl : l.length ≤ 1099511627776)  : Calls Try.prog 24 #[v, vV px py] w fun e w' => e = .returned (.int .i64 (whereH l (px, py))) ∧ Nw w w' := by
  obtain ⟨A, c, rfl⟩ := hv.shape
  obtain ⟨n, hn⟩ : ∃ n, l.length = n := ⟨_, rfl⟩
  replace hv := src_n hv hn
  rw [hn] at hl ⊢
  have HV := Lib.hid hv
  have HN := Lib.hid hn
  have hmx := src_max hv
  clear hv hn
  have hmix := mixed7
  obtain ⟨res, hres⟩ : ∃ r, whereH l (px, py) = r := ⟨_, rfl⟩
  rw [hres]
  have HRES := Lib.hid hres
  clear hres
  obtain ⟨W0, hW0⟩ : ∃ W, w.alloc (.cells #[.int .i64 px, .int .i64 py] 32) = W := ⟨_, rfl⟩
  have HW0 := Lib.hid (show Nw w W0 by rw [← hW0]; exact nw_alloc _ _)
  have HB0 := Lib.hid (show Blk W0 w.heap.size 32 #[.int .i64 px, .int .i64 py] by rw [← hW0]; exact Blk.new _ _ _)
  have cv := fun w1 (h : SrcV w1 (.slice A n c) l) => r10conv_any l (.slice A n c) w1 h (by rw [HN.out]; exact hl)
  have cw := fun w1 => rwithin_any px py 8000 w1
  obtain ⟨cb, hcb⟩ : ∃ b, convB l = b := ⟨_, rfl⟩
  obtain ⟨wb, hwb⟩ : ∃ b, withinV px py 8000 = b := ⟨_, rfl⟩
  rw [hcb] at cv
  rw [hwb] at cw
  have HCB := Lib.hid hcb
  have HWI := Lib.hid (show sOk (px, py) = wb from hwb)
  clear hcb hwb
  have HSV := Lib.hid (src_v HV.out HN.out)
  obtain ⟨y0, y1, _, _⟩ := HB0.out.two
  cases cb
  · obtain rfl : res = 0 := by rw [← HRES.out]; exact where_no (.inl HCB.out)
    go_enter Try.func24, Try.ntmps24
    go_wp2_with (first | (go_at_call 22; ((with_reducible refine (cv _ (HSV.out.nw HW0.out)).mono ?_); rintro e w5 ⟨rfl, hk5⟩)))
    go_ret
    exact ⟨rfl, HW0.out.tr hk5⟩
  go_enter Try.func24, Try.ntmps24
  go_wp2_with fail
  refine (cv _ (HSV.out.nw HW0.out)).mono ?_
  rintro e w5 ⟨rfl, hk5⟩
  clear y0 y1
  obtain ⟨z0, z1, _, _⟩ := (HB0.out.kp hk5 id).two
  go_wp2_with fail
  refine (cw _).mono ?_
  rintro e w6 ⟨rfl, hk6⟩
  have HK6 := Lib.hid (hk5.tr hk6)
  have HB6 := Lib.hid (HB0.out.kp (hk5.tr hk6) id)
  have HV6 := Lib.hid (HV.out.nw (HW0.out.tr (hk5.tr hk6)))
  clear hk5 hk6 z0 z1 cv
  cases wb
  · obtain rfl : res = 0 := by rw [← HRES.out]; exact where_no (.inr HWI.out)
    go_wp2_with fail
    go_ret
    exact ⟨rfl, HW0.out.tr HK6.out⟩
  go_wp2_with fail
  obtain ⟨B, hB⟩ : ∃ B, w.heap.size = B := ⟨_, rfl⟩
  rw [hB] at HB6 ⊢
  clear hB hW0 HB0
  go_loopw [5, 6] (fun pl i wr => ∃ k : Nat, i = .int .i64 k ∧ k ≤ n ∧ pl = .bool (onTo l (px, py) k) ∧ (∀ a, a < k → 0 ≤ turnE l (px, py) a) ∧ Nw w6 wr) (fun pl i _ => n - (intOf i).toNat)
  case atStart => exact ⟨0, rfl, Nat.zero_le _, rfl, fun a h => absurd h (Nat.not_lt_zero _), (by repeat (first | exact Kp.refl _ _ | refine Kp.alloc ?_ _ | refine Kp.drew ?_))⟩
  case round =>
    obtain ⟨k, rfl, hk, rfl, hall, hnw⟩ := hrel
    have HA := Lib.hid hall
    clear hall
    obtain ⟨pl, hpl⟩ : ∃ x, onTo l (px, py) k = x := ⟨_, rfl⟩
    rw [hpl]
    have HPL := Lib.hid hpl
    clear hpl
    have HK := Lib.hid hnw
    clear hnw
    by_cases hkn : k < n
    · have i0 : (0 : Int) ≤ (k : Int) := by omega
      have i1 : (k : Int) < (n : Int) := by omega
      obtain ⟨s4, hs4⟩ : ∃ s : Nat, k + 1 = s := ⟨_, rfl⟩
      have a4 : IntKind.i64.wrap ((k : Int) + 1) = (s4 : Int) := by rw [IntKind.wrap_i64]; omega
      have H4 := Lib.hid hs4
      have hn0 : 0 < n := by omega
      obtain ⟨s5, hs5⟩ : ∃ s : Nat, (k + 1) % n = s := ⟨_, rfl⟩
      have l5 : s5 < n := by rw [← hs5]; exact Nat.mod_lt _ hn0
      have a5 : (s4 : Int).tmod (n : Int) = (s5 : Int) := by rw [tmod_nat, ← hs4, hs5]
      have z0 : ¬ (n = 0) := by omega
      have b4 : (0 : Int) ≤ (s5 : Int) := by omega
      have b5 : (s5 : Int) < (n : Int) := by omega
      obtain ⟨g, o, rfl, hg, hc⟩ := src_at HV6.out (by omega)
      obtain ⟨⟨ax, ay⟩, ha⟩ : ∃ p, at_ l k = p := ⟨_, rfl⟩
      obtain ⟨⟨bx, bz⟩, hb⟩ : ∃ p, at_ l s5 = p := ⟨_, rfl⟩
      have hT : turnE l (px, py) k = turnV ax ay bx bz px py := by unfold turnE; rw [HN.out, hs5, ha, hb]; rfl
      have ct := fun w1 => rturn_any ax ay bx bz px py w1
      obtain ⟨t, ht⟩ : ∃ t, turnV ax ay bx bz px py = t := ⟨_, rfl⟩
      rw [ht] at ct hT
      obtain ⟨b1, hb1⟩ : ∃ b, decide (t < 0) = b := ⟨_, rfl⟩
      obtain ⟨b2, hb2⟩ : ∃ b, (t == 0) = b := ⟨_, rfl⟩
      have HB1 := Lib.hid hb1
      have HB2 := Lib.hid hb2
      have HT := Lib.hid hT
      have y := fun p : KeptW wr => hc p.wd (HK.out.tr p.since)
      have q0 := fun p => (y p k hkn).1
      have q1 := fun p => (y p k hkn).2
      have q2 := fun p => (y p s5 l5).1
      have q3 := fun p => (y p s5 l5).2
      rw [ha] at q0 q1
      rw [hb] at q2 q3
      have q4 := fun p : KeptW wr => (HB6.out.kp (HK.out.tr p.since) id).cell 0
      have q5 := fun p : KeptW wr => (HB6.out.kp (HK.out.tr p.since) id).cell 1
      clear y hc hg hs5 hs4 l5 ha hb hT ht
      go_upto_region 7 with fail
      refine wp_region_kept (Kp.refl _ _) (by assumption) (by kernel_rfl) ?_
      repeat (with_reducible refine wpQuiet_step (fun K hK => ?_); go_simp; first | ((with_reducible refine hK _ ?_); clear hK K) | (with_reducible apply Exists.intro; (with_reducible refine ⟨fun _ => ?_, hK _ ?_⟩); ((first | (go_at_call 26; with_reducible exact Calls.kept_of (ct _)) | fail)); clear hK K) | (simp only [undef, reduceCtorEq, if_false]; (with_reducible refine hK _ ?_); clear hK K))
      with_reducible refine wpQuiet_nil ?_
      rintro _ ⟨p, rfl⟩
      have HKK := Lib.hid (HK.out.tr p.since)
      generalize p.wd = wz at HKK ⊢
      clear q0 q1 q2 q3 q4 q5 ct
      have fin : ∀ a, a < k + 1 → decide (t < 0) = false → 0 ≤ turnE l (px, py) a := fun a ha h0 => by
        rcases Nat.lt_or_ge a k with h | h
        · exact HA.out a h
        · obtain rfl : a = k := by omega
          rw [HT.out]
          have := of_decide_eq_false h0
          omega
      have HFIN := Lib.hid fin
      clear fin
      cases b1
      · cases b2 <;> cases pl <;>
        · go_wp2_with fail
          go_roundw
          case rel =>
            refine ⟨k + 1, by rw [← H4.out], by omega, ?_, fun a ha => HFIN.out a ha HB1.out, HKK.out⟩
            show _ = Value.bool (onTo l (px, py) k || (turnE l (px, py) k == 0))
            rw [HT.out, HB2.out, HPL.out]
            first | done | rfl
          case measure => (have := H4.out; simp [intOf]; try omega)
      · obtain rfl : res = 0 := by rw [← HRES.out]; exact where_neg (i := k) (by rw [HN.out]; exact hkn) (by rw [HT.out]; exact of_decide_eq_true HB1.out)
        go_wp2_with fail
        go_ret
        exact ⟨rfl, HW0.out.tr (HK6.out.tr HKK.out)⟩
    · obtain rfl : k = n := by omega
      have i5 : ¬ ((k : Int) < (k : Int)) := by omega
      have hw := where_on HCB.out HWI.out (fun i hi => HA.out i (by rw [HN.out] at hi; exact hi))
      rw [HN.out, HRES.out] at hw
      rw [HPL.out] at hw
      cases pl
      · obtain rfl : res = 2 := hw
        go_wp2_with fail
        go_ret
        exact ⟨rfl, HW0.out.tr (HK6.out.tr HK.out)⟩
      · obtain rfl : res = 1 := hw
        go_wp2_with fail
        go_ret
        exact ⟨rfl, HW0.out.tr (HK6.out.tr HK.out)⟩

end Go.Proofs.Ythbgapcplgigoaa.W

namespace Go.Proofs.Ythbgapcplgigoaa.W
open Go.RowKit Go.Proofs.Ythbgapcplgigoaa.V Go.Proofs.Ythbgapcplgigoaa.G


theorem run_cutA (W : World) (g o m c s : Nat) (h : s ≤ c) : (Instr.slice 25 (.slice (some ⟨g, o, none⟩) m c) none (some (.int .i64 (s : Int))) none).run Try.prog W = .ok (.slice (some ⟨g, o, none⟩) s c) W := by
  rw [run_slice_h W 25 (some ⟨g, o, none⟩) m c (by rw [elemR]; exact Try.underlying25) .i64 (s : Int) (by omega) (by omega), elemR, run_size infoP]
  simp [Result.andThen, sliced, Addr.add]
def diaQ (l : List Pt) : Int := if convB l then diaH l else 0
def errQ (l : List Pt) : Int := if convB l then 0 else 11
theorem Blk.nw' {w w' : World} {g : Nat} {t : TypeId} {cs : Array Value} (h : Blk w g t cs) (hk : Nw w w') : Blk w' g t cs := h.kp hk id
/-- a vector in a box of its own, and nothing else has changed -/
def Rel1 (x y : Int) (w0 : World) (px : Value) (wx : World) : Prop := ∃ BX, px = .pointer (some ⟨BX, 0, none⟩) ∧ Blk wx BX 32 #[.int .i64 x, .int .i64 y] ∧ Nw w0 wx
section
variable {x y : Int} {w0 w5 : World} {u v : Value} (hk : Nw w0 w5)
include hk
theorem one1 : Rel1 x y w0 (.pointer (some ⟨w5.heap.size, 0, none⟩)) (w5.alloc (.cells #[.int .i64 x, .int .i64 y] 32)) := ⟨_, rfl, Blk.new _ _ _, hk.tr (nw_alloc w5 _)⟩
theorem one2 {h1 : Nat} (b1 : Blk w5 h1 32 #[u, v]) (s1 : w0.heap.size ≤ h1) : Rel1 x y w0 (.pointer (some ⟨h1, 0, none⟩)) ((w5.setCell ⟨h1, 0, none⟩ (.int .i64 x)).setCell ⟨h1, 1, none⟩ (.int .i64 y)) := ⟨_, rfl, b1.lay2 _ _, (hk.new s1 0 _).new s1 1 _⟩
end

set_option maxRecDepth 100000 in
set_option maxHeartbeats 6400000 in
theorem dia_any (l : List (Int × Int)) (v : Value) (w : World) (hv : SrcV w v l) (hl : l.length ≤ 1099511627776)  : Calls Try.prog 19 #[v] w fun e w' => e = .returned (.tuple #[.int .i64 (diaQ l), .int .i64 (errQ l)]) ∧ Nw w w' := by
  obtain ⟨A, c, rfl⟩ := hv.shape
  obtain ⟨n, hn⟩ : ∃ n, l.length = n := ⟨_, rfl⟩
  replace hv := src_n hv hn
  rw [hn] at hl ⊢
  have HV := Lib.hid hv
  have HN := Lib.hid hn
  have hmx := src_max hv
  clear hv hn
  have hmix := mixed7
  have cv := fun w1 (h : SrcV w1 (.slice A n c) l) => conv_any l (.slice A n c) w1 h (by rw [HN.out]; exact hl)
  obtain ⟨cb, hcb⟩ : ∃ b, convB l = b := ⟨_, rfl⟩
  rw [hcb] at cv
  have HCB := Lib.hid hcb
  have HSV := Lib.hid (src_v HV.out HN.out)
  obtain ⟨res, hres⟩ : ∃ r, diaQ l = r := ⟨_, rfl⟩
  obtain ⟨er, her⟩ : ∃ r, errQ l = r := ⟨_, rfl⟩
  rw [hres, her]
  unfold diaQ at hres
  unfold errQ at her
  rw [hcb] at hres her
  clear hcb
  cases cb
  · obtain rfl : 0 = res := hres
    obtain rfl : 11 = er := her
    go_enter Try.func19, Try.ntmps19
    go_wp2_with (first | (go_at_call 21; ((with_reducible refine (cv _ HSV.out).mono ?_); rintro e w5 ⟨rfl, hk5⟩)))
    go_ret2
    exact ⟨rfl, hk5⟩
  obtain rfl : 0 = er := her
  have HRES := Lib.hid (show diaTo l n = res by rw [← HN.out]; exact hres)
  clear hres
  go_enter Try.func19, Try.ntmps19
  go_wp2_with (first | (go_at_call 21; ((with_reducible refine (cv _ HSV.out).mono ?_); rintro e w5 ⟨rfl, hk5⟩)))
  have HK5 := Lib.hid hk5
  have HV5 := Lib.hid (HV.out.nw hk5)
  clear hk5 cv
  go_loopw [4, 15] (fun mo i wr => ∃ k : Nat, i = .int .i64 k ∧ k ≤ n ∧ mo = .int .i64 (diaTo l k) ∧ Nw w5 wr) (fun mo i _ => n - (intOf i).toNat)
  case atStart => exact ⟨0, rfl, Nat.zero_le _, rfl, (by repeat (first | exact Kp.refl _ _ | refine Kp.alloc ?_ _ | refine Kp.drew ?_))⟩
  case round =>
    obtain ⟨k, rfl, hk, rfl, hnw⟩ := hrel
    obtain ⟨so, hso⟩ : ∃ x, diaTo l k = x := ⟨_, rfl⟩
    rw [hso]
    have HSO := Lib.hid hso
    clear hso
    have HK := Lib.hid hnw
    clear hnw
    by_cases hkn : k < n
    · have i0 : (0 : Int) ≤ (k : Int) := by omega
      have i1 : (k : Int) < (n : Int) := by omega
      obtain ⟨s4, hs4⟩ : ∃ s : Nat, k + 1 = s := ⟨_, rfl⟩
      have a4 : IntKind.i64.wrap ((k : Int) + 1) = (s4 : Int) := by rw [IntKind.wrap_i64]; omega
      have H4 := Lib.hid hs4
      obtain ⟨g, o, rfl, hg, hc⟩ := src_at HV5.out (by omega)
      obtain ⟨⟨ax, ay⟩, ha⟩ : ∃ p, at_ l k = p := ⟨_, rfl⟩
      obtain ⟨y0, y1⟩ := hc wr HK.out k hkn
      rw [ha] at y0 y1
      have HC := Lib.hid hc
      have HA := Lib.hid ha
      have hrun := fun W => run_cutA W g o n c k (by omega)
      obtain ⟨wo, hwo⟩ : ∃ x, x = wr := ⟨_, rfl⟩
      subst hwo
      clear hc hg ha hs4
      go_upto_region 7 with fail
      generalize hwb : World.alloc _ (.cells #[.int .i64 ax, .int .i64 ay] _) = wb
      have HKB := Lib.hid (show Nw wo wb by rw [← hwb]; exact nw_alloc _ _)
      have HBB := Lib.hid (show Blk wb wo.heap.size 32 #[.int .i64 ax, .int .i64 ay] by rw [← hwb]; exact Blk.new _ _ _)
      obtain ⟨G, hG⟩ : ∃ G, wo.heap.size = G := ⟨_, rfl⟩
      rw [hG] at HBB ⊢
      clear hwb y0 y1 hG
      go_wp2_with fail
      clear hrun
      go_loopw [4, 24] (fun mo j wx => ∃ m : Nat, j = .int .i64 m ∧ m ≤ k ∧ mo = .int .i64 (diaR l k so m) ∧ Nw wb wx) (fun mo j _ => k - (intOf j).toNat)
      case atStart => exact ⟨0, rfl, Nat.zero_le _, rfl, (by repeat (first | exact Kp.refl _ _ | refine Kp.alloc ?_ _ | refine Kp.drew ?_))⟩
      case round =>
        obtain ⟨m, rfl, hm, rfl, hnx⟩ := hrel
        obtain ⟨si, hsi⟩ : ∃ x, diaR l k so m = x := ⟨_, rfl⟩
        rw [hsi]
        have HSI := Lib.hid hsi
        have HX := Lib.hid hnx
        clear hsi hnx
        by_cases hmk : m < k
        · have j0 : (0 : Int) ≤ (m : Int) := by omega
          have j1 : (m : Int) < (k : Int) := by omega
          obtain ⟨s7, hs7⟩ : ∃ s : Nat, m + 1 = s := ⟨_, rfl⟩
          have a7 : IntKind.i64.wrap ((m : Int) + 1) = (s7 : Int) := by rw [IntKind.wrap_i64]; omega
          obtain ⟨⟨bx, bz⟩, hb⟩ : ∃ p, at_ l m = p := ⟨_, rfl⟩
          obtain ⟨y0, y1⟩ := HC.out wr ((HK.out.tr HKB.out).tr HX.out) m (by omega)
          rw [hb] at y0 y1
          have hD : dsV (at_ l k) (at_ l m) = dotV (w64 (ax - bx)) (w64 (ay - bz)) (w64 (ax - bx)) (w64 (ay - bz)) := by rw [HA.out, hb]; rfl
          have c1 := fun w1 => sub_any ax ay bx bz w1
          obtain ⟨x1, hx1⟩ : ∃ x, w64 (ax - bx) = x := ⟨_, rfl⟩
          obtain ⟨x2, hx2⟩ : ∃ x, w64 (ay - bz) = x := ⟨_, rfl⟩
          rw [hx1, hx2] at c1 hD
          have c2 := fun w1 => dot_any x1 x2 x1 x2 w1
          obtain ⟨d, hd⟩ : ∃ x, dotV x1 x2 x1 x2 = x := ⟨_, rfl⟩
          rw [hd] at c2 hD
          have HD := Lib.hid hD
          have H7 := Lib.hid hs7
          clear hs7 hb hx1 hx2 hd hD
          go_upto_region 10 with fail
          generalize hwb : World.alloc _ (.cells #[.int .i64 bx, .int .i64 bz] _) = wb2
          have HK2 := Lib.hid (show Nw wr wb2 by rw [← hwb]; exact nw_alloc _ _)
          obtain ⟨z0, z1⟩ : wb2.cell? (⟨wr.heap.size, 0, none⟩ : Addr) = some (.int .i64 bx) ∧ wb2.cell? (⟨wr.heap.size, 1, none⟩ : Addr) = some (.int .i64 bz) := by
            have hb := Blk.new wr 32 #[.int .i64 bx, .int .i64 bz]
            rw [← hwb]
            exact ⟨hb.cell 0, hb.cell 1⟩
          obtain ⟨z2, z3, _, _⟩ := (HBB.out.kp (HX.out.tr HK2.out) id).two
          clear hwb y0 y1
          go_wp2_with fail
          refine (c1 _).mono ?_
          rintro e w7 ⟨rfl, hk7⟩
          clear z0 z1 z2 z3
          go_upto_region 11 with fail
          generalize hwb : World.alloc _ (.cells #[.int .i64 x1, .int .i64 x2] _) = w8
          have HK8 := Lib.hid (show Nw w7 w8 by rw [← hwb]; exact nw_alloc _ _)
          obtain ⟨z0, z1⟩ : w8.cell? (⟨w7.heap.size, 0, none⟩ : Addr) = some (.int .i64 x1) ∧ w8.cell? (⟨w7.heap.size, 1, none⟩ : Addr) = some (.int .i64 x2) := by
            have hb := Blk.new w7 32 #[.int .i64 x1, .int .i64 x2]
            rw [← hwb]
            exact ⟨hb.cell 0, hb.cell 1⟩
          have HK7 := Lib.hid hk7
          clear hwb hk7
          go_wp2_with fail
          refine (c2 _).mono ?_
          rintro e w9 ⟨rfl, hk9⟩
          clear z0 z1
          have HK9 := Lib.hid ((HX.out.tr HK2.out).tr (HK7.out.tr (HK8.out.tr hk9)))
          clear hk9
          obtain ⟨mx, hmx2⟩ : ∃ x, max si d = x := ⟨_, rfl⟩
          go_wp2_with fail
          go_roundw
          case rel =>
            refine ⟨m + 1, by rw [← H7.out], by omega, ?_, HK9.out⟩
            show _ = Value.int .i64 (max (diaR l k so m) (dsV (at_ l k) (at_ l m)))
            rw [HSI.out, HD.out, hmx2]
          case measure => (have := H7.out; simp [intOf]; try omega)
        · obtain rfl : m = k := by omega
          have i6 : ¬ ((m : Int) < (m : Int)) := by omega
          go_wp2_with fail
          go_roundw
          case rel =>
            refine ⟨m + 1, by rw [← H4.out], by omega, ?_, (HK.out.tr HKB.out).tr HX.out⟩
            show _ = Value.int .i64 (diaR l m (diaTo l m) m)
            rw [HSO.out, HSI.out]
          case measure => (have := H4.out; simp [intOf]; try omega)
    · obtain rfl : k = n := by omega
      have i5 : ¬ ((k : Int) < (k : Int)) := by omega
      obtain rfl : so = res := by rw [← HSO.out, ← HRES.out]
      go_wp2_with fail
      go_ret2
      exact ⟨rfl, HK5.out.tr HK.out⟩

set_option maxRecDepth 100000 in
set_option maxHeartbeats 6400000 in
theorem r10dia_any (l : List (Int × Int)) (v : Value) (w : World) (hv : SrcV w v l) (hl : l.length ≤ 1099511627776)  : Calls Try.prog 20 #[v] w fun e w' => e = .returned (.tuple #[.int .i64 (diaQ l), .int .i64 (errQ l)]) ∧ Nw w w' := by
  obtain ⟨A, c, rfl⟩ := hv.shape
  obtain ⟨n, hn⟩ : ∃ n, l.length = n := ⟨_, rfl⟩
  replace hv := src_n hv hn
  rw [hn] at hl ⊢
  have HV := Lib.hid hv
  have HN := Lib.hid hn
  have hmx := src_max hv
  clear hv hn
  have hmix := mixed7
  have cv := fun w1 (h : SrcV w1 (.slice A n c) l) => r10conv_any l (.slice A n c) w1 h (by rw [HN.out]; exact hl)
  obtain ⟨cb, hcb⟩ : ∃ b, convB l = b := ⟨_, rfl⟩
  rw [hcb] at cv
  have HCB := Lib.hid hcb
  have HSV := Lib.hid (src_v HV.out HN.out)
  obtain ⟨res, hres⟩ : ∃ r, diaQ l = r := ⟨_, rfl⟩
  obtain ⟨er, her⟩ : ∃ r, errQ l = r := ⟨_, rfl⟩
  rw [hres, her]
  unfold diaQ at hres
  unfold errQ at her
  rw [hcb] at hres her
  clear hcb
  cases cb
  · obtain rfl : 0 = res := hres
    obtain rfl : 11 = er := her
    go_enter Try.func20, Try.ntmps20
    go_wp2_with (first | (go_at_call 22; ((with_reducible refine (cv _ HSV.out).mono ?_); rintro e w5 ⟨rfl, hk5⟩)))
    go_ret2
    exact ⟨rfl, hk5⟩
  obtain rfl : 0 = er := her
  have HRES := Lib.hid (show diaTo l n = res by rw [← HN.out]; exact hres)
  clear hres
  go_enter Try.func20, Try.ntmps20
  go_wp2_with (first | (go_at_call 22; ((with_reducible refine (cv _ HSV.out).mono ?_); rintro e w5 ⟨rfl, hk5⟩)))
  have HK5 := Lib.hid hk5
  have HV5 := Lib.hid (HV.out.nw hk5)
  clear hk5 cv
  go_loopw [4, 5] (fun mo i wr => ∃ k : Nat, i = .int .i64 k ∧ k ≤ n ∧ mo = .int .i64 (diaTo l k) ∧ Nw w5 wr) (fun mo i _ => n - (intOf i).toNat)
  case atStart => exact ⟨0, rfl, Nat.zero_le _, rfl, (by repeat (first | exact Kp.refl _ _ | refine Kp.alloc ?_ _ | refine Kp.drew ?_))⟩
  case round =>
    obtain ⟨k, rfl, hk, rfl, hnw⟩ := hrel
    obtain ⟨so, hso⟩ : ∃ x, diaTo l k = x := ⟨_, rfl⟩
    rw [hso]
    have HSO := Lib.hid hso
    clear hso
    have HK := Lib.hid hnw
    clear hnw
    by_cases hkn : k < n
    · have i0 : (0 : Int) ≤ (k : Int) := by omega
      have i1 : (k : Int) < (n : Int) := by omega
      obtain ⟨s4, hs4⟩ : ∃ s : Nat, k + 1 = s := ⟨_, rfl⟩
      have a4 : IntKind.i64.wrap ((k : Int) + 1) = (s4 : Int) := by rw [IntKind.wrap_i64]; omega
      have H4 := Lib.hid hs4
      clear hs4
      obtain ⟨wo, hwo⟩ : ∃ x, x = wr := ⟨_, rfl⟩
      subst hwo
      go_wp2_with fail
      go_loopw [4, 6] (fun mo j wx => ∃ m : Nat, j = .int .i64 m ∧ m ≤ k ∧ mo = .int .i64 (diaR l k so m) ∧ Nw wo wx) (fun mo j _ => k - (intOf j).toNat)
      case atStart => exact ⟨0, rfl, Nat.zero_le _, rfl, (by repeat (first | exact Kp.refl _ _ | refine Kp.alloc ?_ _ | refine Kp.drew ?_))⟩
      case round =>
        obtain ⟨m, rfl, hm, rfl, hnx⟩ := hrel
        obtain ⟨si, hsi⟩ : ∃ x, diaR l k so m = x := ⟨_, rfl⟩
        rw [hsi]
        have HSI := Lib.hid hsi
        have HX := Lib.hid hnx
        clear hsi hnx
        by_cases hmk : m < k
        · have j0 : (0 : Int) ≤ (m : Int) := by omega
          have j1 : (m : Int) < (k : Int) := by omega
          have j2 : (m : Int) < (n : Int) := by omega
          obtain ⟨s7, hs7⟩ : ∃ s : Nat, m + 1 = s := ⟨_, rfl⟩
          have a7 : IntKind.i64.wrap ((m : Int) + 1) = (s7 : Int) := by rw [IntKind.wrap_i64]; omega
          obtain ⟨g, o, rfl, hg, hc⟩ := src_at HV5.out (by omega)
          obtain ⟨⟨ax, ay⟩, ha⟩ : ∃ p, at_ l k = p := ⟨_, rfl⟩
          obtain ⟨⟨bx, bz⟩, hb⟩ : ∃ p, at_ l m = p := ⟨_, rfl⟩
          have hD : dsV (at_ l k) (at_ l m) = dotV (w64 (ax - bx)) (w64 (ay - bz)) (w64 (ax - bx)) (w64 (ay - bz)) := by rw [ha, hb]; rfl
          have c1 := fun w1 => rsub_any ax ay bx bz w1
          obtain ⟨x1, hx1⟩ : ∃ x, w64 (ax - bx) = x := ⟨_, rfl⟩
          obtain ⟨x2, hx2⟩ : ∃ x, w64 (ay - bz) = x := ⟨_, rfl⟩
          rw [hx1, hx2] at c1 hD
          have c2 := fun w1 => rdot_any x1 x2 x1 x2 w1
          obtain ⟨d, hd⟩ : ∃ x, dotV x1 x2 x1 x2 = x := ⟨_, rfl⟩
          rw [hd] at c2 hD
          have HD := Lib.hid hD
          have H7 := Lib.hid hs7
          obtain ⟨w3, hw3⟩ : ∃ x, x = wr := ⟨_, rfl⟩
          subst hw3
          have HP := Lib.hid (show ∀ w', Nw w3 w' → w'.cell? (⟨g, o + k * 2, none⟩ : Addr) = some (.int .i64 ax) ∧ w'.cell? (⟨g, o + k * 2 + 1, none⟩ : Addr) = some (.int .i64 ay) ∧ w'.cell? (⟨g, o + m * 2, none⟩ : Addr) = some (.int .i64 bx) ∧ w'.cell? (⟨g, o + m * 2 + 1, none⟩ : Addr) = some (.int .i64 bz) from fun w' h => by
            have y := hc w' ((HK.out.tr HX.out).tr h) k hkn
            have z := hc w' ((HK.out.tr HX.out).tr h) m (by omega)
            rw [ha] at y
            rw [hb] at z
            exact ⟨y.1, y.2, z.1, z.2⟩)
          have HLT := Lib.hid (show g < w3.heap.size from Nat.lt_of_lt_of_le hg (HK.out.tr HX.out).size)
          clear hs7 ha hb hx1 hx2 hd hD hc hg
          go_upto_region 10 with fail
          go_cut [7] from 23 to 30 (fun p7 wx => Rel1 x1 x2 w3 p7 wx)
          case first =>
            have hl0 := HLT.out
            clear c2
            go_wp2_with fail
            go_region_held3 (fun w' : World => w'.cell? (⟨g, o + k * 2, none⟩ : Addr) = some (.int .i64 ax) ∧ w'.cell? (⟨g, o + k * 2 + 1, none⟩ : Addr) = some (.int .i64 ay) ∧ w'.cell? (⟨g, o + m * 2, none⟩ : Addr) = some (.int .i64 bx) ∧ w'.cell? (⟨g, o + m * 2 + 1, none⟩ : Addr) = some (.int .i64 bz))
              (first | ((refine HP.out _ ?_); (repeat (first | exact hb1 | exact Kp.refl _ _ | refine Kp.alloc ?_ _ | refine Kp.drew ?_ | refine Kp.new ?_ (by omega) _ _))) | fail)
              (first | (go_at_call 33; ((with_reducible refine (c1 _).mono ?_); rintro e u1 ⟨rfl, hk1⟩; have hb1 : Nw w3 u1 := Kp.tr (by repeat (first | exact hb1 | exact Kp.refl _ _ | refine Kp.alloc ?_ _ | refine Kp.drew ?_ | refine Kp.new ?_ (by omega) _ _)) hk1; have l1 := hb1.size; with_reducible (first | (have p0 := Blk.nw' (Blk.drew (Blk.new_at _ 32 #[.int .i64 0, .int .i64 0] (n := w3.heap.size) (by simp))) hk1; have t1 := p0.cell 0; have t2 := p0.cell 1; have t3 := p0.frozen 0; have t4 := p0.frozen 1; have t5 := p0.lt) | skip))))
            all_goals (go_wp2_with fail; go_meet; case rel => (first | with_reducible exact one1 hb1 | with_reducible exact one2 hb1 p0 (by omega)))
          case rest =>
            obtain ⟨w4, hw4⟩ : ∃ w4, w4 = wc := ⟨_, rfl⟩
            subst hw4
            obtain ⟨G7, rfl, b7, hk4⟩ := hcut
            obtain ⟨z0, z1, _, _⟩ := b7.two
            have HK4 := Lib.hid hk4
            clear b7 hk4 c1
            go_wp2_with fail
            refine (c2 _).mono ?_
            rintro e w9 ⟨rfl, hk9⟩
            clear z0 z1
            have HK9 := Lib.hid (HX.out.tr (HK4.out.tr hk9))
            clear hk9
            obtain ⟨mx, hmx2⟩ : ∃ x, max si d = x := ⟨_, rfl⟩
            go_wp2_with fail
            go_roundw
            case rel =>
              refine ⟨m + 1, by rw [← H7.out], by omega, ?_, HK9.out⟩
              show _ = Value.int .i64 (max (diaR l k so m) (dsV (at_ l k) (at_ l m)))
              rw [HSI.out, HD.out, hmx2]
            case measure => (have := H7.out; simp [intOf]; try omega)
        · obtain rfl : m = k := by omega
          have i6 : ¬ ((m : Int) < (m : Int)) := by omega
          go_wp2_with fail
          go_roundw
          case rel =>
            refine ⟨m + 1, by rw [← H4.out], by omega, ?_, HK.out.tr HX.out⟩
            show _ = Value.int .i64 (diaR l m (diaTo l m) m)
            rw [HSO.out, HSI.out]
          case measure => (have := H4.out; simp [intOf]; try omega)
    · obtain rfl : k = n := by omega
      have i5 : ¬ ((k : Int) < (k : Int)) := by omega
      obtain rfl : so = res := by rw [← HSO.out, ← HRES.out]
      go_wp2_with fail
      go_ret2
      exact ⟨rfl, HK5.out.tr HK.out⟩

end Go.Proofs.Ythbgapcplgigoaa.W
