/-
  ring: the reference's Valid: it returns what the program's does. Condition: the list is not longer than 2^40.
-/
import Derived.Test.YtlogihcmmoldkaaK14
import Derived.Test.YtlogihcmmoldkaaK28
import Derived.Test.YtlogihcmmoldkaaK29
import Derived.Test.YtlogihcmmoldkaaK34
namespace Go.Proofs.Ytlogihcmmoldkaa.W
open Go.RowKit Go.Proofs.Ytlogihcmmoldkaa.V Go.Proofs.Ytlogihcmmoldkaa.G


set_option maxRecDepth 100000 in
set_option maxHeartbeats 12800000 in
theorem rvalid8_any (l : List (Int × Int)) (v : Value) (w : World) (hv : SrcV w v l) (hl : l.length ≤ 1099511627776) : Calls Try.prog 55 #[v] w fun e w' => e = .returned (.bool (validR l)) ∧ Nw w w' := by
  obtain ⟨A, c, rfl⟩ := hv.shape
  obtain ⟨n, hn⟩ : ∃ n, l.length = n := ⟨_, rfl⟩
  replace hv := src_n hv hn
  rw [hn] at hl ⊢
  have HV := Lib.hid hv
  have HN := Lib.hid hn
  have hmx := src_max hv
  clear hv hn
  have hmix := mixed7
  have hr : validR l = (decide (3 ≤ n) && decide (n ≤ 40) && allW l && rturnsP l && rsimpleP l && decide (0 < areaP l)) := by rw [← rvalid_eq]; unfold rvalidR; rw [HN.out]
  rw [hr]
  clear hr
  have hsv := src_v HV.out HN.out
  have cw := fun w1 (h : Nw w w1) => rwithinL_any l (.slice A n c) w1 (hsv.nw h)
  have ca := fun w1 (h : Nw w w1) => rsigned_any l (.slice A n c) w1 (hsv.nw h) (by rw [HN.out]; exact hl)
  have ce := fun w1 (h : Nw w w1) => redges_any l (.slice A n c) w1 (hsv.nw h) (by rw [HN.out]; exact hl)
  clear hsv
  by_cases g0 : n < 3
  · have f0 : decide (3 ≤ n) = false := decide_eq_false (by omega)
    have f1 : (n : Int) < 3 := by omega
    have f2 : decide ((n : Int) < 3) = true := decide_eq_true f1
    clear g0
    go_enter Try.func55, Try.ntmps55
    go_wp2_with fail
    go_ret
    exact ⟨by simp [f0], Kp.refl _ _⟩
  have f0 : decide (3 ≤ n) = true := decide_eq_true (by omega)
  have f1 : decide ((n : Int) < 3) = false := decide_eq_false (by omega)
  by_cases g1 : 40 < n
  · have f2 : decide (n ≤ 40) = false := decide_eq_false (by omega)
    have f3 : decide ((40 : Int) < (n : Int)) = true := decide_eq_true (by omega)
    have HGG := Lib.hid (And.intro g0 g1)
    clear g0 g1
    go_enter Try.func55, Try.ntmps55
    go_wp2_with fail
    go_ret
    exact ⟨by simp [f2], Kp.refl _ _⟩
  have f2 : decide (n ≤ 40) = true := decide_eq_true (by omega)
  have f3 : decide ((40 : Int) < (n : Int)) = false := decide_eq_false (by omega)
  obtain ⟨b, hb⟩ : ∃ b, allW l = b := ⟨_, rfl⟩
  rw [hb] at cw ⊢
  have HG := Lib.hid (And.intro g0 g1)
  clear g0 g1 hb
  cases b
  · go_enter Try.func55, Try.ntmps55
    go_wp2_with fail
    with_reducible refine (cw _ (Kp.refl _ _)).mono ?_
    rintro e w1 ⟨rfl, k1⟩
    go_wp2_with fail
    go_ret
    exact ⟨by simp, k1⟩
  rw [f0, f2, Bool.and_self, Bool.true_and, Bool.true_and]
  obtain ⟨r, hr⟩ : ∃ r, (rturnsP l && rsimpleP l && decide (0 < areaP l)) = r := ⟨_, rfl⟩
  rw [hr]
  have HR := Lib.hid hr
  clear hr
  go_enter Try.func55, Try.ntmps55
  go_wp2_with fail
  with_reducible refine (cw _ (Kp.refl _ _)).mono ?_
  rintro e w1 ⟨rfl, k1⟩
  have HK1 := Lib.hid k1
  clear k1 cw f0 f1 f2 f3
  go_wp2_with fail
  go_loopw [4] (fun i wr => ∃ k : Nat, i = .int .i64 k ∧ k ≤ n ∧ (∀ j, j < k → (!(rturnI l j == 0)) = true) ∧ Nw w wr) (fun i _ => n - (intOf i).toNat)
  case atStart => exact ⟨0, rfl, Nat.zero_le _, fun j h => absurd h (Nat.not_lt_zero _), HK1.out⟩
  case round =>
    obtain ⟨k, rfl, hk, hall, hnw⟩ := hrel
    have HA := Lib.hid hall
    clear hall
    have HK := Lib.hid hnw
    clear hnw
    by_cases hkn : k < n
    · have i0 : (0 : Int) ≤ (k : Int) := by omega
      have i1 : (k : Int) < (n : Int) := by omega
      obtain ⟨s4, hs4⟩ : ∃ s : Nat, k + 1 = s := ⟨_, rfl⟩
      have a4 : IntKind.i64.wrap ((k : Int) + 1) = (s4 : Int) := by rw [IntKind.wrap_i64]; omega
      have H4 := Lib.hid hs4
      have hn0 : 0 < n := by omega
      obtain ⟨s5, hs5⟩ : ∃ s : Nat, (k + 1) % n = s := ⟨_, rfl⟩
      have l5 : s5 < n := by rw [← hs5]; exact Nat.mod_lt _ hn0
      have a5 : (s4 : Int).tmod (n : Int) = (s5 : Int) := by rw [tmod_nat, ← hs4, hs5]
      have z0 : ¬ (n = 0) := by omega
      have b4 : (0 : Int) ≤ (s5 : Int) := by omega
      have b5 : (s5 : Int) < (n : Int) := by omega
      obtain ⟨g, o, rfl, hg, hc⟩ := src_at HV.out (by omega)
      obtain ⟨⟨ax, ay⟩, ha⟩ : ∃ p, at_ l k = p := ⟨_, rfl⟩
      obtain ⟨⟨bx, bz⟩, hb⟩ : ∃ p, at_ l s5 = p := ⟨_, rfl⟩
      obtain ⟨s6, hs6⟩ : ∃ s : Nat, k + 2 = s := ⟨_, rfl⟩
      have a6 : IntKind.i64.wrap ((k : Int) + 2) = (s6 : Int) := by rw [IntKind.wrap_i64]; omega
      obtain ⟨s7, hs7⟩ : ∃ s : Nat, (k + 2) % n = s := ⟨_, rfl⟩
      have l7 : s7 < n := by rw [← hs7]; exact Nat.mod_lt _ hn0
      have a7 : (s6 : Int).tmod (n : Int) = (s7 : Int) := by rw [tmod_nat, ← hs6, hs7]
      have b6 : (0 : Int) ≤ (s7 : Int) := by omega
      have b7 : (s7 : Int) < (n : Int) := by omega
      obtain ⟨⟨cx, cy⟩, hcc⟩ : ∃ p, at_ l s7 = p := ⟨_, rfl⟩
      have hT : rturnI l k = turnV ax ay bx bz cx cy := by unfold rturnI; rw [HN.out, hs5, hs7, ha, hb, hcc]; rfl
      have HT := Lib.hid hT
      have ct := fun w1 => rturn_any ax ay bx bz cx cy w1
      obtain ⟨t, ht⟩ : ∃ t, turnV ax ay bx bz cx cy = t := ⟨_, rfl⟩
      rw [ht] at ct HT
      have q0 := fun p : KeptW wr => (hc p.wd (HK.out.tr p.since) k hkn).1
      have q1 := fun p : KeptW wr => (hc p.wd (HK.out.tr p.since) k hkn).2
      have q2 := fun p : KeptW wr => (hc p.wd (HK.out.tr p.since) s5 l5).1
      have q3 := fun p : KeptW wr => (hc p.wd (HK.out.tr p.since) s5 l5).2
      have q4 := fun p : KeptW wr => (hc p.wd (HK.out.tr p.since) s7 l7).1
      have q5 := fun p : KeptW wr => (hc p.wd (HK.out.tr p.since) s7 l7).2
      rw [ha] at q0 q1
      rw [hb] at q2 q3
      rw [hcc] at q4 q5
      obtain ⟨z, hz⟩ : ∃ z, (t == 0) = z := ⟨_, rfl⟩
      have HZ := Lib.hid hz
      have HKN := Lib.hid hkn
      clear hc hg hs5 hs4 l5 ha hb hT ht hs6 hs7 l7 hcc ce ca
      go_upto_region 7 with fail
      cases z
      · skip
        refine wp_region_kept (Kp.refl _ _) (by assumption) (by kernel_rfl) ?_
        repeat (with_reducible refine wpQuiet_step (fun K hK => ?_); go_simp; first | ((with_reducible refine hK _ ?_); clear hK K) | (with_reducible apply Exists.intro; (with_reducible refine ⟨fun _ => ?_, hK _ ?_⟩); ((first | (go_at_call 70; with_reducible exact Calls.kept_of (ct _)) | fail)); clear hK K) | (simp only [undef, reduceCtorEq, if_false]; (with_reducible refine hK _ ?_); clear hK K))
        with_reducible refine wpQuiet_nil ?_
        rintro _ ⟨p, rfl⟩
        go_wp2_with fail
        go_roundw
        case rel =>
          refine ⟨k + 1, by rw [← H4.out], by omega, fun j hj => ?_, HK.out.tr p.since⟩
          rcases Nat.lt_or_ge j k with h | h
          · exact HA.out j h
          · obtain rfl : j = k := by omega
            rw [HT.out, HZ.out]
            rfl
        case measure => (have := H4.out; simp [intOf]; try omega)
      · skip
        refine wp_region_kept (Kp.refl _ _) (by assumption) (by kernel_rfl) ?_
        repeat (with_reducible refine wpQuiet_step (fun K hK => ?_); go_simp; first | ((with_reducible refine hK _ ?_); clear hK K) | (with_reducible apply Exists.intro; (with_reducible refine ⟨fun _ => ?_, hK _ ?_⟩); ((first | (go_at_call 70; with_reducible exact Calls.kept_of (ct _)) | fail)); clear hK K) | (simp only [undef, reduceCtorEq, if_false]; (with_reducible refine hK _ ?_); clear hK K))
        with_reducible refine wpQuiet_nil ?_
        rintro _ ⟨p, rfl⟩
        go_wp2_with fail
        go_ret
        refine ⟨?_, HK.out.tr p.since⟩
        show Ending.returned (.bool false) = _
        rw [← HR.out, show rturnsP l = false from allTo_not (i := k) (by rw [HN.out]; exact HKN.out) (by rw [HT.out, HZ.out]; rfl)]
        rfl
    · obtain rfl : k = n := by omega
      have i5 : ¬ ((k : Int) < (k : Int)) := by omega
      have hT : rturnsP l = true := allTo_iff.2 fun i hi => HA.out i (by rw [HN.out] at hi; exact hi)
      have HR2 := Lib.hid (show (rsimpleP l && decide (0 < areaP l)) = r by rw [← HR.out, hT]; rfl)
      have HKA := Lib.hid HK.out
      clear hT i5 HA HR
      go_wp2_with fail
      with_reducible refine (ce _ HKA.out).mono ?_
      rintro e w2 ⟨v2, rfl, hs2, k2⟩
      obtain ⟨A1, c1, rfl⟩ := hs2.shape
      have hel : (edgesP l).length = k := by rw [edges_len, if_neg (by rw [HN.out]; have := HG.out.1; omega), HN.out]
      obtain ⟨G, o, rfl, hG, hcE⟩ := srcE_at hs2 (by rw [hel]; have := HG.out.1; omega)
      have hcl : k ≤ c1 := by
        obtain ⟨_, A', c', e, h1, _⟩ := hs2
        injection e with _ _ e3
        subst e3
        rw [← hel]; exact h1
      rw [hel]
      have HEA := Lib.hid (show ∀ j, j < k → (edgesP l)[j]? = some (edgeP l j) from fun j hj => edges_at (by rw [HN.out]; have := HG.out.1; omega) (by rw [HN.out]; exact hj))
      have HCE := Lib.hid hcE
      have HK2 := Lib.hid (HKA.out.tr k2)
      clear hs2 hcE k2 hel hG ce
      obtain ⟨n, hkn⟩ : ∃ n, k = n := ⟨_, rfl⟩
      subst hkn
      go_wp2_with fail
      go_loopw [6] (fun i wx => ∃ i0 : Nat, i = .int .i64 i0 ∧ i0 ≤ k ∧ (∀ a, a < i0 → ∀ j, j < k → rpairOk l a j = true) ∧ Nw w2 wx) (fun i _ => k - (intOf i).toNat)
      case atStart => exact ⟨0, rfl, Nat.zero_le _, fun a h => absurd h (Nat.not_lt_zero _), Kp.refl _ _⟩
      case round =>
        obtain ⟨i, rfl, hi, hall, hnw⟩ := hrel
        have HA := Lib.hid hall
        have HK := Lib.hid hnw
        obtain ⟨wo, rfl⟩ : ∃ x, x = wr := ⟨_, rfl⟩
        clear hall hnw
        by_cases hin : i < k
        · have i0 : (0 : Int) ≤ (i : Int) := by omega
          have i1 : (i : Int) < (k : Int) := by omega
          obtain ⟨s4, hs4⟩ : ∃ s : Nat, i + 1 = s := ⟨_, rfl⟩
          have a4 : IntKind.i64.wrap ((i : Int) + 1) = (s4 : Int) := by rw [IntKind.wrap_i64]; omega
          obtain ⟨⟨⟨ax, ay⟩, ⟨bx, bz⟩⟩, he⟩ : ∃ e, edgeP l i = e := ⟨_, rfl⟩
          have H4 := Lib.hid hs4
          have HE := Lib.hid he
          clear hs4 he
          go_wp2_with fail
          go_loopw [7] (fun j wx => ∃ m : Nat, j = .int .i64 m ∧ i + 1 ≤ m ∧ m ≤ k ∧ (∀ j, j < m → j < k → rpairOk l i j = true) ∧ Nw wo wx) (fun j _ => k - (intOf j).toNat)
          case atStart =>
            refine ⟨s4, rfl, by rw [← H4.out]; omega, by rw [← H4.out]; omega, fun j h1 h2 => ?_, Kp.refl _ _⟩
            unfold rpairOk
            rw [decide_eq_true (by rw [H4.out]; exact h1)]
            rfl
          case round =>
            obtain ⟨m, rfl, hm1, hm2, hinn, hnx⟩ := hrel
            have HI := Lib.hid hinn
            have HX := Lib.hid hnx
            clear hinn hnx
            by_cases hmn : m < k
            · have j0 : (0 : Int) ≤ (m : Int) := by omega
              have j1 : (m : Int) < (k : Int) := by omega
              obtain ⟨s8, hs8⟩ : ∃ s : Nat, m + 1 = s := ⟨_, rfl⟩
              have a8 : IntKind.i64.wrap ((m : Int) + 1) = (s8 : Int) := by rw [IntKind.wrap_i64]; omega
              obtain ⟨s9, hs9⟩ : ∃ s : Nat, k - 1 = s := ⟨_, rfl⟩
              have a9 : IntKind.i64.wrap ((k : Int) - 1) = (s9 : Int) := by rw [IntKind.wrap_i64]; omega
              obtain ⟨⟨⟨cx, cy⟩, ⟨dx, dy⟩⟩, hf⟩ : ∃ e, edgeP l m = e := ⟨_, rfl⟩
              have y := fun p : KeptW wr => HCE.out p.wd ((HK.out.tr HX.out).tr p.since) i _ (HEA.out i hin)
              rw [HE.out] at y
              have q0 := fun p => (y p).1
              have q1 := fun p => (y p).2.1
              have q2 := fun p => (y p).2.2.1
              have q3 := fun p => (y p).2.2.2
              have y' := fun p : KeptW wr => HCE.out p.wd ((HK.out.tr HX.out).tr p.since) m _ (HEA.out m hmn)
              rw [hf] at y'
              have q4 := fun p => (y' p).1
              have q5 := fun p => (y' p).2.1
              have q6 := fun p => (y' p).2.2.1
              have q7 := fun p => (y' p).2.2.2
              have cm := fun w1 => rmeet_any ax ay bx bz cx cy dx dy w1
              obtain ⟨kd, hkd⟩ : ∃ b, kindS ax ay bx bz cx cy dx dy = b := ⟨_, rfl⟩
              rw [hkd] at cm
              obtain ⟨nb, hnb⟩ : ∃ b, ((m : Int) == (s4 : Int)) = b := ⟨_, rfl⟩
              obtain ⟨zb, hzb⟩ : ∃ b, ((i : Int) == 0) = b := ⟨_, rfl⟩
              obtain ⟨lb, hlb⟩ : ∃ b, ((m : Int) == (s9 : Int)) = b := ⟨_, rfl⟩
              have hP : rpairOk l i m = (if nb || (zb && lb) then kd == 1 else kd == 0) := by
                have e1 : decide (m < i + 1) = false := decide_eq_false (by omega)
                have e2 : nextP k i m = (nb || (zb && lb)) := by
                  rw [← hnb, ← hzb, ← hlb]
                  unfold nextP
                  have := H4.out
                  apply Bool.eq_iff_iff.2
                  simp only [Bool.or_eq_true, Bool.and_eq_true, decide_eq_true_eq, beq_iff_eq]
                  omega
                unfold rpairOk
                rw [e1, HN.out, e2, HE.out, hf, Bool.false_or]
                show (if (nb || (zb && lb)) = true then (kindS ax ay bx bz cx cy dx dy == 1) else (kindS ax ay bx bz cx cy dx dy == 0)) = _
                rw [hkd]
              have HP := Lib.hid hP
              have H8 := Lib.hid hs8
              have HMN := Lib.hid (And.intro hmn hin)
              obtain ⟨k0, hk0⟩ : ∃ b, (kd == 0) = b := ⟨_, rfl⟩
              obtain ⟨k1, hk1⟩ : ∃ b, (kd == 1) = b := ⟨_, rfl⟩
              have hk2 : (kd != 0) = !k0 := by rw [← hk0]; rfl
              have hk3 : (kd != 1) = !k1 := by rw [← hk1]; rfl
              have HKK := Lib.hid (And.intro hk0 hk1)
              clear hs8 hs9 hf y y' hP hkd hk0 hk1
              go_upto_region 16 with fail
              cases nb <;> cases zb <;> cases lb <;> go_upto_region 17 with fail
              all_goals (
                refine wp_region_kept (Kp.refl _ _) (by assumption) (by kernel_rfl) ?_
                repeat (with_reducible refine wpQuiet_step (fun K hK => ?_); go_simp; first | ((with_reducible refine hK _ ?_); clear hK K) | (with_reducible apply Exists.intro; (with_reducible refine ⟨fun _ => ?_, hK _ ?_⟩); ((first | (go_at_call 72; with_reducible exact Calls.kept_of (cm _)) | fail)); clear hK K) | (simp only [undef, reduceCtorEq, if_false]; (with_reducible refine hK _ ?_); clear hK K))
                with_reducible refine wpQuiet_nil ?_
                rintro _ ⟨p, rfl⟩
                cases k0 <;> cases k1)
              all_goals (go_wp2_with fail)
              all_goals (first
                | (go_roundw
                   case rel =>
                     refine ⟨m + 1, by rw [← H8.out], by omega, by omega, fun j h1 h2 => ?_, HX.out.tr p.since⟩
                     rcases Nat.lt_or_ge j m with h | h
                     · exact HI.out j h h2
                     · obtain rfl : j = m := by omega
                       rw [HP.out]
                       simp [HKK.out.1, HKK.out.2]
                   case measure => (have := H8.out; simp [intOf]; try omega))
                | (go_ret
                   refine ⟨?_, ((HK2.out.tr HK.out).tr HX.out).tr p.since⟩
                   show Ending.returned (.bool false) = _
                   have hS : rsimpleP l = false := allTo_not (i := i) (by rw [HN.out]; exact HMN.out.2) (allTo_not (i := m) (by rw [HN.out]; exact HMN.out.1) (by rw [HP.out]; simp [HKK.out.1, HKK.out.2]))
                   rw [← HR2.out, hS]
                   rfl))
            · have j1 : ¬ ((m : Int) < (k : Int)) := by omega
              go_wp2_with fail
              go_roundw
              case rel =>
                refine ⟨i + 1, by rw [← H4.out], by omega, fun a h j hj => ?_, HK.out.tr HX.out⟩
                rcases Nat.lt_or_ge a i with h | h
                · exact HA.out a h j hj
                · obtain rfl : a = i := by omega
                  exact HI.out j (by omega) hj
              case measure => (have := H4.out; simp [intOf]; try omega)
        · obtain rfl : i = k := by omega
          have i5 : ¬ ((i : Int) < (i : Int)) := by omega
          have hS : rsimpleP l = true := allTo_iff.2 fun a ha => allTo_iff.2 fun b hb => HA.out a (by rw [HN.out] at ha; exact ha) b (by rw [HN.out] at hb; exact hb)
          have HR3 := Lib.hid (show decide (0 < areaP l) = r by rw [← HR2.out, hS]; rfl)
          clear hS
          go_wp2_with fail
          with_reducible refine (ca _ (HK2.out.tr HK.out)).mono ?_
          rintro e w9 ⟨rfl, k9⟩
          obtain ⟨ar, har⟩ : ∃ a, areaP l = a := ⟨_, rfl⟩
          rw [har] at HR3 ⊢
          go_wp2_with fail
          go_ret
          exact ⟨by show Ending.returned (.bool (decide (0 < ar))) = _; rw [HR3.out], (HK2.out.tr HK.out).tr k9⟩

end Go.Proofs.Ytlogihcmmoldkaa.W
