/-
  hull: HullContains: the call returns true. No condition.
-/
import Derived.Test.YthbgapcplgigoaaK16
namespace Go.Proofs.Ythbgapcplgigoaa.W
open Go.RowKit Go.Proofs.Ythbgapcplgigoaa.V Go.Proofs.Ythbgapcplgigoaa.G


set_option maxRecDepth 100000 in
set_option maxHeartbeats 12800000 in
theorem hullContains_any (l : List (Int × Int)) (v : Value) (w : World) (hv : SrcV w v l) : Calls Try.prog 5 #[v] w fun e w' => e = .returned (.bool true) ∧ Nw w w' := by
  have hmix := mixed7
  obtain ⟨A, c, rfl⟩ := hv.shape
  obtain ⟨n, hn⟩ : ∃ n, l.length = n := ⟨_, rfl⟩
  replace hv := src_n hv hn
  have HV := Lib.hid hv
  have HN := Lib.hid hn
  have HSV := Lib.hid (src_v hv hn)
  have hmx := src_max hv
  rw [hn]
  obtain ⟨sb, hsb⟩ : ∃ b, (allS l && decide (l.length ≤ 30)) = b := ⟨_, rfl⟩
  have cs := fun w1 (h : Nw w w1) => small_any l (.slice A n c) w1 (HSV.out.nw h)
  rw [hsb] at cs
  have HSB := Lib.hid hsb
  clear hv hn hsb
  go_enter Try.func5, Try.ntmps5
  go_wp2_with fail
  refine (awakeH_any _).mono ?_
  rintro e w1 ⟨rfl, k1⟩
  go_wp2_with fail
  refine (cs _ k1).mono ?_
  rintro e w2 ⟨rfl, k2⟩
  have HK2 := Lib.hid (k1.tr k2)
  clear k1 k2 cs
  cases sb
  · go_wp2_with fail
    go_ret
    exact ⟨rfl, HK2.out⟩
  obtain ⟨hs, h30⟩ : allS l = true ∧ l.length ≤ 30 := by
    have := HSB.out
    rw [Bool.and_eq_true, decide_eq_true_eq] at this
    exact this
  have HSS := Lib.hid hs
  have hl : n ≤ 30 := by rw [← HN.out]; exact h30
  have chu := hull_any l (.slice A n c) w2 (HSV.out.nw HK2.out)
  rcases hullH_small hs (by omega) with ⟨hf, he⟩ | ⟨r, hh, he, hcv, hsr⟩
  · rw [he] at chu
    simp only at chu
    have hcol := (colB_iff hs).2 hf
    have HCO := Lib.hid (show ∀ i, i < n → ∀ k, k < n → ((at_ l i == at_ l 0) || (turnP (at_ l 0) (at_ l i) (at_ l k) == 0)) = true from fun i hi k hk => by
      rw [colB_rows, HN.out] at hcol
      exact allTo_iff.1 (allTo_iff.1 hcol i hi) k hk)
    clear hs h30 hf he hcol
    go_wp2_with fail
    refine chu.mono ?_
    rintro e w3 ⟨v3, rfl, s3, k3⟩
    have HK3 := Lib.hid (HK2.out.tr k3)
    obtain ⟨A3, c3, rfl⟩ := s3.shape
    simp only [List.length_nil]
    clear chu s3 k3
    go_wp2_with fail
    go_loopw [5] (fun i wr => ∃ k : Nat, i = .int .i64 k ∧ k ≤ n ∧ Nw w3 wr) (fun i _ => n - (intOf i).toNat)
    case atStart => exact ⟨0, rfl, Nat.zero_le _, (by repeat (first | exact Kp.refl _ _ | refine Kp.alloc ?_ _ | refine Kp.drew ?_))⟩
    case round =>
      obtain ⟨k, rfl, hk, hnw⟩ := hrel
      have HK := Lib.hid hnw
      clear hnw
      by_cases hkn : k < n
      · have i0 : (0 : Int) ≤ (k : Int) := by omega
        have i1 : (k : Int) < (n : Int) := by omega
        obtain ⟨s4, hs4⟩ : ∃ s : Nat, k + 1 = s := ⟨_, rfl⟩
        have a4 : IntKind.i64.wrap ((k : Int) + 1) = (s4 : Int) := by rw [IntKind.wrap_i64]; omega
        have H4 := Lib.hid hs4
        clear hs4
        have hn0 : 0 < n := by omega
        have hn1 : (0 : Int) < (n : Int) := by omega
        obtain ⟨wo, rfl⟩ : ∃ x, x = wr := ⟨_, rfl⟩
        go_wp2_with fail
        go_loopw [6] (fun j wx => ∃ m : Nat, j = .int .i64 m ∧ m ≤ n ∧ Nw wo wx) (fun j _ => n - (intOf j).toNat)
        case atStart => exact ⟨0, rfl, Nat.zero_le _, (by repeat (first | exact Kp.refl _ _ | refine Kp.alloc ?_ _ | refine Kp.drew ?_))⟩
        case round =>
          obtain ⟨m, rfl, hm, hnx⟩ := hrel
          have HX := Lib.hid hnx
          clear hnx
          by_cases hmn : m < n
          · have j0 : (0 : Int) ≤ (m : Int) := by omega
            have j1 : (m : Int) < (n : Int) := by omega
            obtain ⟨s7, hs7⟩ : ∃ s : Nat, m + 1 = s := ⟨_, rfl⟩
            have a7 : IntKind.i64.wrap ((m : Int) + 1) = (s7 : Int) := by rw [IntKind.wrap_i64]; omega
            obtain ⟨g, o, rfl, hg, hc⟩ := src_at HV.out (by omega)
            obtain ⟨⟨ax, ay⟩, ha⟩ : ∃ p, at_ l k = p := ⟨_, rfl⟩
            obtain ⟨⟨bx, bz⟩, hb⟩ : ∃ p, at_ l 0 = p := ⟨_, rfl⟩
            obtain ⟨⟨cx, cy⟩, hcc⟩ : ∃ p, at_ l m = p := ⟨_, rfl⟩
            have y := fun p : KeptW wr => hc p.wd (HK3.out.tr (HK.out.tr (HX.out.tr p.since)))
            have q0 := fun p => (y p k hkn).1
            have q1 := fun p => (y p k hkn).2
            have q2 := fun p => (y p 0 hn0).1
            have q3 := fun p => (y p 0 hn0).2
            have q4 := fun p => (y p m hmn).1
            have q5 := fun p => (y p m hmn).2
            simp only [Nat.zero_mul, Nat.add_zero] at q2 q3
            rw [ha] at q0 q1
            rw [hb] at q2 q3
            rw [hcc] at q4 q5
            have ct := fun w1 => rturn_any bx bz ax ay cx cy w1
            have hq := fun w1 => neq_vecU ax ay bx bz w1
            obtain ⟨t, ht⟩ : ∃ t, turnV bx bz ax ay cx cy = t := ⟨_, rfl⟩
            rw [ht] at ct
            obtain ⟨b1, hb1⟩ : ∃ b, (!(ax == bx && ay == bz)) = b := ⟨_, rfl⟩
            rw [hb1] at hq
            obtain ⟨b2, hb2⟩ : ∃ b, (t != 0) = b := ⟨_, rfl⟩
            have hP : (!b1 || !b2) = true := by
              rw [← HCO.out k hkn m hmn, ha, hb, hcc, ← hb1, ← hb2, ← ht, Bool.not_not]
              show (_ || !(!(turnV bx bz ax ay cx cy == 0))) = _
              rw [Bool.not_not]
              rfl
            have H7 := Lib.hid hs7
            clear hs7 y ha hb hcc hc hg ht
            go_upto_region 13 with fail
            cases b1 <;> cases b2
            case true.true => cases hP
            all_goals (
              clear hP
              refine wp_region_kept (Kp.refl _ _) (by assumption) (by kernel_rfl) ?_
              repeat (with_reducible refine wpQuiet_step (fun K hK => ?_); go_simp; first | ((with_reducible refine hK _ ?_); clear hK K) | (with_reducible apply Exists.intro; (with_reducible refine ⟨fun _ => ?_, hK _ ?_⟩); ((first | (go_at_call 26; with_reducible exact Calls.kept_of (ct _)) | fail)); clear hK K) | (simp only [undef, reduceCtorEq, if_false]; (with_reducible refine hK _ ?_); clear hK K))
              with_reducible refine wpQuiet_nil ?_
              rintro _ ⟨p, rfl⟩
              go_wp2_with fail
              go_roundw
              case rel => exact ⟨m + 1, by rw [← H7.out], by omega, HX.out.tr p.since⟩
              case measure => (have := H7.out; simp [intOf]; try omega))
          · obtain rfl : m = n := by omega
            have i6 : ¬ ((m : Int) < (m : Int)) := by omega
            go_wp2_with fail
            go_roundw
            case rel => exact ⟨k + 1, by rw [← H4.out], by omega, HK.out.tr HX.out⟩
            case measure => (have := H4.out; simp [intOf]; try omega)
      · obtain rfl : k = n := by omega
        have i5 : ¬ ((k : Int) < (k : Int)) := by omega
        go_wp2_with fail
        go_ret
        exact ⟨rfl, HK3.out.tr HK.out⟩
  · rw [he] at chu
    simp only at chu
    have HWH := Lib.hid (show ∀ k, k < n → whereH r (at_ l k) ≠ 0 from fun k hk => hull_where hh hcv (at_mem (by rw [HN.out]; exact hk)) hs)
    obtain ⟨rn, hrn⟩ : ∃ x, r.length = x := ⟨_, rfl⟩
    have hr30 : rn ≤ 30 := by rw [← hrn]; exact Nat.le_trans (hull_sub hh (fun _ h => h)) h30
    have HHA := Lib.hid (show ∀ k, k < rn → hasB l (at_ r k) = true from fun k hk => hasB_iff.2 (hh.mem k (by rw [hrn]; exact hk)))
    have HLE := Lib.hid (show ∀ k, k < rn → 0 < k → lessV (at_ r 0).1 (at_ r 0).2 (at_ r k).1 (at_ r k).2 = true from fun k hk h0 => hull_less hh (by rw [hrn]; exact hk) h0)
    have HRN := Lib.hid hrn
    have HCV := Lib.hid hcv
    clear hs h30 he hh hcv hsr
    go_wp2_with fail
    refine chu.mono ?_
    rintro e w3 ⟨v3, rfl, s3, k3⟩
    have HK3 := Lib.hid (HK2.out.tr k3)
    obtain ⟨A3, c3, rfl⟩ := s3.shape
    rw [hrn] at s3 ⊢
    have HS3 := Lib.hid (show SrcV w3 (.slice A3 rn c3) r by rw [← hrn] at s3; rw [hrn] at s3; exact s3)
    have HR3 := Lib.hid (src_n (show SrcV w3 (.slice A3 r.length c3) r by rw [hrn]; exact HS3.out) hrn)
    have hmx3 := src_max HR3.out
    clear chu s3 k3 hrn
    go_wp2_with fail
    go_loopw [7] (fun i wr => ∃ k : Nat, i = .int .i64 k ∧ k ≤ n ∧ Nw w3 wr) (fun i _ => n - (intOf i).toNat)
    case atStart => exact ⟨0, rfl, Nat.zero_le _, (by repeat (first | exact Kp.refl _ _ | refine Kp.alloc ?_ _ | refine Kp.drew ?_))⟩
    case round =>
      obtain ⟨k, rfl, hk, hnw⟩ := hrel
      have HK := Lib.hid hnw
      clear hnw
      by_cases hkn : k < n
      · have i0 : (0 : Int) ≤ (k : Int) := by omega
        have i1 : (k : Int) < (n : Int) := by omega
        obtain ⟨s4, hs4⟩ : ∃ s : Nat, k + 1 = s := ⟨_, rfl⟩
        have a4 : IntKind.i64.wrap ((k : Int) + 1) = (s4 : Int) := by rw [IntKind.wrap_i64]; omega
        have H4 := Lib.hid hs4
        obtain ⟨g, o, rfl, hg, hc⟩ := src_at HV.out (by omega)
        obtain ⟨⟨ax, ay⟩, ha⟩ : ∃ p, at_ l k = p := ⟨_, rfl⟩
        obtain ⟨y0, y1⟩ := hc wr (HK3.out.tr HK.out) k hkn
        rw [ha] at y0 y1
        have cwh := where_any r ax ay (.slice A3 rn c3) wr (HS3.out.nw HK.out) (by rw [HRN.out]; omega)
        have hx := HWH.out k hkn
        rw [ha] at hx
        obtain ⟨x, hxx⟩ : ∃ x, whereH r (ax, ay) = x := ⟨_, rfl⟩
        rw [hxx] at cwh hx
        have hx0 : (x == 0) = false := by simpa using hx
        clear hs4 hc hg ha hxx hx
        go_wp2_with fail
        refine cwh.mono ?_
        rintro e w5 ⟨rfl, k5⟩
        have HK5 := Lib.hid (HK.out.tr k5)
        clear cwh k5 y0 y1
        go_wp2_with fail
        go_roundw
        case rel => exact ⟨k + 1, by rw [← H4.out], by omega, HK5.out⟩
        case measure => (have := H4.out; simp [intOf]; try omega)
      · obtain rfl : k = n := by omega
        have i5 : ¬ ((k : Int) < (k : Int)) := by omega
        go_wp2_with fail
        have HK4 := Lib.hid (HK3.out.tr HK.out)
        have HK34 := Lib.hid HK.out
        clear HK
        obtain ⟨w4, hw4⟩ : ∃ x, x = wr := ⟨_, rfl⟩
        subst hw4
        go_loopw [8] (fun i wr => ∃ q : Nat, i = .int .i64 q ∧ q ≤ rn ∧ Nw w4 wr) (fun i _ => rn - (intOf i).toNat)
        case atStart => exact ⟨0, rfl, Nat.zero_le _, (by repeat (first | exact Kp.refl _ _ | refine Kp.alloc ?_ _ | refine Kp.drew ?_))⟩
        case round =>
          obtain ⟨q, rfl, hq, hnw⟩ := hrel
          have HQ := Lib.hid hnw
          clear hnw
          by_cases hqn : q < rn
          · have i0 : (0 : Int) ≤ (q : Int) := by omega
            have i1 : (q : Int) < (rn : Int) := by omega
            have hn0 : 0 < rn := by omega
            have hn1 : (0 : Int) < (rn : Int) := by omega
            obtain ⟨s4, hs4⟩ : ∃ s : Nat, q + 1 = s := ⟨_, rfl⟩
            have a4 : IntKind.i64.wrap ((q : Int) + 1) = (s4 : Int) := by rw [IntKind.wrap_i64]; omega
            have H4 := Lib.hid hs4
            obtain ⟨g, o, rfl, hg, hc⟩ := src_at HR3.out (by omega)
            obtain ⟨⟨ax, ay⟩, ha⟩ : ∃ p, at_ r q = p := ⟨_, rfl⟩
            obtain ⟨⟨bx, bz⟩, hb⟩ : ∃ p, at_ r 0 = p := ⟨_, rfl⟩
            have y := fun p : KeptW wr => hc p.wd (HK34.out.tr (HQ.out.tr p.since))
            have q0 := fun p => (y p q hqn).1
            have q1 := fun p => (y p q hqn).2
            have q2 := fun p => (y p 0 hn0).1
            have q3 := fun p => (y p 0 hn0).2
            simp only [Nat.zero_mul, Nat.add_zero] at q2 q3
            rw [ha] at q0 q1
            rw [hb] at q2 q3
            have ch := fun p : KeptW wr => has_any l ax ay (.slice A k c) p.wd (HSV.out.nw (HK4.out.tr (HQ.out.tr p.since))) (by rw [HN.out]; omega)
            have hh := HHA.out q hqn
            rw [ha] at hh
            rw [hh] at ch
            have cl := fun w1 => rless_any bx bz ax ay w1
            have hle := HLE.out q hqn
            rw [ha, hb] at hle
            simp only at hle
            obtain ⟨bq, hbq⟩ : ∃ b, decide ((q : Int) > 0) = b := ⟨_, rfl⟩
            have hb0 : decide (0 < q) = bq := by rw [← hbq]; exact decide_eq_decide.2 (by omega)
            have HLQ := Lib.hid (show bq = true → lessV bx bz ax ay = true from fun h => hle (by rw [h] at hb0; exact of_decide_eq_true hb0))
            clear hs4 y ha hb hc hg hh hle
            go_upto_region 24 with fail
            cases bq
            · clear HLQ
              refine wp_region_kept (Kp.refl _ _) (by assumption) (by kernel_rfl) ?_
              repeat (with_reducible refine wpQuiet_step (fun K hK => ?_); go_simp; first | ((with_reducible refine hK _ ?_); clear hK K) | (with_reducible apply Exists.intro; (with_reducible refine ⟨fun _ => ?_, hK _ ?_⟩); ((first | (go_at_call 27; with_reducible exact Calls.kept_of (ch _)) | (go_at_call 28; with_reducible exact Calls.kept_of (cl _)) | fail)); clear hK K) | (simp only [undef, reduceCtorEq, if_false]; (with_reducible refine hK _ ?_); clear hK K))
              with_reducible refine wpQuiet_nil ?_
              rintro _ ⟨p, rfl⟩
              go_wp2_with fail
              go_roundw
              case rel => exact ⟨q + 1, by rw [← H4.out], by omega, HQ.out.tr p.since⟩
              case measure => (have := H4.out; simp [intOf]; try omega)
            · rw [HLQ.out rfl] at cl
              refine wp_region_kept (Kp.refl _ _) (by assumption) (by kernel_rfl) ?_
              repeat (with_reducible refine wpQuiet_step (fun K hK => ?_); go_simp; first | ((with_reducible refine hK _ ?_); clear hK K) | (with_reducible apply Exists.intro; (with_reducible refine ⟨fun _ => ?_, hK _ ?_⟩); ((first | (go_at_call 27; with_reducible exact Calls.kept_of (ch _)) | (go_at_call 28; with_reducible exact Calls.kept_of (cl _)) | fail)); clear hK K) | (simp only [undef, reduceCtorEq, if_false]; (with_reducible refine hK _ ?_); clear hK K))
              with_reducible refine wpQuiet_nil ?_
              rintro _ ⟨p, rfl⟩
              go_wp2_with fail
              go_roundw
              case rel => exact ⟨q + 1, by rw [← H4.out], by omega, HQ.out.tr p.since⟩
              case measure => (have := H4.out; simp [intOf]; try omega)
          · obtain rfl : q = rn := by omega
            have i6 : ¬ ((q : Int) < (q : Int)) := by omega
            have cc := conv_any r (.slice A3 q c3) wr (HS3.out.nw (HK34.out.tr HQ.out)) (by rw [HRN.out]; omega)
            rw [HCV.out] at cc
            go_wp2_with fail
            refine cc.mono ?_
            rintro e w6 ⟨rfl, k6⟩
            go_wp2_with fail
            go_ret
            exact ⟨rfl, HK4.out.tr (HQ.out.tr k6)⟩

end Go.Proofs.Ythbgapcplgigoaa.W
