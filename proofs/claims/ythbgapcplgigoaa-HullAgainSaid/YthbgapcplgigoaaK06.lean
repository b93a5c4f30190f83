/-
  hull: the reference's Convex: what it returns. Condition: the list is not longer than 2^40.
-/
import Derived.Test.YthbgapcplgigoaaK05
namespace Go.Proofs.Ythbgapcplgigoaa.W
open Go.RowKit Go.Proofs.Ythbgapcplgigoaa.V Go.Proofs.Ythbgapcplgigoaa.G


theorem convB_short {l : List Pt} (h : l.length < 3 ∨ 160 < l.length ∨ allS l = false) : convB l = false := by
  rw [← Bool.not_eq_true, convB_iff]
  rintro ⟨⟨h1, h2⟩, h3, _⟩
  rcases h with h | h | h
  · omega
  · omega
  · rw [h] at h2; cases h2
theorem convB_rows {l : List Pt} (h3 : 3 ≤ l.length) (h1 : l.length ≤ 160) (hs : allS l = true) : convB l = allTo l.length (rowB l) := by
  unfold convB
  rw [decide_eq_true h3, decide_eq_true h1, hs]
  rfl
theorem bne_nat (a b : Nat) : ((a : Int) != (b : Int)) = !(a == b) := by
  apply Bool.eq_iff_iff.2
  simp only [bne_iff_ne, Bool.not_eq_true', beq_eq_false_iff_ne]
  omega

set_option maxRecDepth 100000 in
set_option maxHeartbeats 6400000 in
theorem r10conv_any (l : List (Int × Int)) (v : Value) (w : World) (hv : SrcV w v l) (hl : l.length ≤ 1099511627776)  : Calls Try.prog 22 #[v] w fun e w' => e = .returned (.bool (convB l)) ∧ Nw w w' := by
  obtain ⟨A, c, rfl⟩ := hv.shape
  obtain ⟨n, hn⟩ : ∃ n, l.length = n := ⟨_, rfl⟩
  replace hv := src_n hv hn
  rw [hn] at hl ⊢
  have HV := Lib.hid hv
  have HN := Lib.hid hn
  have hmx := src_max hv
  clear hv hn
  have hmix := mixed7
  by_cases h3 : n < 3
  · have f3 : ((n : Int) < 3) := by omega
    go_enter Try.func22, Try.ntmps22
    go_wp2_with fail
    go_ret
    refine ⟨?_, (by repeat (first | exact Kp.refl _ _ | refine Kp.alloc ?_ _ | refine Kp.drew ?_))⟩
    show Ending.returned (.bool false) = _
    rw [convB_short (.inl (by rw [HN.out]; exact h3))]
  have f3 : ¬ ((n : Int) < 3) := by omega
  by_cases h1 : 160 < n
  · have f1 : ((n : Int) > 160) := by omega
    go_enter Try.func22, Try.ntmps22
    go_wp2_with fail
    go_ret
    refine ⟨?_, (by repeat (first | exact Kp.refl _ _ | refine Kp.alloc ?_ _ | refine Kp.drew ?_))⟩
    show Ending.returned (.bool false) = _
    rw [convB_short (.inr (.inl (by rw [HN.out]; exact h1)))]
  have f1 : ¬ ((n : Int) > 160) := by omega
  have cs := fun w1 (h : SrcV w1 (.slice A n c) l) => r10within_any l (.slice A n c) w1 h
  obtain ⟨b, hb⟩ : ∃ b, allS l = b := ⟨_, rfl⟩
  rw [hb] at cs
  have HS := Lib.hid hb
  clear hb
  have hsv := Lib.hid (src_v HV.out HN.out)
  cases b
  · go_enter Try.func22, Try.ntmps22
    go_wp2_with (go_at_call 39; ((with_reducible refine (cs _ (hsv.out.nw (by repeat (first | exact Kp.refl _ _ | refine Kp.alloc ?_ _ | refine Kp.drew ?_)))).mono ?_); rintro e w5 ⟨rfl, hk5⟩))
    go_ret
    refine ⟨?_, hk5⟩
    show Ending.returned (.bool false) = _
    rw [convB_short (.inr (.inr HS.out))]
  rw [convB_rows (l := l) (by rw [HN.out]; omega) (by rw [HN.out]; omega) HS.out, HN.out]
  go_enter Try.func22, Try.ntmps22
  go_wp2_with (go_at_call 39; ((with_reducible refine (cs _ (hsv.out.nw (by repeat (first | exact Kp.refl _ _ | refine Kp.alloc ?_ _ | refine Kp.drew ?_)))).mono ?_); rintro e w5 ⟨rfl, hk5⟩))
  have HK5 := Lib.hid hk5
  clear hk5 cs hsv f1 f3
  go_loopw [4] (fun i wr => ∃ k : Nat, i = .int .i64 k ∧ k ≤ n ∧ (∀ a, a < k → rowB l a = true) ∧ Nw w5 wr) (fun i _ => n - (intOf i).toNat)
  case atStart => exact ⟨0, rfl, Nat.zero_le _, fun a h => absurd h (Nat.not_lt_zero _), (by repeat (first | exact Kp.refl _ _ | refine Kp.alloc ?_ _ | refine Kp.drew ?_))⟩
  case round =>
    obtain ⟨k, rfl, hk, hall, hnw⟩ := hrel
    have HA := Lib.hid hall
    clear hall
    have HK := Lib.hid hnw
    clear hnw
    by_cases hkn : k < n
    · have i0 : (0 : Int) ≤ (k : Int) := by omega
      have i1 : (k : Int) < (n : Int) := by omega
      obtain ⟨s4, hs4⟩ : ∃ s : Nat, k + 1 = s := ⟨_, rfl⟩
      have a4 : IntKind.i64.wrap ((k : Int) + 1) = (s4 : Int) := by rw [IntKind.wrap_i64]; omega
      have H4 := Lib.hid hs4
      have hn0 : 0 < n := by omega
      obtain ⟨s5, hs5⟩ : ∃ s : Nat, (k + 1) % n = s := ⟨_, rfl⟩
      have l5 : s5 < n := by rw [← hs5]; exact Nat.mod_lt _ hn0
      have a5 : (s4 : Int).tmod (n : Int) = (s5 : Int) := by rw [tmod_nat, ← hs4, hs5]
      have z0 : ¬ (n = 0) := by omega
      have b4 : (0 : Int) ≤ (s5 : Int) := by omega
      have b5 : (s5 : Int) < (n : Int) := by omega
      clear hs4
      have HS5 := Lib.hid hs5
      have HL5 := Lib.hid l5
      clear hs5 l5
      obtain ⟨wo, rfl⟩ : ∃ x, x = wr := ⟨_, rfl⟩
      go_wp2_with fail
      go_loopw [5] (fun j wx => ∃ m : Nat, j = .int .i64 m ∧ m ≤ n ∧ (∀ j, j < m → pairB l k j = true) ∧ Nw wo wx) (fun j _ => n - (intOf j).toNat)
      case atStart => exact ⟨0, rfl, Nat.zero_le _, fun a h => absurd h (Nat.not_lt_zero _), (by repeat (first | exact Kp.refl _ _ | refine Kp.alloc ?_ _ | refine Kp.drew ?_))⟩
      case round =>
        obtain ⟨m, rfl, hm, hin, hnx⟩ := hrel
        have HI := Lib.hid hin
        have HX := Lib.hid hnx
        clear hin hnx
        by_cases hmn : m < n
        · have j0 : (0 : Int) ≤ (m : Int) := by omega
          have j1 : (m : Int) < (n : Int) := by omega
          obtain ⟨s7, hs7⟩ : ∃ s : Nat, m + 1 = s := ⟨_, rfl⟩
          have a7 : IntKind.i64.wrap ((m : Int) + 1) = (s7 : Int) := by rw [IntKind.wrap_i64]; omega
          obtain ⟨g, o, rfl, hg, hc⟩ := src_at HV.out (by omega)
          obtain ⟨⟨ax, ay⟩, ha⟩ : ∃ p, at_ l k = p := ⟨_, rfl⟩
          obtain ⟨⟨bx, bz⟩, hb⟩ : ∃ p, at_ l s5 = p := ⟨_, rfl⟩
          obtain ⟨⟨cx, cy⟩, hcc⟩ : ∃ p, at_ l m = p := ⟨_, rfl⟩
          have y := fun p : KeptW wr => hc p.wd (HK5.out.tr (HK.out.tr (HX.out.tr p.since)))
          have q0 := fun p => (y p k hkn).1
          have q1 := fun p => (y p k hkn).2
          have q2 := fun p => (y p s5 HL5.out).1
          have q3 := fun p => (y p s5 HL5.out).2
          have q4 := fun p => (y p m hmn).1
          have q5 := fun p => (y p m hmn).2
          rw [ha] at q0 q1
          rw [hb] at q2 q3
          rw [hcc] at q4 q5
          have ct := fun w1 => rturn_any ax ay bx bz cx cy w1
          have hP : pairB l k m = ((m == k) || (m == s5) || decide (0 < turnV ax ay bx bz cx cy)) := by
            unfold pairB
            rw [HN.out, HS5.out, ha, hb, hcc]
            rfl
          obtain ⟨t, ht⟩ : ∃ t, turnV ax ay bx bz cx cy = t := ⟨_, rfl⟩
          rw [ht] at ct hP
          obtain ⟨b1, hb1⟩ : ∃ b, ((m : Int) != (k : Int)) = b := ⟨_, rfl⟩
          obtain ⟨b2, hb2⟩ : ∃ b, ((m : Int) != (s5 : Int)) = b := ⟨_, rfl⟩
          obtain ⟨b3, hb3⟩ : ∃ b, decide (t ≤ 0) = b := ⟨_, rfl⟩
          have hP2 : pairB l k m = (!b1 || !b2 || !b3) := by
            rw [hP, ← hb1, ← hb2, ← hb3, bne_nat, bne_nat, Bool.not_not, Bool.not_not]
            congr 1
            rw [← decide_not]
            exact decide_eq_decide.2 (by omega)
          have HP := Lib.hid hP2
          have H7 := Lib.hid hs7
          clear hs7 y hP hP2 ha hb hcc hc hg ht
          go_upto_region 10 with fail
          cases b1 <;> cases b2 <;> cases b3
          case true.true.true =>
            refine wp_region_kept (Kp.refl _ _) (by assumption) (by kernel_rfl) ?_
            repeat (with_reducible refine wpQuiet_step (fun K hK => ?_); go_simp; first | ((with_reducible refine hK _ ?_); clear hK K) | (with_reducible apply Exists.intro; (with_reducible refine ⟨fun _ => ?_, hK _ ?_⟩); ((first | (go_at_call 26; with_reducible exact Calls.kept_of (ct _)) | fail)); clear hK K) | (simp only [undef, reduceCtorEq, if_false]; (with_reducible refine hK _ ?_); clear hK K))
            with_reducible refine wpQuiet_nil ?_
            rintro _ ⟨p, rfl⟩
            go_wp2_with fail
            go_ret
            refine ⟨?_, HK5.out.tr (HK.out.tr (HX.out.tr p.since))⟩
            show Ending.returned (.bool false) = _
            rw [show allTo n (rowB l) = false from allTo_not (i := k) hkn (allTo_not (i := m) (by rw [HN.out]; exact hmn) HP.out)]
          all_goals (
            refine wp_region_kept (Kp.refl _ _) (by assumption) (by kernel_rfl) ?_
            repeat (with_reducible refine wpQuiet_step (fun K hK => ?_); go_simp; first | ((with_reducible refine hK _ ?_); clear hK K) | (with_reducible apply Exists.intro; (with_reducible refine ⟨fun _ => ?_, hK _ ?_⟩); ((first | (go_at_call 26; with_reducible exact Calls.kept_of (ct _)) | fail)); clear hK K) | (simp only [undef, reduceCtorEq, if_false]; (with_reducible refine hK _ ?_); clear hK K))
            with_reducible refine wpQuiet_nil ?_
            rintro _ ⟨p, rfl⟩
            go_wp2_with fail
            go_roundw
            case rel =>
              refine ⟨m + 1, by rw [← H7.out], by omega, fun j h1 => ?_, HX.out.tr p.since⟩
              rcases Nat.lt_or_ge j m with h | h
              · exact HI.out j h
              · obtain rfl : j = m := by omega
                exact HP.out
            case measure => (have := H7.out; simp [intOf]; try omega))
        · obtain rfl : m = n := by omega
          have i6 : ¬ ((m : Int) < (m : Int)) := by omega
          go_wp2_with fail
          go_roundw
          case rel =>
            refine ⟨k + 1, by rw [← H4.out], by omega, fun j h1 => ?_, HK.out.tr HX.out⟩
            rcases Nat.lt_or_ge j k with h | h
            · exact HA.out j h
            · obtain rfl : j = k := by omega
              exact allTo_iff.2 fun i hi => HI.out i (by rw [HN.out] at hi; exact hi)
          case measure => (have := H4.out; simp [intOf]; try omega)
    · obtain rfl : k = n := by omega
      have i5 : ¬ ((k : Int) < (k : Int)) := by omega
      go_wp2_with fail
      go_ret
      refine ⟨?_, HK5.out.tr HK.out⟩
      show Ending.returned (.bool true) = _
      rw [show allTo k (rowB l) = true from allTo_iff.2 fun i hi => HA.out i hi]

end Go.Proofs.Ythbgapcplgigoaa.W
