/-
  ring: isSimple, Valid, Area2, Convex: what they return. Condition: the list is not longer than 2^40.
-/
import Derived.Test.YtlogihcmmoldkaaK28
import Derived.Test.YtlogihcmmoldkaaK29
import Derived.Test.YtlogihcmmoldkaaK13
import Derived.Test.YtlogihcmmoldkaaK24
namespace Go.Proofs.Ytlogihcmmoldkaa.W
open Go.RowKit Go.Proofs.Ytlogihcmmoldkaa.V Go.Proofs.Ytlogihcmmoldkaa.G


set_option maxRecDepth 100000 in
set_option maxHeartbeats 6400000 in
theorem isSimple_any (l : List (Int × Int)) (v : Value) (w : World) (hv : SrcV w v l) (hl : l.length ≤ 1099511627776) (h3 : 3 ≤ l.length) : Calls Try.prog 65 #[v] w fun e w' => e = .returned (.bool (simpleP l)) ∧ Nw w w' := by
  obtain ⟨A, c, rfl⟩ := hv.shape
  obtain ⟨n, hn⟩ : ∃ n, l.length = n := ⟨_, rfl⟩
  replace hv := src_n hv hn
  rw [hn] at hl h3 ⊢
  have HV := Lib.hid hv
  have HN := Lib.hid hn
  have hmx := src_max hv
  clear hv hn
  have ce := fun w1 h => edges_any l (.slice A n c) w1 h (by rw [HN.out]; exact hl)
  have hmix := mixed7
  have hel : (edgesP l).length = n := by rw [edges_len, if_neg (by rw [HN.out]; omega), HN.out]
  have hea : ∀ k, k < n → (edgesP l)[k]? = some (edgeP l k) := fun k hk => edges_at (by rw [HN.out]; omega) (by rw [HN.out]; exact hk)
  go_enter Try.func65, Try.ntmps65
  go_wp2_with fail
  with_reducible refine (ce _ (src_v HV.out HN.out)).mono ?_
  rintro e w1 ⟨v1, rfl, hs1, hk1⟩
  obtain ⟨A1, c1, rfl⟩ := hs1.shape
  obtain ⟨G, o, rfl, hG, hcE⟩ := srcE_at hs1 (by rw [hel]; omega)
  have hcl : n ≤ c1 := by
    obtain ⟨_, A', c', e, h1, _⟩ := hs1
    injection e with _ _ e3
    subst e3
    rw [← hel]; exact h1
  rw [hel]
  have HCE := Lib.hid hcE
  have HEA := Lib.hid hea
  have HK1 := Lib.hid hk1
  clear hs1 hcE hea hk1 hel ce hG
  go_wp2_with fail
  go_loopw [12] (fun i wr => ∃ k : Nat, i = .int .i64 k ∧ k ≤ n ∧ (∀ a, a < k → ∀ j, j < n → pairOk l a j = true) ∧ Nw w1 wr) (fun i _ => n - (intOf i).toNat)
  case atStart => exact ⟨0, rfl, Nat.zero_le _, fun a h => absurd h (Nat.not_lt_zero _), (by repeat (first | exact Kp.refl _ _ | refine Kp.alloc ?_ _ | refine Kp.drew ?_))⟩
  case round =>
    obtain ⟨k, rfl, hk, hall, hnw⟩ := hrel
    have HA := Lib.hid hall
    have HK := Lib.hid hnw
    clear hall hnw
    obtain ⟨wo, rfl⟩ : ∃ x, x = wr := ⟨_, rfl⟩
    by_cases hkn : k < n
    · have i0 : (0 : Int) ≤ (k : Int) := by omega
      have i1 : (k : Int) < (n : Int) := by omega
      obtain ⟨s4, hs4⟩ : ∃ s : Nat, k + 1 = s := ⟨_, rfl⟩
      have a4 : IntKind.i64.wrap ((k : Int) + 1) = (s4 : Int) := by rw [IntKind.wrap_i64]; omega
      obtain ⟨s6, hs6⟩ : ∃ s : Nat, k + 2 = s := ⟨_, rfl⟩
      have a6 : IntKind.i64.wrap ((k : Int) + 2) = (s6 : Int) := by rw [IntKind.wrap_i64]; omega
      obtain ⟨⟨⟨ax, ay⟩, ⟨bx, bz⟩⟩, he⟩ : ∃ e, edgeP l k = e := ⟨_, rfl⟩
      have y := HCE.out wo HK.out k _ (HEA.out k hkn)
      rw [he] at y
      obtain ⟨y0, y1, y2, y3⟩ := y
      have H4 := Lib.hid hs4
      have H6 := Lib.hid hs6
      have HE := Lib.hid he
      clear hs4 hs6 he
      go_upto_region 5 with fail
      generalize hwb : World.alloc _ (.cells #[.int .i64 ax, .int .i64 ay, .int .i64 bx, .int .i64 bz] _) = wb
      have HKB := Lib.hid (show Nw w1 wb by rw [← hwb]; exact HK.out.alloc _)
      have HBB := Lib.hid (show Blk wb wo.heap.size 76 #[.int .i64 ax, .int .i64 ay, .int .i64 bx, .int .i64 bz] by rw [← hwb]; exact Blk.new _ _ _)
      clear hwb y0 y1 y2 y3
      go_wp2_with fail
      go_loopw [6] (fun j wx => ∃ m : Nat, j = .int .i64 m ∧ k + 2 ≤ m ∧ m ≤ n + 1 ∧ (∀ j, j < m → j < n → pairOk l k j = true) ∧ Nw wb wx) (fun j _ => n - (intOf j).toNat)
      case atStart =>
        refine ⟨s6, rfl, by rw [← H6.out]; omega, by rw [← H6.out]; omega, fun j h1 h2 => ?_, (by repeat (first | exact Kp.refl _ _ | refine Kp.alloc ?_ _ | refine Kp.drew ?_))⟩
        unfold pairOk
        rw [decide_eq_true (by rw [H6.out]; exact h1)]
        rfl
      case round =>
        obtain ⟨m, rfl, hm1, hm2, hin, hnx⟩ := hrel
        have HI := Lib.hid hin
        have HX := Lib.hid hnx
        clear hin hnx
        by_cases hmn : m < n
        · have j0 : (0 : Int) ≤ (m : Int) := by omega
          have j1 : (m : Int) < (n : Int) := by omega
          obtain ⟨s7, hs7⟩ : ∃ s : Nat, m + 1 = s := ⟨_, rfl⟩
          have a7 : IntKind.i64.wrap ((m : Int) + 1) = (s7 : Int) := by rw [IntKind.wrap_i64]; omega
          obtain ⟨s5, hs5⟩ : ∃ s : Nat, (m + 1) % n = s := ⟨_, rfl⟩
          have a5 : (s7 : Int).tmod (n : Int) = (s5 : Int) := by rw [tmod_nat, ← hs7, hs5]
          have z0 : ¬ (n = 0) := by omega
          obtain ⟨⟨⟨cx, cy⟩, ⟨dx, dy⟩⟩, hf⟩ : ∃ e, edgeP l m = e := ⟨_, rfl⟩
          have q0 := fun p : KeptW wr => (HBB.out.kp (HX.out.tr p.since) id).cell 0
          have q1 := fun p : KeptW wr => (HBB.out.kp (HX.out.tr p.since) id).cell 1
          have q2 := fun p : KeptW wr => (HBB.out.kp (HX.out.tr p.since) id).cell 2
          have q3 := fun p : KeptW wr => (HBB.out.kp (HX.out.tr p.since) id).cell 3
          have y := fun p : KeptW wr => HCE.out p.wd ((HKB.out.tr HX.out).tr p.since) m _ (HEA.out m hmn)
          rw [hf] at y
          have q4 := fun p => (y p).1
          have q5 := fun p => (y p).2.1
          have q6 := fun p => (y p).2.2.1
          have q7 := fun p => (y p).2.2.2
          have ca := fun w1 => areApart_any ax ay bx bz cx cy dx dy w1
          have cm := fun w1 => meetK_any ax ay bx bz cx cy dx dy w1
          have hP : pairOk l k m = (((s5 : Int) == (k : Int)) || apartE ((ax, ay), (bx, bz)) ((cx, cy), (dx, dy)) || (kindS ax ay bx bz cx cy dx dy == 0)) := by
            have e1 : decide (m < k + 2) = false := decide_eq_false (by omega)
            have e2 : decide ((m + 1) % l.length = k) = ((s5 : Int) == (k : Int)) := by
              rw [HN.out, hs5]
              apply Bool.eq_iff_iff.2
              simp only [decide_eq_true_eq, beq_iff_eq]
              omega
            unfold pairOk
            rw [e1, e2, HE.out, hf, Bool.false_or]
            rfl
          obtain ⟨fb, hfb⟩ : ∃ b, ((s5 : Int) == (k : Int)) = b := ⟨_, rfl⟩
          obtain ⟨ab, hab⟩ : ∃ b, apartE ((ax, ay), (bx, bz)) ((cx, cy), (dx, dy)) = b := ⟨_, rfl⟩
          obtain ⟨kd, hkd⟩ : ∃ b, kindS ax ay bx bz cx cy dx dy = b := ⟨_, rfl⟩
          rw [hfb, hab, hkd] at hP
          rw [hab] at ca
          rw [hkd] at cm
          obtain ⟨kb, hkb⟩ : ∃ b, (kd == 0) = b := ⟨_, rfl⟩
          have hkb2 : (kd != 0) = !kb := by rw [← hkb]; rfl
          rw [hkb] at hP
          have HP := Lib.hid hP
          have H7 := Lib.hid hs7
          clear hs7 hs5 hf y hP hab hkd
          go_upto_region 8 with fail
          clear hkb
          cases fb <;> cases ab <;> cases kb
          case false.false.false =>
            go_upto_region 9 with fail
            refine wp_region_kept (Kp.refl _ _) (by assumption) (by kernel_rfl) ?_
            repeat (with_reducible refine wpQuiet_step (fun K hK => ?_); go_simp; first | ((with_reducible refine hK _ ?_); clear hK K) | (with_reducible apply Exists.intro; (with_reducible refine ⟨fun _ => ?_, hK _ ?_⟩); ((first | (go_at_call 77; with_reducible exact Calls.kept_of (ca _)) | (go_at_call 78; with_reducible exact Calls.kept_of (cm _)) | fail)); clear hK K) | (simp only [undef, reduceCtorEq, if_false]; (with_reducible refine hK _ ?_); clear hK K))
            with_reducible refine wpQuiet_nil ?_
            rintro _ ⟨p, rfl⟩
            go_wp2_with fail
            go_ret
            refine ⟨?_, (((HK1.out.tr HKB.out).tr HX.out).tr p.since)⟩
            show Ending.returned (.bool false) = _
            rw [show simpleP l = false from allTo_not (i := k) (by rw [HN.out]; exact hkn) (allTo_not (i := m) (by rw [HN.out]; exact hmn) HP.out)]
          all_goals (
            go_upto_region 9 with fail
            refine wp_region_kept (Kp.refl _ _) (by assumption) (by kernel_rfl) ?_
            repeat (with_reducible refine wpQuiet_step (fun K hK => ?_); go_simp; first | ((with_reducible refine hK _ ?_); clear hK K) | (with_reducible apply Exists.intro; (with_reducible refine ⟨fun _ => ?_, hK _ ?_⟩); ((first | (go_at_call 77; with_reducible exact Calls.kept_of (ca _)) | (go_at_call 78; with_reducible exact Calls.kept_of (cm _)) | fail)); clear hK K) | (simp only [undef, reduceCtorEq, if_false]; (with_reducible refine hK _ ?_); clear hK K))
            with_reducible refine wpQuiet_nil ?_
            rintro _ ⟨p, rfl⟩
            go_wp2_with fail
            go_roundw
            case rel =>
              refine ⟨m + 1, by rw [← H7.out], by omega, by omega, fun j h1 h2 => ?_, HX.out.tr p.since⟩
              rcases Nat.lt_or_ge j m with h | h
              · exact HI.out j h h2
              · obtain rfl : j = m := by omega
                exact HP.out
            case measure => (have := H7.out; simp [intOf]; try omega))
        · have j1 : ¬ ((m : Int) < (n : Int)) := by omega
          go_wp2_with fail
          go_roundw
          case rel =>
            refine ⟨k + 1, by rw [← H4.out], by omega, fun a h j hj => ?_, HKB.out.tr HX.out⟩
            rcases Nat.lt_or_ge a k with h | h
            · exact HA.out a h j hj
            · obtain rfl : a = k := by omega
              exact HI.out j (by omega) hj
          case measure => (have := H4.out; simp [intOf]; try omega)
    · obtain rfl : k = n := by omega
      have i5 : ¬ ((k : Int) < (k : Int)) := by omega
      go_wp2_with fail
      go_ret
      exact ⟨by show Ending.returned (.bool true) = _; rw [show simpleP l = true from allTo_iff.2 fun i hi => allTo_iff.2 fun j hj => HA.out i (by rw [HN.out] at hi; exact hi) j (by rw [HN.out] at hj; exact hj)], HK1.out.tr HK.out⟩

end Go.Proofs.Ytlogihcmmoldkaa.W
