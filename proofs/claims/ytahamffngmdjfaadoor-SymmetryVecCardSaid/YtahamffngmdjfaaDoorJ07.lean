/-
  symmetry and its reference: Then, Inverse: what they return. No condition.
-/
import Derived.Test.YtahamffngmdjfaaDoorJ05
import Derived.Test.YtahamffngmdjfaaDoorJ06
namespace Go.Proofs.YtahamffngmdjfaaDoor.W
open Go.RowKit Go.Proofs.YtahamffngmdjfaaDoor.V Go.Proofs.YtahamffngmdjfaaDoor.G


set_option maxHeartbeats 1600000 in
theorem tthen_any (t u : Int) (w : World) : Calls Tryd.prog 22 #[.int .i64 t, .int .i64 u] w fun e w' => e = .returned (.int .i64 (thenT t u)) ∧ w = w' := by
  have c1 := fun w1 => tvalid_any t w1
  have c2 := fun w1 => tvalid_any u w1
  obtain ⟨r, hr⟩ : ∃ r, thenT t u = r := ⟨_, rfl⟩
  rw [hr]
  by_cases ht : validT t = true
  · rw [ht] at c1
    by_cases hu : validT u = true
    · rw [hu] at c2
      have c3 := fun w1 => mirrors_any t w1
      have c4 := fun w1 => mirrors_any u w1
      unfold mirT at c3 c4
      rw [ht, Bool.true_and] at c3
      rw [hu, Bool.true_and] at c4
      obtain ⟨a, ha⟩ : ∃ a, decide (4 ≤ t) = a := ⟨_, rfl⟩
      obtain ⟨b, hb⟩ : ∃ b, decide (4 ≤ u) = b := ⟨_, rfl⟩
      rw [ha] at c3
      rw [hb] at c4
      have H := Lib.hid (And.intro ht (And.intro hu (And.intro ha (And.intro hb hr))))
      clear ht hu ha hb hr
      cases a <;> cases b
      all_goals
        go_enter Tryd.func22, Tryd.ntmps22
        go_wp2_with (first | (go_at_call 10; ((with_reducible refine (c1 _).mono ?_); rintro e _ ⟨rfl, rfl⟩)) | (go_at_call 10; ((with_reducible refine (c2 _).mono ?_); rintro e _ ⟨rfl, rfl⟩)) | (go_at_call 18; ((with_reducible refine (c3 _).mono ?_); rintro e _ ⟨rfl, rfl⟩)) | (go_at_call 18; ((with_reducible refine (c4 _).mono ?_); rintro e _ ⟨rfl, rfl⟩)) | fail)
        go_ret
        obtain ⟨ht, hu, ha, hb, hr⟩ := H.out
        refine ⟨congrArg (fun z => Ending.returned (.int .i64 z)) ?_, rfl⟩
        rw [← hr]
        rcases validT_cases ht with rfl | rfl | rfl | rfl | rfl | rfl | rfl | rfl <;> rcases validT_cases hu with rfl | rfl | rfl | rfl | rfl | rfl | rfl | rfl <;> first | decide +kernel | exact absurd ha (by decide +kernel) | exact absurd hb (by decide +kernel)
    · have hu' : validT u = false := by simpa using hu
      rw [hu'] at c2
      have hz : r = 0 := by rw [← hr]; unfold thenT; rw [if_neg (by simp [hu'])]
      subst hz
      go_enter Tryd.func22, Tryd.ntmps22
      go_wp2_with (first | (go_at_call 10; ((with_reducible refine (c1 _).mono ?_); rintro e _ ⟨rfl, rfl⟩)) | (go_at_call 10; ((with_reducible refine (c2 _).mono ?_); rintro e _ ⟨rfl, rfl⟩)) | fail)
      go_ret
      exact ⟨rfl, rfl⟩
  · have ht' : validT t = false := by simpa using ht
    rw [ht'] at c1
    have hz : r = 0 := by rw [← hr]; unfold thenT; rw [if_neg (by simp [ht'])]
    subst hz
    go_enter Tryd.func22, Tryd.ntmps22
    go_wp2_with (first | (go_at_call 10; ((with_reducible refine (c1 _).mono ?_); rintro e _ ⟨rfl, rfl⟩)) | fail)
    go_ret
    exact ⟨rfl, rfl⟩

set_option maxHeartbeats 1600000 in
theorem tinverse_any (t : Int) (w : World) : Calls Tryd.prog 24 #[.int .i64 t] w fun e w' => e = .returned (.int .i64 (invT t)) ∧ w = w' := by
  have c1 := fun w1 => tvalid_any t w1
  obtain ⟨r, hr⟩ : ∃ r, invT t = r := ⟨_, rfl⟩
  rw [hr]
  by_cases ht : validT t = true
  · rw [ht] at c1
    have c3 := fun w1 => mirrors_any t w1
    unfold mirT at c3
    rw [ht, Bool.true_and] at c3
    obtain ⟨a, ha⟩ : ∃ a, decide (4 ≤ t) = a := ⟨_, rfl⟩
    rw [ha] at c3
    have H := Lib.hid (And.intro ht (And.intro ha hr))
    clear ht ha hr
    cases a
    all_goals
      go_enter Tryd.func24, Tryd.ntmps24
      go_wp2_with (first | (go_at_call 10; ((with_reducible refine (c1 _).mono ?_); rintro e _ ⟨rfl, rfl⟩)) | (go_at_call 18; ((with_reducible refine (c3 _).mono ?_); rintro e _ ⟨rfl, rfl⟩)) | fail)
      go_ret
      obtain ⟨ht, ha, hr⟩ := H.out
      refine ⟨congrArg (fun z => Ending.returned (.int .i64 z)) ?_, rfl⟩
      rw [← hr]
      rcases validT_cases ht with rfl | rfl | rfl | rfl | rfl | rfl | rfl | rfl <;> first | decide +kernel | exact absurd ha (by decide +kernel)
  · have ht' : validT t = false := by simpa using ht
    rw [ht'] at c1
    have hz : r = 0 := by rw [← hr]; unfold invT; rw [if_neg (by simp [ht'])]
    subst hz
    go_enter Tryd.func24, Tryd.ntmps24
    go_wp2_with (first | (go_at_call 10; ((with_reducible refine (c1 _).mono ?_); rintro e _ ⟨rfl, rfl⟩)) | fail)
    go_ret
    exact ⟨rfl, rfl⟩

theorem unit_i64 : I64 0 ∧ I64 1 := by unfold I64; omega
set_option maxRecDepth 100000 in
set_option maxHeartbeats 3200000 in
theorem rtthen_any (t u : Int) (w : World) : Calls Tryd.prog 23 #[.int .i64 t, .int .i64 u] w fun e w' => e = .returned (.int .i64 (thenT t u)) ∧ Nw w w' := by
  have c1 := fun w1 => rtvalid_any t w1
  have c2 := fun w1 => rtvalid_any u w1
  have hmix := mixed7
  obtain ⟨r, hr⟩ : ∃ r, thenT t u = r := ⟨_, rfl⟩
  rw [hr]
  by_cases ht : validT t = true
  · rw [ht] at c1
    by_cases hu : validT u = true
    · rw [hu] at c2
      have H := Lib.hid (And.intro ht (And.intro hu hr))
      clear ht hu hr
      obtain ⟨i0, i1⟩ := unit_i64
      obtain ⟨⟨tx, ty⟩, h1⟩ : ∃ m, mapV t 1 0 = m := ⟨_, rfl⟩
      obtain ⟨⟨sx, sy⟩, h2⟩ : ∃ m, mapV t 0 1 = m := ⟨_, rfl⟩
      have it := mapV_i64 t i1 i0
      have is := mapV_i64 t i0 i1
      rw [h1] at it
      rw [h2] at is
      obtain ⟨⟨ux, uy⟩, h3⟩ : ∃ m, mapV u tx ty = m := ⟨_, rfl⟩
      obtain ⟨⟨vx, vy⟩, h4⟩ : ∃ m, mapV u sx sy = m := ⟨_, rfl⟩
      have ct := fun w1 => rtvec_any t 1 0 w1 i1 i0
      have cu := fun w1 => rtvec_any u tx ty w1 it.1 it.2
      have dt := fun w1 => rtvec_any t 0 1 w1 i0 i1
      have du := fun w1 => rtvec_any u sx sy w1 is.1 is.2
      rw [h1] at ct
      rw [h2] at dt
      rw [h3] at cu
      rw [h4] at du
      have HL := Lib.hid (show ∀ k, likeT t u k = ((mapV k 1 0 == (ux, uy)) && (mapV k 0 1 == (vx, vy))) from fun k => by unfold likeT; rw [h1, h2, h3, h4])
      clear h1 h2 h3 h4 it is
      have hb0 := Blk.new_at w 23 #[.int .i64 1, .int .i64 0] (n := w.heap.size) (by simp)
      have hb1 := Blk.new_at (w.alloc (.cells #[.int .i64 1, .int .i64 0] 23)) 23 #[.int .i64 0, .int .i64 1] (n := w.heap.size + 1) (by simp)
      have hk0 : ∀ p : KeptW ((w.alloc (.cells #[.int .i64 1, .int .i64 0] 23)).alloc (.cells #[.int .i64 0, .int .i64 1] 23)), Blk p.wd (w.heap.size) 23 #[.int .i64 1, .int .i64 0] := fun p => (hb0.alloc _).kept p
      have q0 := fun p => (hk0 p).cell 0
      have q1 := fun p => (hk0 p).cell 1
      have hk1 : ∀ p : KeptW ((w.alloc (.cells #[.int .i64 1, .int .i64 0] 23)).alloc (.cells #[.int .i64 0, .int .i64 1] 23)), Blk p.wd (w.heap.size + 1) 23 #[.int .i64 0, .int .i64 1] := fun p => hb1.kept p
      have q2 := fun p => (hk1 p).cell 0
      have q3 := fun p => (hk1 p).cell 1
      skip
      clear hb0 hk0 hb1 hk1
      go_enter Tryd.func23, Tryd.ntmps23
      go_wp2_with (first | (go_at_call 11; ((with_reducible refine (c1 _).mono ?_); rintro e _ ⟨rfl, rfl⟩)) | (go_at_call 11; ((with_reducible refine (c2 _).mono ?_); rintro e _ ⟨rfl, rfl⟩)) | fail)
      have hnw0 := (nw_alloc w (.cells #[.int .i64 1, .int .i64 0] 23)).alloc (.cells #[.int .i64 0, .int .i64 1] 23)
      generalize hw0 : ((w.alloc (.cells #[.int .i64 1, .int .i64 0] 23)).alloc (.cells #[.int .i64 0, .int .i64 1] 23)) = w0 at *
      clear hw0
      have HW := Lib.hid hnw0
      have HQ0 := Lib.hid q0
      have HQ1 := Lib.hid q1
      have HQ2 := Lib.hid q2
      have HQ3 := Lib.hid q3
      clear hnw0 q0 q1 q2 q3
      go_loopw [7] (fun i wr => ∃ k : Nat, i = .int .i64 k ∧ k ≤ 8 ∧ (∀ j : Nat, j < k → likeT t u (j : Int) = false) ∧ Nw w0 wr) (fun i _ => 8 - (intOf i).toNat)
      case atStart => exact ⟨0, rfl, Nat.zero_le _, fun j h => absurd h (Nat.not_lt_zero _), Kp.refl _ _⟩
      case round =>
        obtain ⟨k, rfl, hk, hall, hnw⟩ := hrel
        have HA := Lib.hid hall
        have HK := Lib.hid hnw
        clear hall hnw
        by_cases hkn : k < 8
        · have k1 : (k : Int) < 8 := by omega
          obtain ⟨s4, hs4⟩ : ∃ s : Nat, k + 1 = s := ⟨_, rfl⟩
          have a4 : IntKind.i64.wrap ((k : Int) + 1) = (s4 : Int) := by rw [IntKind.wrap_i64]; omega
          have H4 := Lib.hid hs4
          obtain ⟨⟨kx, ky⟩, h5⟩ : ∃ m, mapV (k : Int) 1 0 = m := ⟨_, rfl⟩
          obtain ⟨⟨lx, ly⟩, h6⟩ : ∃ m, mapV (k : Int) 0 1 = m := ⟨_, rfl⟩
          have cw := fun w1 => rtvec_any (k : Int) 1 0 w1 i1 i0
          have dw := fun w1 => rtvec_any (k : Int) 0 1 w1 i0 i1
          rw [h5] at cw
          rw [h6] at dw
          have e1 := fun w1 => eql_vecg kx ky ux uy w1
          have e2 := fun w1 => eql_vecg lx ly vx vy w1
          obtain ⟨b1, hb1⟩ : ∃ b, (kx == ux && ky == uy) = b := ⟨_, rfl⟩
          obtain ⟨b2, hb2⟩ : ∃ b, (lx == vx && ly == vy) = b := ⟨_, rfl⟩
          rw [hb1] at e1
          rw [hb2] at e2
          have HB := Lib.hid (show likeT t u (k : Int) = (b1 && b2) by rw [HL.out, h5, h6, ← hb1, ← hb2]; rfl)
          have q0 : ∀ p : KeptW wr, _ := fun p => HQ0.out ⟨p.wd, HK.out.tr p.since⟩
          have q1 : ∀ p : KeptW wr, _ := fun p => HQ1.out ⟨p.wd, HK.out.tr p.since⟩
          have q2 : ∀ p : KeptW wr, _ := fun p => HQ2.out ⟨p.wd, HK.out.tr p.since⟩
          have q3 : ∀ p : KeptW wr, _ := fun p => HQ3.out ⟨p.wd, HK.out.tr p.since⟩
          clear hs4 h5 h6 hb1 hb2 hk
          cases b1 <;> cases b2
          all_goals
            go_wp2_with fail
            refine wp_region_kept (Kp.refl _ _) (by assumption) (by kernel_rfl) ?_
            repeat (with_reducible refine wpQuiet_step (fun K hK => ?_); go_simp; first | ((with_reducible refine hK _ ?_); clear hK K) | (with_reducible apply Exists.intro; (with_reducible refine ⟨fun _ => ?_, hK _ ?_⟩); ((first | (go_at_call 13; with_reducible exact Calls.kept_of (cw _)) | (go_at_call 13; with_reducible exact Calls.kept_of (ct _)) | (go_at_call 13; with_reducible exact Calls.kept_of (cu _)) | (go_at_call 13; with_reducible exact Calls.kept_of (dw _)) | (go_at_call 13; with_reducible exact Calls.kept_of (dt _)) | (go_at_call 13; with_reducible exact Calls.kept_of (du _)) | fail)); clear hK K) | (simp only [undef, reduceCtorEq, if_false]; (with_reducible refine hK _ ?_); clear hK K))
            with_reducible refine wpQuiet_nil ?_
            rintro _ ⟨p, rfl⟩
            go_wp2_with fail
            first
            | (go_roundw
               case rel =>
                 refine ⟨k + 1, by rw [← H4.out], by omega, fun j hj => ?_, HK.out.tr p.since⟩
                 rcases Nat.lt_or_ge j k with h | h
                 · exact HA.out j h
                 · obtain rfl : j = k := by omega
                   rw [HB.out]; rfl
               case measure => (have := H4.out; simp [intOf]; try omega))
            | (go_ret
               obtain ⟨ht, hu, hr⟩ := H.out
               have hk' : (k : Int) = r := by
                 rw [← hr]
                 exact (likeT_iff ht hu (by simp [validT]; omega)).1 (by rw [HB.out]; rfl)
               exact ⟨by rw [hk']; rfl, (HW.out.tr HK.out).tr p.since⟩)
        · obtain ⟨ht, hu, hr⟩ := H.out
          have hv := thenT_valid t u
          simp [validT] at hv
          have h9 := HA.out (thenT t u).toNat (by omega)
          rw [show (((thenT t u).toNat : Nat) : Int) = thenT t u by omega, (likeT_iff ht hu (thenT_valid t u)).2 rfl] at h9
          cases h9
    · have hu' : validT u = false := by simpa using hu
      rw [hu'] at c2
      have hz : r = 0 := by rw [← hr]; unfold thenT; rw [if_neg (by simp [hu'])]
      subst hz
      go_enter Tryd.func23, Tryd.ntmps23
      go_wp2_with (first | (go_at_call 11; ((with_reducible refine (c1 _).mono ?_); rintro e _ ⟨rfl, rfl⟩)) | (go_at_call 11; ((with_reducible refine (c2 _).mono ?_); rintro e _ ⟨rfl, rfl⟩)) | fail)
      go_ret
      exact ⟨rfl, Kp.refl _ _⟩
  · have ht' : validT t = false := by simpa using ht
    rw [ht'] at c1
    have hz : r = 0 := by rw [← hr]; unfold thenT; rw [if_neg (by simp [ht'])]
    subst hz
    go_enter Tryd.func23, Tryd.ntmps23
    go_wp2_with (first | (go_at_call 11; ((with_reducible refine (c1 _).mono ?_); rintro e _ ⟨rfl, rfl⟩)) | fail)
    go_ret
    exact ⟨rfl, Kp.refl _ _⟩

set_option maxRecDepth 100000 in
set_option maxHeartbeats 3200000 in
theorem rtinverse_any (t : Int) (w : World) : Calls Tryd.prog 25 #[.int .i64 t] w fun e w' => e = .returned (.int .i64 (invT t)) ∧ Nw w w' := by
  have c1 := fun w1 => rtvalid_any t w1
  obtain ⟨r, hr⟩ : ∃ r, invT t = r := ⟨_, rfl⟩
  rw [hr]
  by_cases ht : validT t = true
  · rw [ht] at c1
    have H := Lib.hid (And.intro ht hr)
    clear ht hr
    go_enter Tryd.func25, Tryd.ntmps25
    go_wp2_with fail
    go_loopw [3] (fun i wr => ∃ k : Nat, i = .int .i64 k ∧ k ≤ 8 ∧ (∀ j : Nat, j < k → thenT t (j : Int) ≠ 0) ∧ Nw w wr) (fun i _ => 8 - (intOf i).toNat)
    case atStart => exact ⟨0, rfl, Nat.zero_le _, fun j h => absurd h (Nat.not_lt_zero _), Kp.refl _ _⟩
    case round =>
      obtain ⟨k, rfl, hk, hall, hnw⟩ := hrel
      have HA := Lib.hid hall
      have HK := Lib.hid hnw
      clear hall hnw
      by_cases hkn : k < 8
      · have k1 : (k : Int) < 8 := by omega
        obtain ⟨s4, hs4⟩ : ∃ s : Nat, k + 1 = s := ⟨_, rfl⟩
        have a4 : IntKind.i64.wrap ((k : Int) + 1) = (s4 : Int) := by rw [IntKind.wrap_i64]; omega
        have H4 := Lib.hid hs4
        have c2 := fun w1 => rtthen_any t (k : Int) w1
        obtain ⟨s, hs⟩ : ∃ s, thenT t (k : Int) = s := ⟨_, rfl⟩
        rw [hs] at c2
        have HS := Lib.hid hs
        clear hs hs4
        by_cases h0 : s = 0
        · subst h0
          go_wp2_with (first | (go_at_call 11; ((with_reducible refine (c1 _).mono ?_); rintro e _ ⟨rfl, rfl⟩)) | (go_at_call 23; ((with_reducible refine (c2 _).mono ?_); rintro e w5 ⟨rfl, hk5⟩)) | fail)
          go_ret
          obtain ⟨ht, hr⟩ := H.out
          have hk' : (k : Int) = r := by rw [← hr]; exact (invT_iff ht (by simp [validT]; omega)).1 HS.out
          exact ⟨by rw [hk']; rfl, HK.out.tr hk5⟩
        · have z0 : (s == 0) = false := by simp [h0]
          go_wp2_with (first | (go_at_call 11; ((with_reducible refine (c1 _).mono ?_); rintro e _ ⟨rfl, rfl⟩)) | (go_at_call 23; ((with_reducible refine (c2 _).mono ?_); rintro e w5 ⟨rfl, hk5⟩)) | fail)
          go_roundw
          case rel =>
            refine ⟨k + 1, by rw [← H4.out], by omega, fun j hj => ?_, HK.out.tr hk5⟩
            rcases Nat.lt_or_ge j k with h | h
            · exact HA.out j h
            · obtain rfl : j = k := by omega
              rw [HS.out]; exact h0
          case measure => (have := H4.out; simp [intOf]; try omega)
      · obtain ⟨ht, hr⟩ := H.out
        have hv := invT_valid t
        simp [validT] at hv
        have h9 := HA.out (invT t).toNat (by omega)
        rw [show (((invT t).toNat : Nat) : Int) = invT t by omega] at h9
        exact absurd (thenT_inv ht).1 h9
  · have ht' : validT t = false := by simpa using ht
    rw [ht'] at c1
    have hz : r = 0 := by rw [← hr]; unfold invT; rw [if_neg (by simp [ht'])]
    subst hz
    go_enter Tryd.func25, Tryd.ntmps25
    go_wp2_with fail
    go_loopw [3] (fun i wr => i = .int .i64 0 ∧ wr = w) (fun i _ => 0)
    case atStart => exact ⟨rfl, rfl⟩
    case round =>
      obtain ⟨rfl, rfl⟩ := hrel
      go_wp2_with (first | (go_at_call 11; ((with_reducible refine (c1 _).mono ?_); rintro e _ ⟨rfl, rfl⟩)) | fail)
      go_ret
      exact ⟨rfl, Kp.refl _ _⟩
end Go.Proofs.YtahamffngmdjfaaDoor.W
