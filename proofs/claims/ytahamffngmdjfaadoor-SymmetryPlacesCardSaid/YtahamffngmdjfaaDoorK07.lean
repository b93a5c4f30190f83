/-
  What == says of two vectors, boxes, segments and points. No condition.
  symmetry and its reference: Then, Inverse: what they return. No condition.
  awake: the examples of layer 9 hold. Condition: the table of the quarter turns.
  ring, plain: lists of points by index, turns, areas, edges; no program. No condition.
  ring: a list of vectors in memory, its elements by index; remainders by a length. No condition.
  ring: whether all points of a list are within the limits, of both sides. No condition.
  vec: Sorted of a list whose sorted form has no two equal neighbours, and what it calls: what they return. Condition: the list is not longer than a slice may be.
  vec: Compact where no two neighbours are equal; Sorted there: what they return. Condition: the list is not longer than a slice may be.
  vec: Clone; Sorted of a list whose sorted form has no two equal neighbours: what they return. Condition: the list is not longer than a slice may be.
  ring: a list of segments in memory. No condition.
-/
import Derived.Test.YtahamffngmdjfaaDoorK04
import Derived.Laws.StructEq
import Derived.Test.YtahamffngmdjfaaDoorK06
import Derived.Test.YtahamffngmdjfaaDoorK05
import Derived.Test.YtahamffngmdjfaaDoorLayV
import Derived.Deep.OwnRows
import Derived.Laws.MakeOwn
namespace Go.Proofs.YtahamffngmdjfaaDoor.W
open Go.RowKit Go.Proofs.YtahamffngmdjfaaDoor.V

theorem eql_pt (x1 x2 x3 y1 y2 y3 : Int) (w : World) : (binOp .eql 70 (.agg #[.int .i64 x1, .int .i64 x2, .int .i64 x3]) (.agg #[.int .i64 y1, .int .i64 y2, .int .i64 y3])).run Tryd.prog w = .ok (.bool (x1 == y1 && x2 == y2 && x3 == y3)) w := by
  have u3 := Tryd.underlying3
  have a3 := Tryd.isAgg3
  have z3 := Tryd.sizeOf3
  have hS : Tryd.prog.underlying 70 = some (.struct (Tryd.prog.fieldsOf 70)) := by kernel_rfl
  have hp : Tryd.prog.stoodInHeld 70 = false := by kernel_rfl
  rw [run_eql_struct, show (10000 : Nat) = 9999 + 1 from rfl, run_equalIn_agg w 9999 70 _ _ hS hp]
  simp only [Program.fieldsOf, Tryd.underlying70]
  go_simp
  by_cases h1 : x1 = y1 <;> by_cases h2 : x2 = y2 <;> by_cases h3 : x3 = y3 <;> simp [h1, h2, h3]
theorem eql_seg (x1 x2 x3 x4 y1 y2 y3 y4 : Int) (w : World) : (binOp .eql 66 (.agg #[.int .i64 x1, .int .i64 x2, .int .i64 x3, .int .i64 x4]) (.agg #[.int .i64 y1, .int .i64 y2, .int .i64 y3, .int .i64 y4])).run Tryd.prog w = .ok (.bool ((x1 == y1 && x2 == y2) && (x3 == y3 && x4 == y4))) w := by
  have hS : Tryd.prog.underlying 66 = some (.struct (Tryd.prog.fieldsOf 66)) := by kernel_rfl
  have hp : Tryd.prog.stoodInHeld 66 = false := by kernel_rfl
  have s3 : Tryd.prog.cellsOf 23 = 2 := by kernel_rfl
  have s4 := Tryd.isAgg23
  rw [run_eql_struct, show (10000 : Nat) = 9999 + 1 from rfl, run_equalIn_agg w 9999 66 _ _ hS hp]
  simp only [Program.fieldsOf, Tryd.underlying66]
  go_simp
  by_cases h1 : x1 = y1 <;> by_cases h2 : x2 = y2 <;> by_cases h3 : x3 = y3 <;> by_cases h4 : x4 = y4 <;> simp [h1, h2, h3, h4]
theorem eql_box (x1 x2 x3 x4 y1 y2 y3 y4 : Int) (w : World) : (binOp .eql 25 (.agg #[.int .i64 x1, .int .i64 x2, .int .i64 x3, .int .i64 x4]) (.agg #[.int .i64 y1, .int .i64 y2, .int .i64 y3, .int .i64 y4])).run Tryd.prog w = .ok (.bool ((x1 == y1 && x2 == y2) && (x3 == y3 && x4 == y4))) w := by
  have hS : Tryd.prog.underlying 25 = some (.struct (Tryd.prog.fieldsOf 25)) := by kernel_rfl
  have hp : Tryd.prog.stoodInHeld 25 = false := by kernel_rfl
  have s3 : Tryd.prog.cellsOf 23 = 2 := by kernel_rfl
  have s4 := Tryd.isAgg23
  rw [run_eql_struct, show (10000 : Nat) = 9999 + 1 from rfl, run_equalIn_agg w 9999 25 _ _ hS hp]
  simp only [Program.fieldsOf, Tryd.underlying25]
  go_simp
  by_cases h1 : x1 = y1 <;> by_cases h2 : x2 = y2 <;> by_cases h3 : x3 = y3 <;> by_cases h4 : x4 = y4 <;> simp [h1, h2, h3, h4]
theorem eql_vecg (x1 x2 y1 y2 : Int) (w : World) : (binOp .eql 23 (.agg #[.int .i64 x1, .int .i64 x2]) (.agg #[.int .i64 y1, .int .i64 y2])).run Tryd.prog w = .ok (.bool (x1 == y1 && x2 == y2)) w := by
  have u3 := Tryd.underlying3
  have a3 := Tryd.isAgg3
  have z3 := Tryd.sizeOf3
  have hS : Tryd.prog.underlying 23 = some (.struct (Tryd.prog.fieldsOf 23)) := by kernel_rfl
  have hp : Tryd.prog.stoodInHeld 23 = false := by kernel_rfl
  rw [run_eql_struct, show (10000 : Nat) = 9999 + 1 from rfl, run_equalIn_agg w 9999 23 _ _ hS hp]
  simp only [Program.fieldsOf, Tryd.underlying23]
  go_simp
  by_cases h1 : x1 = y1 <;> by_cases h2 : x2 = y2 <;> simp [h1, h2]
end Go.Proofs.YtahamffngmdjfaaDoor.W

namespace Go.Proofs.YtahamffngmdjfaaDoor.W
open Go.RowKit Go.Proofs.YtahamffngmdjfaaDoor.V Go.Proofs.YtahamffngmdjfaaDoor.G


set_option maxHeartbeats 1600000 in
theorem tthen_any (t u : Int) (w : World) : Calls Tryd.prog 22 #[.int .i64 t, .int .i64 u] w fun e w' => e = .returned (.int .i64 (thenT t u)) ∧ w = w' := by
  have c1 := fun w1 => tvalid_any t w1
  have c2 := fun w1 => tvalid_any u w1
  obtain ⟨r, hr⟩ : ∃ r, thenT t u = r := ⟨_, rfl⟩
  rw [hr]
  by_cases ht : validT t = true
  · rw [ht] at c1
    by_cases hu : validT u = true
    · rw [hu] at c2
      have c3 := fun w1 => mirrors_any t w1
      have c4 := fun w1 => mirrors_any u w1
      unfold mirT at c3 c4
      rw [ht, Bool.true_and] at c3
      rw [hu, Bool.true_and] at c4
      obtain ⟨a, ha⟩ : ∃ a, decide (4 ≤ t) = a := ⟨_, rfl⟩
      obtain ⟨b, hb⟩ : ∃ b, decide (4 ≤ u) = b := ⟨_, rfl⟩
      rw [ha] at c3
      rw [hb] at c4
      have H := Lib.hid (And.intro ht (And.intro hu (And.intro ha (And.intro hb hr))))
      clear ht hu ha hb hr
      cases a <;> cases b
      all_goals
        go_enter Tryd.func22, Tryd.ntmps22
        go_wp2_with (first | (go_at_call 10; ((with_reducible refine (c1 _).mono ?_); rintro e _ ⟨rfl, rfl⟩)) | (go_at_call 10; ((with_reducible refine (c2 _).mono ?_); rintro e _ ⟨rfl, rfl⟩)) | (go_at_call 18; ((with_reducible refine (c3 _).mono ?_); rintro e _ ⟨rfl, rfl⟩)) | (go_at_call 18; ((with_reducible refine (c4 _).mono ?_); rintro e _ ⟨rfl, rfl⟩)) | fail)
        go_ret
        obtain ⟨ht, hu, ha, hb, hr⟩ := H.out
        refine ⟨congrArg (fun z => Ending.returned (.int .i64 z)) ?_, rfl⟩
        rw [← hr]
        rcases validT_cases ht with rfl | rfl | rfl | rfl | rfl | rfl | rfl | rfl <;> rcases validT_cases hu with rfl | rfl | rfl | rfl | rfl | rfl | rfl | rfl <;> first | decide +kernel | exact absurd ha (by decide +kernel) | exact absurd hb (by decide +kernel)
    · have hu' : validT u = false := by simpa using hu
      rw [hu'] at c2
      have hz : r = 0 := by rw [← hr]; unfold thenT; rw [if_neg (by simp [hu'])]
      subst hz
      go_enter Tryd.func22, Tryd.ntmps22
      go_wp2_with (first | (go_at_call 10; ((with_reducible refine (c1 _).mono ?_); rintro e _ ⟨rfl, rfl⟩)) | (go_at_call 10; ((with_reducible refine (c2 _).mono ?_); rintro e _ ⟨rfl, rfl⟩)) | fail)
      go_ret
      exact ⟨rfl, rfl⟩
  · have ht' : validT t = false := by simpa using ht
    rw [ht'] at c1
    have hz : r = 0 := by rw [← hr]; unfold thenT; rw [if_neg (by simp [ht'])]
    subst hz
    go_enter Tryd.func22, Tryd.ntmps22
    go_wp2_with (first | (go_at_call 10; ((with_reducible refine (c1 _).mono ?_); rintro e _ ⟨rfl, rfl⟩)) | fail)
    go_ret
    exact ⟨rfl, rfl⟩

set_option maxHeartbeats 1600000 in
theorem tinverse_any (t : Int) (w : World) : Calls Tryd.prog 24 #[.int .i64 t] w fun e w' => e = .returned (.int .i64 (invT t)) ∧ w = w' := by
  have c1 := fun w1 => tvalid_any t w1
  obtain ⟨r, hr⟩ : ∃ r, invT t = r := ⟨_, rfl⟩
  rw [hr]
  by_cases ht : validT t = true
  · rw [ht] at c1
    have c3 := fun w1 => mirrors_any t w1
    unfold mirT at c3
    rw [ht, Bool.true_and] at c3
    obtain ⟨a, ha⟩ : ∃ a, decide (4 ≤ t) = a := ⟨_, rfl⟩
    rw [ha] at c3
    have H := Lib.hid (And.intro ht (And.intro ha hr))
    clear ht ha hr
    cases a
    all_goals
      go_enter Tryd.func24, Tryd.ntmps24
      go_wp2_with (first | (go_at_call 10; ((with_reducible refine (c1 _).mono ?_); rintro e _ ⟨rfl, rfl⟩)) | (go_at_call 18; ((with_reducible refine (c3 _).mono ?_); rintro e _ ⟨rfl, rfl⟩)) | fail)
      go_ret
      obtain ⟨ht, ha, hr⟩ := H.out
      refine ⟨congrArg (fun z => Ending.returned (.int .i64 z)) ?_, rfl⟩
      rw [← hr]
      rcases validT_cases ht with rfl | rfl | rfl | rfl | rfl | rfl | rfl | rfl <;> first | decide +kernel | exact absurd ha (by decide +kernel)
  · have ht' : validT t = false := by simpa using ht
    rw [ht'] at c1
    have hz : r = 0 := by rw [← hr]; unfold invT; rw [if_neg (by simp [ht'])]
    subst hz
    go_enter Tryd.func24, Tryd.ntmps24
    go_wp2_with (first | (go_at_call 10; ((with_reducible refine (c1 _).mono ?_); rintro e _ ⟨rfl, rfl⟩)) | fail)
    go_ret
    exact ⟨rfl, rfl⟩

theorem unit_i64 : I64 0 ∧ I64 1 := by unfold I64; omega
set_option maxRecDepth 100000 in
set_option maxHeartbeats 3200000 in
theorem rtthen_any (t u : Int) (w : World) : Calls Tryd.prog 23 #[.int .i64 t, .int .i64 u] w fun e w' => e = .returned (.int .i64 (thenT t u)) ∧ Nw w w' := by
  have c1 := fun w1 => rtvalid_any t w1
  have c2 := fun w1 => rtvalid_any u w1
  have hmix := mixed7
  obtain ⟨r, hr⟩ : ∃ r, thenT t u = r := ⟨_, rfl⟩
  rw [hr]
  by_cases ht : validT t = true
  · rw [ht] at c1
    by_cases hu : validT u = true
    · rw [hu] at c2
      have H := Lib.hid (And.intro ht (And.intro hu hr))
      clear ht hu hr
      obtain ⟨i0, i1⟩ := unit_i64
      obtain ⟨⟨tx, ty⟩, h1⟩ : ∃ m, mapV t 1 0 = m := ⟨_, rfl⟩
      obtain ⟨⟨sx, sy⟩, h2⟩ : ∃ m, mapV t 0 1 = m := ⟨_, rfl⟩
      have it := mapV_i64 t i1 i0
      have is := mapV_i64 t i0 i1
      rw [h1] at it
      rw [h2] at is
      obtain ⟨⟨ux, uy⟩, h3⟩ : ∃ m, mapV u tx ty = m := ⟨_, rfl⟩
      obtain ⟨⟨vx, vy⟩, h4⟩ : ∃ m, mapV u sx sy = m := ⟨_, rfl⟩
      have ct := fun w1 => rtvec_any t 1 0 w1 i1 i0
      have cu := fun w1 => rtvec_any u tx ty w1 it.1 it.2
      have dt := fun w1 => rtvec_any t 0 1 w1 i0 i1
      have du := fun w1 => rtvec_any u sx sy w1 is.1 is.2
      rw [h1] at ct
      rw [h2] at dt
      rw [h3] at cu
      rw [h4] at du
      have HL := Lib.hid (show ∀ k, likeT t u k = ((mapV k 1 0 == (ux, uy)) && (mapV k 0 1 == (vx, vy))) from fun k => by unfold likeT; rw [h1, h2, h3, h4])
      clear h1 h2 h3 h4 it is
      have hb0 := Blk.new_at w 23 #[.int .i64 1, .int .i64 0] (n := w.heap.size) (by simp)
      have hb1 := Blk.new_at (w.alloc (.cells #[.int .i64 1, .int .i64 0] 23)) 23 #[.int .i64 0, .int .i64 1] (n := w.heap.size + 1) (by simp)
      have hk0 : ∀ p : KeptW ((w.alloc (.cells #[.int .i64 1, .int .i64 0] 23)).alloc (.cells #[.int .i64 0, .int .i64 1] 23)), Blk p.wd (w.heap.size) 23 #[.int .i64 1, .int .i64 0] := fun p => (hb0.alloc _).kept p
      have q0 := fun p => (hk0 p).cell 0
      have q1 := fun p => (hk0 p).cell 1
      have hk1 : ∀ p : KeptW ((w.alloc (.cells #[.int .i64 1, .int .i64 0] 23)).alloc (.cells #[.int .i64 0, .int .i64 1] 23)), Blk p.wd (w.heap.size + 1) 23 #[.int .i64 0, .int .i64 1] := fun p => hb1.kept p
      have q2 := fun p => (hk1 p).cell 0
      have q3 := fun p => (hk1 p).cell 1
      skip
      clear hb0 hk0 hb1 hk1
      go_enter Tryd.func23, Tryd.ntmps23
      go_wp2_with (first | (go_at_call 11; ((with_reducible refine (c1 _).mono ?_); rintro e _ ⟨rfl, rfl⟩)) | (go_at_call 11; ((with_reducible refine (c2 _).mono ?_); rintro e _ ⟨rfl, rfl⟩)) | fail)
      have hnw0 := (nw_alloc w (.cells #[.int .i64 1, .int .i64 0] 23)).alloc (.cells #[.int .i64 0, .int .i64 1] 23)
      generalize hw0 : ((w.alloc (.cells #[.int .i64 1, .int .i64 0] 23)).alloc (.cells #[.int .i64 0, .int .i64 1] 23)) = w0 at *
      clear hw0
      have HW := Lib.hid hnw0
      have HQ0 := Lib.hid q0
      have HQ1 := Lib.hid q1
      have HQ2 := Lib.hid q2
      have HQ3 := Lib.hid q3
      clear hnw0 q0 q1 q2 q3
      go_loopw [7] (fun i wr => ∃ k : Nat, i = .int .i64 k ∧ k ≤ 8 ∧ (∀ j : Nat, j < k → likeT t u (j : Int) = false) ∧ Nw w0 wr) (fun i _ => 8 - (intOf i).toNat)
      case atStart => exact ⟨0, rfl, Nat.zero_le _, fun j h => absurd h (Nat.not_lt_zero _), Kp.refl _ _⟩
      case round =>
        obtain ⟨k, rfl, hk, hall, hnw⟩ := hrel
        have HA := Lib.hid hall
        have HK := Lib.hid hnw
        clear hall hnw
        by_cases hkn : k < 8
        · have k1 : (k : Int) < 8 := by omega
          obtain ⟨s4, hs4⟩ : ∃ s : Nat, k + 1 = s := ⟨_, rfl⟩
          have a4 : IntKind.i64.wrap ((k : Int) + 1) = (s4 : Int) := by rw [IntKind.wrap_i64]; omega
          have H4 := Lib.hid hs4
          obtain ⟨⟨kx, ky⟩, h5⟩ : ∃ m, mapV (k : Int) 1 0 = m := ⟨_, rfl⟩
          obtain ⟨⟨lx, ly⟩, h6⟩ : ∃ m, mapV (k : Int) 0 1 = m := ⟨_, rfl⟩
          have cw := fun w1 => rtvec_any (k : Int) 1 0 w1 i1 i0
          have dw := fun w1 => rtvec_any (k : Int) 0 1 w1 i0 i1
          rw [h5] at cw
          rw [h6] at dw
          have e1 := fun w1 => eql_vecg kx ky ux uy w1
          have e2 := fun w1 => eql_vecg lx ly vx vy w1
          obtain ⟨b1, hb1⟩ : ∃ b, (kx == ux && ky == uy) = b := ⟨_, rfl⟩
          obtain ⟨b2, hb2⟩ : ∃ b, (lx == vx && ly == vy) = b := ⟨_, rfl⟩
          rw [hb1] at e1
          rw [hb2] at e2
          have HB := Lib.hid (show likeT t u (k : Int) = (b1 && b2) by rw [HL.out, h5, h6, ← hb1, ← hb2]; rfl)
          have q0 : ∀ p : KeptW wr, _ := fun p => HQ0.out ⟨p.wd, HK.out.tr p.since⟩
          have q1 : ∀ p : KeptW wr, _ := fun p => HQ1.out ⟨p.wd, HK.out.tr p.since⟩
          have q2 : ∀ p : KeptW wr, _ := fun p => HQ2.out ⟨p.wd, HK.out.tr p.since⟩
          have q3 : ∀ p : KeptW wr, _ := fun p => HQ3.out ⟨p.wd, HK.out.tr p.since⟩
          clear hs4 h5 h6 hb1 hb2 hk
          cases b1 <;> cases b2
          all_goals
            go_wp2_with fail
            refine wp_region_kept (Kp.refl _ _) (by assumption) (by kernel_rfl) ?_
            repeat (with_reducible refine wpQuiet_step (fun K hK => ?_); go_simp; first | ((with_reducible refine hK _ ?_); clear hK K) | (with_reducible apply Exists.intro; (with_reducible refine ⟨fun _ => ?_, hK _ ?_⟩); ((first | (go_at_call 13; with_reducible exact Calls.kept_of (cw _)) | (go_at_call 13; with_reducible exact Calls.kept_of (ct _)) | (go_at_call 13; with_reducible exact Calls.kept_of (cu _)) | (go_at_call 13; with_reducible exact Calls.kept_of (dw _)) | (go_at_call 13; with_reducible exact Calls.kept_of (dt _)) | (go_at_call 13; with_reducible exact Calls.kept_of (du _)) | fail)); clear hK K) | (simp only [undef, reduceCtorEq, if_false]; (with_reducible refine hK _ ?_); clear hK K))
            with_reducible refine wpQuiet_nil ?_
            rintro _ ⟨p, rfl⟩
            go_wp2_with fail
            first
            | (go_roundw
               case rel =>
                 refine ⟨k + 1, by rw [← H4.out], by omega, fun j hj => ?_, HK.out.tr p.since⟩
                 rcases Nat.lt_or_ge j k with h | h
                 · exact HA.out j h
                 · obtain rfl : j = k := by omega
                   rw [HB.out]; rfl
               case measure => (have := H4.out; simp [intOf]; try omega))
            | (go_ret
               obtain ⟨ht, hu, hr⟩ := H.out
               have hk' : (k : Int) = r := by
                 rw [← hr]
                 exact (likeT_iff ht hu (by simp [validT]; omega)).1 (by rw [HB.out]; rfl)
               exact ⟨by rw [hk']; rfl, (HW.out.tr HK.out).tr p.since⟩)
        · obtain ⟨ht, hu, hr⟩ := H.out
          have hv := thenT_valid t u
          simp [validT] at hv
          have h9 := HA.out (thenT t u).toNat (by omega)
          rw [show (((thenT t u).toNat : Nat) : Int) = thenT t u by omega, (likeT_iff ht hu (thenT_valid t u)).2 rfl] at h9
          cases h9
    · have hu' : validT u = false := by simpa using hu
      rw [hu'] at c2
      have hz : r = 0 := by rw [← hr]; unfold thenT; rw [if_neg (by simp [hu'])]
      subst hz
      go_enter Tryd.func23, Tryd.ntmps23
      go_wp2_with (first | (go_at_call 11; ((with_reducible refine (c1 _).mono ?_); rintro e _ ⟨rfl, rfl⟩)) | (go_at_call 11; ((with_reducible refine (c2 _).mono ?_); rintro e _ ⟨rfl, rfl⟩)) | fail)
      go_ret
      exact ⟨rfl, Kp.refl _ _⟩
  · have ht' : validT t = false := by simpa using ht
    rw [ht'] at c1
    have hz : r = 0 := by rw [← hr]; unfold thenT; rw [if_neg (by simp [ht'])]
    subst hz
    go_enter Tryd.func23, Tryd.ntmps23
    go_wp2_with (first | (go_at_call 11; ((with_reducible refine (c1 _).mono ?_); rintro e _ ⟨rfl, rfl⟩)) | fail)
    go_ret
    exact ⟨rfl, Kp.refl _ _⟩

set_option maxRecDepth 100000 in
set_option maxHeartbeats 3200000 in
theorem rtinverse_any (t : Int) (w : World) : Calls Tryd.prog 25 #[.int .i64 t] w fun e w' => e = .returned (.int .i64 (invT t)) ∧ Nw w w' := by
  have c1 := fun w1 => rtvalid_any t w1
  obtain ⟨r, hr⟩ : ∃ r, invT t = r := ⟨_, rfl⟩
  rw [hr]
  by_cases ht : validT t = true
  · rw [ht] at c1
    have H := Lib.hid (And.intro ht hr)
    clear ht hr
    go_enter Tryd.func25, Tryd.ntmps25
    go_wp2_with fail
    go_loopw [3] (fun i wr => ∃ k : Nat, i = .int .i64 k ∧ k ≤ 8 ∧ (∀ j : Nat, j < k → thenT t (j : Int) ≠ 0) ∧ Nw w wr) (fun i _ => 8 - (intOf i).toNat)
    case atStart => exact ⟨0, rfl, Nat.zero_le _, fun j h => absurd h (Nat.not_lt_zero _), Kp.refl _ _⟩
    case round =>
      obtain ⟨k, rfl, hk, hall, hnw⟩ := hrel
      have HA := Lib.hid hall
      have HK := Lib.hid hnw
      clear hall hnw
      by_cases hkn : k < 8
      · have k1 : (k : Int) < 8 := by omega
        obtain ⟨s4, hs4⟩ : ∃ s : Nat, k + 1 = s := ⟨_, rfl⟩
        have a4 : IntKind.i64.wrap ((k : Int) + 1) = (s4 : Int) := by rw [IntKind.wrap_i64]; omega
        have H4 := Lib.hid hs4
        have c2 := fun w1 => rtthen_any t (k : Int) w1
        obtain ⟨s, hs⟩ : ∃ s, thenT t (k : Int) = s := ⟨_, rfl⟩
        rw [hs] at c2
        have HS := Lib.hid hs
        clear hs hs4
        by_cases h0 : s = 0
        · subst h0
          go_wp2_with (first | (go_at_call 11; ((with_reducible refine (c1 _).mono ?_); rintro e _ ⟨rfl, rfl⟩)) | (go_at_call 23; ((with_reducible refine (c2 _).mono ?_); rintro e w5 ⟨rfl, hk5⟩)) | fail)
          go_ret
          obtain ⟨ht, hr⟩ := H.out
          have hk' : (k : Int) = r := by rw [← hr]; exact (invT_iff ht (by simp [validT]; omega)).1 HS.out
          exact ⟨by rw [hk']; rfl, HK.out.tr hk5⟩
        · have z0 : (s == 0) = false := by simp [h0]
          go_wp2_with (first | (go_at_call 11; ((with_reducible refine (c1 _).mono ?_); rintro e _ ⟨rfl, rfl⟩)) | (go_at_call 23; ((with_reducible refine (c2 _).mono ?_); rintro e w5 ⟨rfl, hk5⟩)) | fail)
          go_roundw
          case rel =>
            refine ⟨k + 1, by rw [← H4.out], by omega, fun j hj => ?_, HK.out.tr hk5⟩
            rcases Nat.lt_or_ge j k with h | h
            · exact HA.out j h
            · obtain rfl : j = k := by omega
              rw [HS.out]; exact h0
          case measure => (have := H4.out; simp [intOf]; try omega)
      · obtain ⟨ht, hr⟩ := H.out
        have hv := invT_valid t
        simp [validT] at hv
        have h9 := HA.out (invT t).toNat (by omega)
        rw [show (((invT t).toNat : Nat) : Int) = invT t by omega] at h9
        exact absurd (thenT_inv ht).1 h9
  · have ht' : validT t = false := by simpa using ht
    rw [ht'] at c1
    have hz : r = 0 := by rw [← hr]; unfold invT; rw [if_neg (by simp [ht'])]
    subst hz
    go_enter Tryd.func25, Tryd.ntmps25
    go_wp2_with fail
    go_loopw [3] (fun i wr => i = .int .i64 0 ∧ wr = w) (fun i _ => 0)
    case atStart => exact ⟨rfl, rfl⟩
    case round =>
      obtain ⟨rfl, rfl⟩ := hrel
      go_wp2_with (first | (go_at_call 11; ((with_reducible refine (c1 _).mono ?_); rintro e _ ⟨rfl, rfl⟩)) | fail)
      go_ret
      exact ⟨rfl, Kp.refl _ _⟩
end Go.Proofs.YtahamffngmdjfaaDoor.W

namespace Go.Proofs.YtahamffngmdjfaaDoor.W
open Go.RowKit Go.Proofs.YtahamffngmdjfaaDoor.V Go.Proofs.YtahamffngmdjfaaDoor.G


set_option maxRecDepth 100000 in
set_option maxHeartbeats 3200000 in
theorem awake9_any (w : World) (hT : TabQ w) : Calls Tryd.prog 9 #[] w fun e w' => e = .returned (.bool true) ∧ Nw w w' := by
  have i3 : I64 3 ∧ I64 1 := by unfold I64; omega
  have c1 := fun w1 h => tvec_any 1 3 1 w1 h i3.1 i3.2
  have c4 := fun w1 h => tvec_any 4 3 1 w1 h i3.1 i3.2
  have c5 := fun w1 h => tvec_any 5 3 1 w1 h i3.1 i3.2
  have d1 := fun w1 => tthen_any 4 1 w1
  have d2 := fun w1 => tthen_any 1 4 w1
  have d3 := fun w1 => tvalid_any 7 w1
  rw [show mapV 1 3 1 = (-1, 3) by decide +kernel] at c1
  rw [show mapV 4 3 1 = (-3, 1) by decide +kernel] at c4
  rw [show mapV 5 3 1 = (-1, -3) by decide +kernel] at c5
  rw [show thenT 4 1 = 5 by decide +kernel] at d1
  rw [show thenT 1 4 = 7 by decide +kernel] at d2
  rw [show validT 7 = true by decide +kernel] at d3
  have e1 := fun w1 => eql_vecg (-1) 3 (-1) 3 w1
  have e4 := fun w1 => eql_vecg (-3) 1 (-3) 1 w1
  have e5 := fun w1 => eql_vecg (-1) (-3) (-1) (-3) w1
  simp only [beq_self_eq_true, Bool.and_self] at e1 e4 e5
  go_enter Tryd.func9, Tryd.ntmps9
  go_upto_region 2 with fail
  have hb := Blk.new w 23 #[.int .i64 3, .int .i64 1]
  have hn := nw_alloc w (.cells #[.int .i64 3, .int .i64 1] 23)
  generalize hwd : w.alloc (.cells #[.int .i64 3, .int .i64 1] 23) = wd at *
  clear hwd
  have hTd := hT.nw hn
  have HN := Lib.hid hn
  have q0 := fun p : KeptW wd => (hb.kept p).cell 0
  have q1 := fun p : KeptW wd => (hb.kept p).cell 1
  have z0 := hb.cell 0
  have z1 := hb.cell 1
  have c1 := c1 wd hTd
  have c4 := fun p : KeptW wd => c4 p.wd (hTd.nw p.since)
  have c5 := fun p : KeptW wd => c5 p.wd (hTd.nw p.since)
  clear hb hn hTd hT
  go_wp2_with (first | (go_at_call 12; ((with_reducible refine (Calls.kept_first (c1)).mono ?_); rintro e _ ⟨rfl, p, rfl⟩)) | (go_at_call 12; ((with_reducible refine (Calls.kept_of (c4 _)).mono ?_); rintro e _ ⟨rfl, p, rfl⟩)) | (go_at_call 12; ((with_reducible refine (Calls.kept_of (c5 _)).mono ?_); rintro e _ ⟨rfl, p, rfl⟩)) | (go_at_call 22; ((with_reducible refine (d1 _).mono ?_); rintro e _ ⟨rfl, rfl⟩)) | (go_at_call 22; ((with_reducible refine (d2 _).mono ?_); rintro e _ ⟨rfl, rfl⟩)) | (go_at_call 10; ((with_reducible refine (d3 _).mono ?_); rintro e _ ⟨rfl, rfl⟩)) | fail)
  go_ret
  exact ⟨rfl, HN.out.tr p.since⟩
end Go.Proofs.YtahamffngmdjfaaDoor.W

namespace Go.Proofs.YtahamffngmdjfaaDoor.G
open Go.RowKit Go.Proofs.YtahamffngmdjfaaDoor.V Go.Proofs.YtahamffngmdjfaaDoor.W

abbrev Pt := Int × Int
abbrev Ed := Pt × Pt
def at_ (l : List Pt) (i : Nat) : Pt := l.getD i (0, 0)
theorem at_of {l : List Pt} {i : Nat} {p : Pt} (h : l[i]? = some p) : at_ l i = p := by unfold at_; rw [List.getD_eq_getElem?_getD, h]; rfl
theorem at_some {l : List Pt} {i : Nat} (h : i < l.length) : l[i]? = some (at_ l i) := by
  unfold at_
  rw [List.getD_eq_getElem?_getD, List.getElem?_eq_getElem h]
  rfl
theorem at_mem {l : List Pt} {i : Nat} (h : i < l.length) : at_ l i ∈ l := List.mem_of_getElem? (at_some h)
def turnP (a b c : Pt) : Int := turnV a.1 a.2 b.1 b.2 c.1 c.2
def crossP (a b : Pt) : Int := crossV a.1 a.2 b.1 b.2
def allTo (n : Nat) (p : Nat → Bool) : Bool := (List.range n).all p
theorem allTo_iff {n : Nat} {p : Nat → Bool} : allTo n p = true ↔ ∀ i, i < n → p i = true := by simp [allTo]
theorem allTo_not {n i : Nat} {p : Nat → Bool} (hi : i < n) (h : p i = false) : allTo n p = false := by
  rw [← Bool.not_eq_true, allTo_iff]
  intro hh
  rw [hh i hi] at h
  cases h
def turnI (l : List Pt) (i : Nat) : Int := turnP (at_ l ((i + l.length - 1) % l.length)) (at_ l i) (at_ l ((i + 1) % l.length))
def wOk (p : Pt) : Bool := withinV p.1 p.2 2000
def allW (l : List Pt) : Bool := allTo l.length fun i => wOk (at_ l i)
def turnsP (l : List Pt) : Bool := allTo l.length fun i => !(turnI l i == 0)
def areaTo (l : List Pt) : Nat → Int
  | 0 => 0
  | k + 1 => w64 (areaTo l k + crossP (at_ l k) (at_ l ((k + 1) % l.length)))
def areaP (l : List Pt) : Int := areaTo l l.length
def edgeP (l : List Pt) (i : Nat) : Ed := (at_ l i, at_ l ((i + 1) % l.length))
def edgesP (l : List Pt) : List Ed := if l.length < 2 then [] else (List.range l.length).map (edgeP l)
def apartE (e f : Ed) : Bool := decide (max e.1.1 e.2.1 < min f.1.1 f.2.1) || decide (max f.1.1 f.2.1 < min e.1.1 e.2.1) || decide (max e.1.2 e.2.2 < min f.1.2 f.2.2) || decide (max f.1.2 f.2.2 < min e.1.2 e.2.2)
theorem edges_len {l : List Pt} : (edgesP l).length = if l.length < 2 then 0 else l.length := by unfold edgesP; split <;> simp
theorem edges_at {l : List Pt} {i : Nat} (h2 : ¬ l.length < 2) (hi : i < l.length) : (edgesP l)[i]? = some (edgeP l i) := by
  unfold edgesP
  rw [if_neg h2, List.getElem?_map, List.getElem?_range hi]
  rfl
end Go.Proofs.YtahamffngmdjfaaDoor.G

namespace Go.Proofs.YtahamffngmdjfaaDoor.W
open Go.RowKit Go.Proofs.YtahamffngmdjfaaDoor.V Go.Proofs.YtahamffngmdjfaaDoor.G

abbrev SrcN (w : World) (A : Option Addr) (n c : Nat) (l : List (Int × Int)) : Prop := Src w 2 (.slice A n c) n (l.flatMap vC)
theorem src_n {w : World} {A : Option Addr} {n c : Nat} {l : List (Int × Int)} (h : SrcV w (.slice A l.length c) l) (hn : l.length = n) : SrcN w A n c l := by subst hn; exact h
theorem src_v {w : World} {A : Option Addr} {n c : Nat} {l : List (Int × Int)} (h : SrcN w A n c l) (hn : l.length = n) : SrcV w (.slice A n c) l := by subst hn; exact h
theorem src_max {w : World} {A : Option Addr} {n c : Nat} {l : List (Int × Int)} (h : SrcN w A n c l) : n ≤ c ∧ c ≤ 9223372036854775807 ∧ c ≤ maxLen := by
  obtain ⟨_, A', c', e, h1, h2, _⟩ := h
  injection e with _ _ e3
  subst e3
  exact ⟨h1, by unfold maxLen at h2; omega, h2⟩
theorem src_len {w : World} {A : Option Addr} {n c : Nat} {l : List (Int × Int)} (h : SrcN w A n c l) : l.length = n := by
  have := h.1
  rw [flatV_len] at this
  omega
/-- where a list's elements lie, in all later worlds -/
theorem src_at {w : World} {A : Option Addr} {n c : Nat} {l : List (Int × Int)} (h : SrcN w A n c l) (hn : 0 < n) :
    ∃ g o, A = some ⟨g, o, none⟩ ∧ g < w.heap.size ∧ ∀ w', Nw w w' → ∀ k, k < n → w'.cell? ⟨g, o + k * 2, none⟩ = some (.int .i64 (at_ l k).1) ∧ w'.cell? ⟨g, o + k * 2 + 1, none⟩ = some (.int .i64 (at_ l k).2) := by
  have hl := src_len h
  obtain ⟨_, A', c', e, _, _, hc⟩ := h
  injection e with e1 e2 e3
  subst e1
  obtain ⟨g, o, rfl, hg, hc⟩ := hc (by omega)
  refine ⟨g, o, rfl, hg, fun w' hk k hkn => ?_⟩
  obtain ⟨f1, f2⟩ := flatV_at l k _ (at_some (by omega))
  exact ⟨(hk.cell (p := ⟨g, o + k * 2, none⟩) hg id).trans (hc _ _ f1), (hk.cell (p := ⟨g, o + (k * 2 + 1), none⟩) hg id).trans (hc _ _ f2)⟩
theorem wrapI (n : Int) : IntKind.i64.wrap n = w64 n := by
  rw [IntKind.wrap_i64, w64_eq]
theorem tmod_nat (a b : Nat) : Int.tmod (a : Int) (b : Int) = ((a % b : Nat) : Int) := by
  rw [Int.tmod_eq_emod_of_nonneg (by omega)]
  omega
end Go.Proofs.YtahamffngmdjfaaDoor.W

namespace Go.Proofs.YtahamffngmdjfaaDoor.W
open Go.RowKit Go.Proofs.YtahamffngmdjfaaDoor.V Go.Proofs.YtahamffngmdjfaaDoor.G


set_option maxRecDepth 100000 in
set_option maxHeartbeats 3200000 in
theorem isWithinL_any (l : List (Int × Int)) (v : Value) (w : World) (hv : SrcV w v l) : Calls Tryd.prog 56 #[v] w fun e w' => e = .returned (.bool (allW l)) ∧ Nw w w' := by
  obtain ⟨A, c, rfl⟩ := hv.shape
  obtain ⟨n, hn⟩ : ∃ n, l.length = n := ⟨_, rfl⟩
  replace hv := src_n hv hn
  rw [hn]
  have HV := Lib.hid hv
  have HN := Lib.hid hn
  have hmx := src_max hv
  clear hv hn
  go_enter Tryd.func56, Tryd.ntmps56
  go_wp2_with fail
  go_loopw [7] (fun i wr => ∃ k : Nat, i = .int .i64 k ∧ k ≤ n ∧ (∀ j, j < k → wOk (at_ l j) = true) ∧ Nw w wr) (fun i _ => n - (intOf i).toNat)
  case atStart => exact ⟨0, rfl, Nat.zero_le _, fun j h => absurd h (Nat.not_lt_zero _), by repeat (first | exact Kp.refl _ _ | refine Kp.drew ?_)⟩
  case round =>
    obtain ⟨k, rfl, hk, hall, hnw⟩ := hrel
    have HA := Lib.hid hall
    have HK := Lib.hid hnw
    clear hall hnw
    by_cases hkn : k < n
    · have i0 : (0 : Int) ≤ (k : Int) := by omega
      have i1 : (k : Int) < (n : Int) := by omega
      have e3 : IntKind.i64.wrap ((k : Int) + 1) = ((k + 1 : Nat) : Int) := by rw [IntKind.wrap_i64]; omega
      obtain ⟨g, o, rfl, hg, hc⟩ := src_at HV.out (by omega)
      obtain ⟨q0, q1⟩ := hc wr HK.out k hkn
      obtain ⟨⟨px, py⟩, hp⟩ : ∃ p, at_ l k = p := ⟨_, rfl⟩
      rw [hp] at q0 q1
      have HP := Lib.hid hp
      have cw := fun w1 => within_any px py 2000 w1
      obtain ⟨b, hb⟩ : ∃ b, withinV px py 2000 = b := ⟨_, rfl⟩
      rw [hb] at cw
      have HB := Lib.hid hb
      clear hp hb hc hg
      cases b
      · go_wp2_with (first | (go_at_call 75; ((with_reducible refine (cw _).mono ?_); rintro e w5 ⟨rfl, hk5⟩)))
        go_ret
        refine ⟨by show Ending.returned (.bool false) = _; rw [show allW l = false from allTo_not (i := k) (by rw [HN.out]; exact hkn) (by rw [HP.out]; exact HB.out)], ?_⟩
        exact (by repeat (first | exact HK.out | refine Kp.alloc ?_ _ | refine Kp.drew ?_) : Nw w _).tr hk5
      · go_wp2_with (first | (go_at_call 75; ((with_reducible refine (cw _).mono ?_); rintro e w5 ⟨rfl, hk5⟩)))
        go_roundw
        case rel =>
          refine ⟨k + 1, rfl, by omega, fun j hj => ?_, (by repeat (first | exact HK.out | refine Kp.alloc ?_ _ | refine Kp.drew ?_) : Nw w _).tr hk5⟩
          rcases Nat.lt_or_ge j k with h | h
          · exact HA.out j h
          · obtain rfl : j = k := by omega
            rw [HP.out]
            exact HB.out
        case measure => (simp [intOf]; try omega)
    · obtain rfl : k = n := by omega
      have i5 : ¬ ((k : Int) < (k : Int)) := by omega
      go_wp2_with fail
      go_ret
      exact ⟨by show Ending.returned (.bool true) = _; rw [show allW l = true from allTo_iff.2 fun i hi => HA.out i (by rw [HN.out] at hi; exact hi)], HK.out⟩

set_option maxRecDepth 100000 in
set_option maxHeartbeats 3200000 in
theorem rwithinL_any (l : List (Int × Int)) (v : Value) (w : World) (hv : SrcV w v l) : Calls Tryd.prog 49 #[v] w fun e w' => e = .returned (.bool (allW l)) ∧ Nw w w' := by
  obtain ⟨A, c, rfl⟩ := hv.shape
  obtain ⟨n, hn⟩ : ∃ n, l.length = n := ⟨_, rfl⟩
  replace hv := src_n hv hn
  rw [hn]
  have HV := Lib.hid hv
  have HN := Lib.hid hn
  have hmx := src_max hv
  clear hv hn
  go_enter Tryd.func49, Tryd.ntmps49
  go_wp2_with fail
  go_loopw [3] (fun i wr => ∃ k : Nat, i = .int .i64 k ∧ k ≤ n ∧ (∀ j, j < k → wOk (at_ l j) = true) ∧ Nw w wr) (fun i _ => n - (intOf i).toNat)
  case atStart => exact ⟨0, rfl, Nat.zero_le _, fun j h => absurd h (Nat.not_lt_zero _), by repeat (first | exact Kp.refl _ _ | refine Kp.drew ?_)⟩
  case round =>
    obtain ⟨k, rfl, hk, hall, hnw⟩ := hrel
    have HA := Lib.hid hall
    have HK := Lib.hid hnw
    clear hall hnw
    by_cases hkn : k < n
    · have i0 : (0 : Int) ≤ (k : Int) := by omega
      have i1 : (k : Int) < (n : Int) := by omega
      have e3 : IntKind.i64.wrap ((k : Int) + 1) = ((k + 1 : Nat) : Int) := by rw [IntKind.wrap_i64]; omega
      obtain ⟨g, o, rfl, hg, hc⟩ := src_at HV.out (by omega)
      obtain ⟨q0, q1⟩ := hc wr HK.out k hkn
      obtain ⟨⟨px, py⟩, hp⟩ : ∃ p, at_ l k = p := ⟨_, rfl⟩
      rw [hp] at q0 q1
      have HP := Lib.hid hp
      have cw := fun w1 => rwithin_any px py 2000 w1
      obtain ⟨b, hb⟩ : ∃ b, withinV px py 2000 = b := ⟨_, rfl⟩
      rw [hb] at cw
      have HB := Lib.hid hb
      clear hp hb hc hg
      cases b
      · go_wp2_with (first | (go_at_call 30; ((with_reducible refine (cw _).mono ?_); rintro e w5 ⟨rfl, hk5⟩)))
        go_ret
        refine ⟨by show Ending.returned (.bool false) = _; rw [show allW l = false from allTo_not (i := k) (by rw [HN.out]; exact hkn) (by rw [HP.out]; exact HB.out)], ?_⟩
        exact (by repeat (first | exact HK.out | refine Kp.alloc ?_ _ | refine Kp.drew ?_) : Nw w _).tr hk5
      · go_wp2_with (first | (go_at_call 30; ((with_reducible refine (cw _).mono ?_); rintro e w5 ⟨rfl, hk5⟩)))
        go_roundw
        case rel =>
          refine ⟨k + 1, rfl, by omega, fun j hj => ?_, (by repeat (first | exact HK.out | refine Kp.alloc ?_ _ | refine Kp.drew ?_) : Nw w _).tr hk5⟩
          rcases Nat.lt_or_ge j k with h | h
          · exact HA.out j h
          · obtain rfl : j = k := by omega
            rw [HP.out]
            exact HB.out
        case measure => (simp [intOf]; try omega)
    · obtain rfl : k = n := by omega
      have i5 : ¬ ((k : Int) < (k : Int)) := by omega
      go_wp2_with fail
      go_ret
      exact ⟨by show Ending.returned (.bool true) = _; rw [show allW l = true from allTo_iff.2 fun i hi => HA.out i (by rw [HN.out] at hi; exact hi)], HK.out⟩

end Go.Proofs.YtahamffngmdjfaaDoor.W

namespace Go.Proofs.YtahamffngmdjfaaDoor.W
open Go.RowKit Go.Proofs.YtahamffngmdjfaaDoor.V

def cf (x y : Int × Int) : Int := cmpV x.1 x.2 y.1 y.2
theorem lt_cf (x y : Int × Int) : ltOf cf x y = lessV x.1 x.2 y.1 y.2 := (less_cmp _ _ _ _).symm
theorem cf_swo : Sort.SWO (ltOf cf) where
  irrefl x := by rw [lt_cf]; unfold lessV; simp
  trans x y z h1 h2 := by rw [lt_cf] at *; unfold lessV at *; simp at *; omega
  ntrans x y z h1 h2 := by rw [lt_cf] at *; unfold lessV at *; simp at *; omega
theorem cf_total (x y : Int × Int) (h1 : ltOf cf x y = false) (h2 : ltOf cf y x = false) : x = y := by
  rw [lt_cf] at h1 h2
  unfold lessV at h1 h2
  obtain ⟨a, b⟩ := x
  obtain ⟨c, d⟩ := y
  simp at h1 h2
  have : a = c ∧ b = d := by omega
  rw [this.1, this.2]
/-- the list in ascending order -/
def sortV (l : List (Int × Int)) : List (Int × Int) := l.mergeSort fun x y => !(ltOf cf) y x
theorem sortV_len (l : List (Int × Int)) : (sortV l).length = l.length := List.length_mergeSort l

theorem kp_sort (w : World) (g off m : Nat) (d : Array (Int × Int)) (os : Array Obj) : Kp (fun b => b = g) w (sortWorldK vC 2 w g off m d os) := by
  refine ⟨rfl, rfl, rfl, size_sortWorldK_c vC 2 w g off m d os, fun i hi hne => ?_⟩
  unfold sortWorldK Sort.putRowK
  rw [Sort.heap_grow_old _ _ (by rw [Sort.size_putRow]; exact hi)]
  show (w.heap.modify g _)[i]? = _
  rw [Array.getElem?_modify]
  simp [Ne.symm hne]

theorem cmpLays (blk off size : Nat) (w : World) : CmpLays Tryd.prog 64 #[] vC 2 cf blk off size w :=
  fun _ _ _ _ x y => compare_any x.1 x.2 y.1 y.2 _

end Go.Proofs.YtahamffngmdjfaaDoor.W

namespace Go.Proofs.YtahamffngmdjfaaDoor.W
open Go.RowKit Go.Proofs.YtahamffngmdjfaaDoor.V

/-- no two neighbours are equal -/
def Apart (l : List (Int × Int)) : Prop := ∀ i p q, l[i]? = some p → l[i + 1]? = some q → p ≠ q

end Go.Proofs.YtahamffngmdjfaaDoor.W

namespace Go.Proofs.YtahamffngmdjfaaDoor.W
open Go.RowKit Go.Proofs.YtahamffngmdjfaaDoor.V

theorem vec_info : ∃ i0, Tryd.prog.info? 23 = some i0 ∧ i0.zero = some (vV 0 0) ∧ i0.size = 2 ∧ i0.bytes = 16 :=
  ⟨(Tryd.prog.info? 23).get (by kernel_rfl), by kernel_rfl, by kernel_rfl, by kernel_rfl, by kernel_rfl⟩

/-- the value is nil, or it lies in a block's own cells -/
def Flat (v : Value) : Prop := v = .slice none 0 0 ∨ ∃ g o n c, v = .slice (some ⟨g, o, none⟩) n c
theorem SrcV.flat {w : World} {v : Value} {l : List (Int × Int)} (h : SrcV w v l) (hne : l ≠ []) : Flat v := by
  obtain ⟨_, A, c, rfl, _, _, hc⟩ := h
  obtain ⟨g, o, rfl, _⟩ := hc (List.length_pos_iff.2 hne)
  exact .inr ⟨g, o, _, _, rfl⟩
theorem flatV_one (l : List (Int × Int)) : ∀ u ∈ l.flatMap vC, u.oneCell' = true := by
  intro u hu
  obtain ⟨p, _, hp⟩ := List.mem_flatMap.1 hu
  simp [vC] at hp
  rcases hp with rfl | rfl <;> rfl

theorem src_holds {w : World} {g cap : Nat} {l : List (Int × Int)} {n : Nat} (h : Sort.HoldsK vC 2 w g 0 l.toArray) (hg : g < w.heap.size) (hn : l.length = n) (hc : n ≤ cap) (hm : cap ≤ maxLen) : SrcV w (.slice (some ⟨g, 0, none⟩) n cap) l := by
  subst hn
  refine ⟨flatV_len l, _, _, rfl, hc, hm, fun _ => ⟨g, 0, rfl, hg, fun j u hu => ?_⟩⟩
  have hj : j < l.length * 2 := by
    obtain ⟨h, _⟩ := List.getElem?_eq_some_iff.1 hu
    rwa [flatV_len] at h
  have hq : j / 2 < l.length := by omega
  have hx : l[j / 2]? = some (l[j / 2]'hq) := List.getElem?_eq_getElem hq
  obtain ⟨f1, f2⟩ := flatV_at l (j / 2) _ hx
  have h1 := h j (by rw [Sort.size_flatK]; simpa using hj)
  rw [Sort.get_flatK _ _ _ _ (by simpa using hj), show (l.toArray)[j / 2]! = l[j / 2]'hq by simp [hq]] at h1
  refine h1.1.trans ?_
  rcases Nat.mod_two_eq_zero_or_one j with h | h
  · rw [h]
    rw [show j / 2 * 2 = j by omega, hu] at f1
    exact f1.symm
  · rw [h]
    rw [show j / 2 * 2 + 1 = j by omega, hu] at f2
    exact f2.symm

end Go.Proofs.YtahamffngmdjfaaDoor.W

namespace Go.Proofs.YtahamffngmdjfaaDoor.W
open Go.RowKit Go.Proofs.YtahamffngmdjfaaDoor.V Go.Proofs.YtahamffngmdjfaaDoor.G

abbrev eC (e : Ed) : List Value := [.int .i64 e.1.1, .int .i64 e.1.2, .int .i64 e.2.1, .int .i64 e.2.2]
abbrev SrcE (w : World) (v : Value) (l : List Ed) : Prop := Src w 4 v l.length (l.flatMap eC)
abbrev RowE (w : World) (g : Nat) (l : List Ed) : Prop := Blk w g 66 (l.flatMap eC).toArray
theorem flatE_at : ∀ (l : List Ed) (k : Nat) (e : Ed), l[k]? = some e → (l.flatMap eC)[k * 4]? = some (.int .i64 e.1.1) ∧ (l.flatMap eC)[k * 4 + 1]? = some (.int .i64 e.1.2) ∧ (l.flatMap eC)[k * 4 + 2]? = some (.int .i64 e.2.1) ∧ (l.flatMap eC)[k * 4 + 3]? = some (.int .i64 e.2.2)
  | [], k, p, h => by simp at h
  | q :: r, 0, p, h => by
    obtain rfl : q = p := by simpa using h
    exact ⟨rfl, rfl, rfl, rfl⟩
  | q :: r, k + 1, p, h => by
    have hr := flatE_at r k p (by simpa using h)
    rw [List.flatMap_cons, show (k + 1) * 4 = k * 4 + 1 + 1 + 1 + 1 by omega]
    exact ⟨by simpa [eC] using hr.1, by simpa [eC] using hr.2.1, by simpa [eC] using hr.2.2.1, by simpa [eC] using hr.2.2.2⟩
theorem flatE_len (l : List Ed) : (l.flatMap eC).length = l.length * 4 := by
  induction l with
  | nil => rfl
  | cons x r ih => rw [List.flatMap_cons, List.length_append, ih, List.length_cons]; show 4 + r.length * 4 = (r.length + 1) * 4; omega
theorem flatE_one (l : List Ed) : ∀ u ∈ l.flatMap eC, u.oneCell' = true := by
  intro u hu
  obtain ⟨e, _, h⟩ := List.mem_flatMap.1 hu
  simp [eC] at h
  rcases h with rfl | rfl | rfl | rfl <;> rfl
theorem flatE_set : ∀ (l : List Ed) (k : Nat) (a b c d : Int), ((((l.flatMap eC).set (k * 4) (.int .i64 a)).set (k * 4 + 1) (.int .i64 b)).set (k * 4 + 2) (.int .i64 c)).set (k * 4 + 3) (.int .i64 d) = (l.set k ((a, b), (c, d))).flatMap eC
  | [], k, a, b, c, d => rfl
  | q :: r, 0, a, b, c, d => rfl
  | q :: r, k + 1, a, b, c, d => by
    rw [List.set_cons_succ, List.flatMap_cons, List.flatMap_cons, ← flatE_set r k a b c d]
    show ((((Value.int .i64 q.1.1 :: Value.int .i64 q.1.2 :: Value.int .i64 q.2.1 :: Value.int .i64 q.2.2 :: r.flatMap eC).set ((k + 1) * 4) _).set ((k + 1) * 4 + 1) _).set ((k + 1) * 4 + 2) _).set ((k + 1) * 4 + 3) _ = _
    rw [show (k + 1) * 4 = k * 4 + 1 + 1 + 1 + 1 by omega]
    rfl
theorem RowE.set_ {w : World} {g : Nat} {l : List Ed} (h : RowE w g l) (k : Nat) (a b c d : Int) : RowE ((((w.setCell ⟨g, k * 4, none⟩ (.int .i64 a)).setCell ⟨g, k * 4 + 1, none⟩ (.int .i64 b)).setCell ⟨g, k * 4 + 2, none⟩ (.int .i64 c)).setCell ⟨g, k * 4 + 3, none⟩ (.int .i64 d)) g (l.set k ((a, b), (c, d))) := by
  have := Blk.set_ (Blk.set_ (Blk.set_ (Blk.set_ h (k * 4) (.int .i64 a)) (k * 4 + 1) (.int .i64 b)) (k * 4 + 2) (.int .i64 c)) (k * 4 + 3) (.int .i64 d)
  rw [List.setIfInBounds_toArray, List.setIfInBounds_toArray, List.setIfInBounds_toArray, List.setIfInBounds_toArray, flatE_set] at this
  exact this
theorem RowE.at_ {w : World} {g : Nat} {l : List Ed} (h : RowE w g l) {k : Nat} {e : Ed} (hk : l[k]? = some e) : (w.cell? ⟨g, k * 4, none⟩ = some (.int .i64 e.1.1) ∧ w.cell? ⟨g, k * 4 + 1, none⟩ = some (.int .i64 e.1.2) ∧ w.cell? ⟨g, k * 4 + 2, none⟩ = some (.int .i64 e.2.1) ∧ w.cell? ⟨g, k * 4 + 3, none⟩ = some (.int .i64 e.2.2)) ∧ w.frozen? ⟨g, k * 4, none⟩ = false ∧ w.frozen? ⟨g, k * 4 + 1, none⟩ = false ∧ w.frozen? ⟨g, k * 4 + 2, none⟩ = false ∧ w.frozen? ⟨g, k * 4 + 3, none⟩ = false := by
  obtain ⟨f1, f2, f3, f4⟩ := flatE_at l k e hk
  refine ⟨⟨?_, ?_, ?_, ?_⟩, h.frozen _, h.frozen _, h.frozen _, h.frozen _⟩
  · rw [h.cell]; simpa using f1
  · rw [h.cell]; simpa using f2
  · rw [h.cell]; simpa using f3
  · rw [h.cell]; simpa using f4
theorem RowE.src {w : World} {g : Nat} {l : List Ed} (h : RowE w g l) {n : Nat} (hn : l.length = n) (hm : n ≤ maxLen) : SrcE w (.slice (some ⟨g, 0, none⟩) n n) l := by
  subst hn
  refine ⟨flatE_len l, _, _, rfl, Nat.le_refl _, hm, fun _ => ⟨g, 0, rfl, h.lt, fun j u hu => ?_⟩⟩
  rw [Nat.zero_add, h.cell j, ← hu]
  exact List.getElem?_toArray
theorem segInfo : ∃ i0, Tryd.prog.info? 66 = some i0 ∧ i0.zero = some (.agg #[.int .i64 0, .int .i64 0, .int .i64 0, .int .i64 0]) ∧ i0.size = 4 ∧ i0.bytes = 32 :=
  ⟨(Tryd.prog.info? 66).get (by kernel_rfl), by kernel_rfl, by kernel_rfl, by kernel_rfl, by kernel_rfl⟩
def zE : Ed := ((0, 0), (0, 0))
theorem made_edges (n : Nat) : madeCells #[Value.int .i64 0, .int .i64 0, .int .i64 0, .int .i64 0] (n * 4) = ((List.replicate n zE).flatMap eC).toArray := by
  have hl : ((List.replicate n zE).flatMap eC) = List.replicate (n * 4) (.int .i64 0) := by
    induction n with
    | zero => rfl
    | succ n ih => rw [List.replicate_succ, List.flatMap_cons, ih, show (n + 1) * 4 = n * 4 + 1 + 1 + 1 + 1 by omega, List.replicate_succ, List.replicate_succ, List.replicate_succ, List.replicate_succ]; rfl
  rw [hl]
  apply Array.ext_getElem?
  intro j
  by_cases hj : j < n * 4
  · have : j % 4 < 4 := Nat.mod_lt _ (by omega)
    rcases (show j % 4 = 0 ∨ j % 4 = 1 ∨ j % 4 = 2 ∨ j % 4 = 3 by omega) with h | h | h | h <;> simp [madeCells, hj, h]
  · simp [madeCells, hj]
theorem make_edges (n : Nat) (hn : n ≤ 1099511627776) (w : World) : (Instr.makeSlice 62 (.int .i64 (n : Int)) (.int .i64 (n : Int))).run Tryd.prog w = .ok (.slice (some ⟨w.heap.size, 0, none⟩) n n) (w.alloc (.cells ((List.replicate n zE).flatMap eC).toArray 66)) := by
  obtain ⟨i0, hi, hz, hs, hb⟩ := segInfo
  have hr := run_make (P := Tryd.prog) w 62 66 i0 (.agg #[.int .i64 0, .int .i64 0, .int .i64 0, .int .i64 0]) Tryd.underlying62 hi hz .i64 .i64 n n (by omega) (Int.le_refl _) (by rw [hb]; omega) (by omega)
  simp only [Int.toNat_natCast, hs] at hr
  rw [← made_edges]
  exact hr
/-- where a list's segments lie, in all later worlds -/
theorem srcE_at {w : World} {A : Option Addr} {n c : Nat} {l : List Ed} (h : Src w 4 (.slice A n c) n (l.flatMap eC)) (hn : 0 < n) :
    ∃ g o, A = some ⟨g, o, none⟩ ∧ g < w.heap.size ∧ ∀ w', Nw w w' → ∀ k e, l[k]? = some e → w'.cell? ⟨g, o + k * 4, none⟩ = some (.int .i64 e.1.1) ∧ w'.cell? ⟨g, o + k * 4 + 1, none⟩ = some (.int .i64 e.1.2) ∧ w'.cell? ⟨g, o + k * 4 + 2, none⟩ = some (.int .i64 e.2.1) ∧ w'.cell? ⟨g, o + k * 4 + 3, none⟩ = some (.int .i64 e.2.2) := by
  obtain ⟨_, A', c', e, _, _, hc⟩ := h
  injection e with e1 e2 e3
  subst e1
  obtain ⟨g, o, rfl, hg, hc⟩ := hc (by omega)
  refine ⟨g, o, rfl, hg, fun w' hk k e he => ?_⟩
  obtain ⟨f1, f2, f3, f4⟩ := flatE_at l k e he
  exact ⟨(hk.cell (p := ⟨g, o + k * 4, none⟩) hg id).trans (hc _ _ f1), (hk.cell (p := ⟨g, o + (k * 4 + 1), none⟩) hg id).trans (hc _ _ f2), (hk.cell (p := ⟨g, o + (k * 4 + 2), none⟩) hg id).trans (hc _ _ f3), (hk.cell (p := ⟨g, o + (k * 4 + 3), none⟩) hg id).trans (hc _ _ f4)⟩
end Go.Proofs.YtahamffngmdjfaaDoor.W
