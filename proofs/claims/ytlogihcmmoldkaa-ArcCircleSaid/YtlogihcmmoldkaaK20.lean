/-
  seg: sharedEnds: the least and the greatest end that lies on both segments. No condition.
-/
import Derived.Test.YtlogihcmmoldkaaK19
namespace Go.Proofs.Ytlogihcmmoldkaa.W
open Go.RowKit Go.Proofs.Ytlogihcmmoldkaa.V

set_option maxRecDepth 100000 in
set_option maxHeartbeats 6400000 in
theorem sharedEnds_any (ax ay bx bz cx cy dx dy : Int) (w : World) : Calls Try.prog 91 #[sV ax ay bx bz, sV cx cy dx dy] w fun e w' => e = .returned (.tuple #[sV (sharedS ax ay bx bz cx cy dx dy 4).1.1 (sharedS ax ay bx bz cx cy dx dy 4).1.2 (sharedS ax ay bx bz cx cy dx dy 4).2.1.1 (sharedS ax ay bx bz cx cy dx dy 4).2.1.2, .bool (sharedS ax ay bx bz cx cy dx dy 4).2.2]) ∧ Nw w w' := by
  have hmix := mixed7
  have hF : ∀ w', Nw ((((w.alloc (.cells #[.int .i64 ax, .int .i64 ay, .int .i64 bx, .int .i64 bz] 76)).alloc (.cells #[.int .i64 cx, .int .i64 cy, .int .i64 dx, .int .i64 dy] 76)).alloc (.cells #[.int .i64 0, .int .i64 0, .int .i64 0, .int .i64 0] 76)).alloc (.cells #[.int .i64 ax, .int .i64 ay, .int .i64 bx, .int .i64 bz, .int .i64 cx, .int .i64 cy, .int .i64 dx, .int .i64 dy] 92)) w' → Blk w' w.heap.size 76 #[.int .i64 ax, .int .i64 ay, .int .i64 bx, .int .i64 bz] ∧ Blk w' (w.heap.size + 1) 76 #[.int .i64 cx, .int .i64 cy, .int .i64 dx, .int .i64 dy] ∧ Blk w' (w.heap.size + 1 + 1) 76 #[.int .i64 0, .int .i64 0, .int .i64 0, .int .i64 0] := fun w' h => ⟨((((Blk.new_at w 76 #[.int .i64 ax, .int .i64 ay, .int .i64 bx, .int .i64 bz] (n := w.heap.size) rfl).alloc _).alloc _).alloc _).kp h id, (((Blk.new_at _ 76 #[.int .i64 cx, .int .i64 cy, .int .i64 dx, .int .i64 dy] (n := w.heap.size + 1) (by simp)).alloc _).alloc _).kp h id, ((Blk.new_at _ 76 #[.int .i64 0, .int .i64 0, .int .i64 0, .int .i64 0] (n := w.heap.size + 1 + 1) (by simp)).alloc _).kp h id⟩
  have HF := Lib.hid hF
  have HW := Lib.hid (show Nw w ((((w.alloc (.cells #[.int .i64 ax, .int .i64 ay, .int .i64 bx, .int .i64 bz] 76)).alloc (.cells #[.int .i64 cx, .int .i64 cy, .int .i64 dx, .int .i64 dy] 76)).alloc (.cells #[.int .i64 0, .int .i64 0, .int .i64 0, .int .i64 0] 76)).alloc (.cells #[.int .i64 ax, .int .i64 ay, .int .i64 bx, .int .i64 bz, .int .i64 cx, .int .i64 cy, .int .i64 dx, .int .i64 dy] 92)) from (((nw_alloc _ _).alloc _).alloc _).alloc _)
  have HG := Lib.hid (Blk.new_at ((((w.alloc (.cells #[.int .i64 ax, .int .i64 ay, .int .i64 bx, .int .i64 bz] 76)).alloc (.cells #[.int .i64 cx, .int .i64 cy, .int .i64 dx, .int .i64 dy] 76)).alloc (.cells #[.int .i64 0, .int .i64 0, .int .i64 0, .int .i64 0] 76)).alloc (.cells #[.int .i64 ax, .int .i64 ay, .int .i64 bx, .int .i64 bz, .int .i64 cx, .int .i64 cy, .int .i64 dx, .int .i64 dy] 92)) 76 #[.int .i64 0, .int .i64 0, .int .i64 0, .int .i64 0] (n := w.heap.size + 1 + 1 + 1 + 1) (by simp))
  have HLE := Lib.hid (show ((((w.alloc (.cells #[.int .i64 ax, .int .i64 ay, .int .i64 bx, .int .i64 bz] 76)).alloc (.cells #[.int .i64 cx, .int .i64 cy, .int .i64 dx, .int .i64 dy] 76)).alloc (.cells #[.int .i64 0, .int .i64 0, .int .i64 0, .int .i64 0] 76)).alloc (.cells #[.int .i64 ax, .int .i64 ay, .int .i64 bx, .int .i64 bz, .int .i64 cx, .int .i64 cy, .int .i64 dx, .int .i64 dy] 92)).heap.size ≤ w.heap.size + 1 + 1 + 1 + 1 by simp)
  clear hF
  go_enter Try.func91, Try.ntmps91
  go_wp2_with fail
  go_loopw [8, 21] (fun s i wr => ∃ (k : Nat) (f1 f2 l1 l2 : Int) (has : Bool), s = .bool has ∧ i = .int .i64 k ∧ k ≤ 4 ∧ sharedS ax ay bx bz cx cy dx dy k = ((f1, f2), (l1, l2), has) ∧ Nw ((((w.alloc (.cells #[.int .i64 ax, .int .i64 ay, .int .i64 bx, .int .i64 bz] 76)).alloc (.cells #[.int .i64 cx, .int .i64 cy, .int .i64 dx, .int .i64 dy] 76)).alloc (.cells #[.int .i64 0, .int .i64 0, .int .i64 0, .int .i64 0] 76)).alloc (.cells #[.int .i64 ax, .int .i64 ay, .int .i64 bx, .int .i64 bz, .int .i64 cx, .int .i64 cy, .int .i64 dx, .int .i64 dy] 92)) wr ∧ Blk wr (w.heap.size + 1 + 1 + 1 + 1) 76 #[.int .i64 f1, .int .i64 f2, .int .i64 l1, .int .i64 l2]) (fun _ i _ => 4 - (intOf i).toNat)
  case atStart => exact ⟨0, 0, 0, 0, 0, false, rfl, rfl, by omega, rfl, nw_alloc _ _, HG.out⟩
  case round =>
    obtain ⟨k, f1, f2, l1, l2, has, rfl, rfl, hk, hsh, hnw, hbg⟩ := hrel
    have HN := Lib.hid hnw
    have HB := Lib.hid hbg
    have HS := Lib.hid hsh
    clear hnw hbg hsh
    by_cases hk4 : k < 4
    · obtain ⟨⟨ex, ey⟩, he⟩ : ∃ x, (endsL ax ay bx bz cx cy dx dy)[k]? = some x := ⟨(endsL ax ay bx bz cx cy dx dy)[k]'(by simpa [endsL] using hk4), List.getElem?_eq_getElem _⟩
      have i0 : (0 : Int) ≤ (k : Int) := by omega
      have i1 : (k : Int) < 4 := by omega
      have hix : ∀ W, (Instr.index 92 (.agg #[.int .i64 ax, .int .i64 ay, .int .i64 bx, .int .i64 bz, .int .i64 cx, .int .i64 cy, .int .i64 dx, .int .i64 dy]) (.int .i64 (k : Int))).run Try.prog W = .ok (vV ex ey) W := by
        intro W
        obtain rfl | rfl | rfl | rfl : k = 0 ∨ k = 1 ∨ k = 2 ∨ k = 3 := by omega
        all_goals (simp [endsL] at he; obtain ⟨rfl, rfl⟩ := he; kernel_rfl)
      have HE := Lib.hid he
      have e4 : IntKind.i64.wrap ((k : Int) + 1) = ((k + 1 : Nat) : Int) := by rw [IntKind.wrap_i64]; omega
      clear he
      go_upto_region 7 with fail
      clear hix
      obtain ⟨E, hE⟩ : ∃ E, wr.heap.size = E := ⟨_, rfl⟩
      have hbe := Blk.new_at wr 23 #[.int .i64 ex, .int .i64 ey] hE
      have hbg := HB.out.alloc (.cells #[.int .i64 ex, .int .i64 ey] 23)
      have hnw := HN.out.alloc (.cells #[.int .i64 ex, .int .i64 ey] 23)
      have hne : E ≠ w.heap.size + 1 + 1 + 1 + 1 := fun e => by have h := HB.out.lt; omega
      rw [hE]
      generalize wr.alloc (.cells #[.int .i64 ex, .int .i64 ey] 23) = wb at hbe hbg hnw ⊢
      have HNB := Lib.hid hnw
      have HBG := Lib.hid hbg
      have HBE := Lib.hid hbe
      have HNE := Lib.hid hne
      clear hbe hbg hnw hne hE
      have cu := fun w1 => contains_any ax ay bx bz ex ey w1
      have cv := fun w1 => contains_any cx cy dx dy ex ey w1
      have hst := shared_step ax ay bx bz cx cy dx dy k (ex, ey) HE.out
      rw [HS.out] at hst
      unfold bothS at hst
      simp only at hst
      generalize conS ax ay bx bz ex ey = u at *
      generalize conS cx cy dx dy ex ey = v at *
      have HST := Lib.hid hst
      clear hst
      have q0 := fun p : KeptW wb => (HF.out p.wd (HNB.out.tr p.since)).1.cell 0
      have q1 := fun p : KeptW wb => (HF.out p.wd (HNB.out.tr p.since)).1.cell 1
      have q2 := fun p : KeptW wb => (HF.out p.wd (HNB.out.tr p.since)).1.cell 2
      have q3 := fun p : KeptW wb => (HF.out p.wd (HNB.out.tr p.since)).1.cell 3
      have q4 := fun p : KeptW wb => (HF.out p.wd (HNB.out.tr p.since)).2.1.cell 0
      have q5 := fun p : KeptW wb => (HF.out p.wd (HNB.out.tr p.since)).2.1.cell 1
      have q6 := fun p : KeptW wb => (HF.out p.wd (HNB.out.tr p.since)).2.1.cell 2
      have q7 := fun p : KeptW wb => (HF.out p.wd (HNB.out.tr p.since)).2.1.cell 3
      have q8 := fun p : KeptW wb => (HBG.out.kept p).cell 0
      have q9 := fun p : KeptW wb => (HBG.out.kept p).cell 1
      have q10 := fun p : KeptW wb => (HBG.out.kept p).cell 2
      have q11 := fun p : KeptW wb => (HBG.out.kept p).cell 3
      have q12 := fun p : KeptW wb => (HBE.out.kept p).cell 0
      have q13 := fun p : KeptW wb => (HBE.out.kept p).cell 1
      have y0 := fun p : KeptW wb => (HBG.out.kept p).frozen 0
      have y1 := fun p : KeptW wb => (HBG.out.kept p).frozen 1
      have y2 := fun p : KeptW wb => (HBG.out.kept p).frozen 2
      have y3 := fun p : KeptW wb => (HBG.out.kept p).frozen 3
      have z0 := q0 ⟨wb, Kp.refl _ _⟩
      have z1 := q1 ⟨wb, Kp.refl _ _⟩
      have z2 := q2 ⟨wb, Kp.refl _ _⟩
      have z3 := q3 ⟨wb, Kp.refl _ _⟩
      have z4 := q4 ⟨wb, Kp.refl _ _⟩
      have z5 := q5 ⟨wb, Kp.refl _ _⟩
      have z6 := q6 ⟨wb, Kp.refl _ _⟩
      have z7 := q7 ⟨wb, Kp.refl _ _⟩
      have z8 := q8 ⟨wb, Kp.refl _ _⟩
      have z9 := q9 ⟨wb, Kp.refl _ _⟩
      have z10 := q10 ⟨wb, Kp.refl _ _⟩
      have z11 := q11 ⟨wb, Kp.refl _ _⟩
      have z12 := q12 ⟨wb, Kp.refl _ _⟩
      have z13 := q13 ⟨wb, Kp.refl _ _⟩
      cases u
      · skip
        go_wp2_with (first | (go_at_call 93; ((with_reducible refine (Calls.kept_first (cu _)).mono ?_); rintro e _ ⟨rfl, p, rfl⟩)) | fail)
        go_roundw
        case rel => exact ⟨k + 1, f1, f2, l1, l2, has, rfl, rfl, by omega, by rw [HST.out]; rfl, HNB.out.tr p.since, HBG.out.kept p⟩
        case measure => (simp [intOf]; try omega)
      · cases v
        · skip
          go_wp2_with (first | (go_at_call 93; ((with_reducible refine (Calls.kept_first (cu _)).mono ?_); rintro e _ ⟨rfl, p, rfl⟩)) | (go_at_call 93; ((with_reducible refine (Calls.kept_of (cv _)).mono ?_); rintro e _ ⟨rfl, p, rfl⟩)) | fail)
          go_roundw
          case rel => exact ⟨k + 1, f1, f2, l1, l2, has, rfl, rfl, by omega, by rw [HST.out]; rfl, HNB.out.tr p.since, HBG.out.kept p⟩
          case measure => (simp [intOf]; try omega)
        · cases has
          · skip
            go_upto_region 10 with (first | (go_at_call 93; ((with_reducible refine (Calls.kept_first (cu _)).mono ?_); rintro e _ ⟨rfl, p, rfl⟩)) | (go_at_call 93; ((with_reducible refine (Calls.kept_of (cv _)).mono ?_); rintro e _ ⟨rfl, p, rfl⟩)) | fail)
            generalize hw1 : World.setCell _ _ _ = w1
            have hb1 : Blk w1 (w.heap.size + 1 + 1 + 1 + 1) 76 #[.int .i64 ex, .int .i64 ey, .int .i64 l1, .int .i64 l2] := by rw [← hw1]; exact (HBG.out.kept p).lay4a _ _
            have he1 : Blk w1 E 23 #[.int .i64 ex, .int .i64 ey] := by rw [← hw1]; exact ((HBE.out.kept p).far HNE.out _).far HNE.out _
            have hn1 : Nw ((((w.alloc (.cells #[.int .i64 ax, .int .i64 ay, .int .i64 bx, .int .i64 bz] 76)).alloc (.cells #[.int .i64 cx, .int .i64 cy, .int .i64 dx, .int .i64 dy] 76)).alloc (.cells #[.int .i64 0, .int .i64 0, .int .i64 0, .int .i64 0] 76)).alloc (.cells #[.int .i64 ax, .int .i64 ay, .int .i64 bx, .int .i64 bz, .int .i64 cx, .int .i64 cy, .int .i64 dx, .int .i64 dy] 92)) w1 := by rw [← hw1]; exact ((HNB.out.tr p.since).new HLE.out _ _).new HLE.out _ _
            have HB1 := Lib.hid hb1
            have HE1 := Lib.hid he1
            have HN1 := Lib.hid hn1
            clear hw1 hb1 he1 hn1 q0 z0 q1 z1 q2 z2 q3 z3 q4 z4 q5 z5 q6 z6 q7 z7 q8 z8 q9 z9 q10 z10 q11 z11 q12 z12 q13 z13 y0 y1 y2 y3
            have q0 := fun p : KeptW w1 => (HB1.out.kept p).cell 0
            have q1 := fun p : KeptW w1 => (HB1.out.kept p).cell 1
            have q2 := fun p : KeptW w1 => (HB1.out.kept p).cell 2
            have q3 := fun p : KeptW w1 => (HB1.out.kept p).cell 3
            have q4 := fun p : KeptW w1 => (HE1.out.kept p).cell 0
            have q5 := fun p : KeptW w1 => (HE1.out.kept p).cell 1
            have q6 := fun p : KeptW w1 => (HB1.out.kept p).frozen 0
            have q7 := fun p : KeptW w1 => (HB1.out.kept p).frozen 1
            have q8 := fun p : KeptW w1 => (HB1.out.kept p).frozen 2
            have q9 := fun p : KeptW w1 => (HB1.out.kept p).frozen 3
            have z0 := q0 ⟨w1, Kp.refl _ _⟩
            have z1 := q1 ⟨w1, Kp.refl _ _⟩
            have z2 := q2 ⟨w1, Kp.refl _ _⟩
            have z3 := q3 ⟨w1, Kp.refl _ _⟩
            have z4 := q4 ⟨w1, Kp.refl _ _⟩
            have z5 := q5 ⟨w1, Kp.refl _ _⟩
            have z6 := q6 ⟨w1, Kp.refl _ _⟩
            have z7 := q7 ⟨w1, Kp.refl _ _⟩
            have z8 := q8 ⟨w1, Kp.refl _ _⟩
            have z9 := q9 ⟨w1, Kp.refl _ _⟩
            go_wp2_with fail
            go_roundw
            case rel => exact ⟨k + 1, ex, ey, ex, ey, true, rfl, rfl, by omega, by rw [HST.out]; rfl, (HN1.out.new HLE.out _ _).new HLE.out _ _, HB1.out.lay4b _ _⟩
            case measure => (simp [intOf]; try omega)
          · skip
            have cl := fun w1 => less_any ex ey f1 f2 w1
            have cm := fun w1 => less_any l1 l2 ex ey w1
            obtain ⟨a, ha⟩ : ∃ a, lessV ex ey f1 f2 = a := ⟨_, rfl⟩
            obtain ⟨b, hb⟩ : ∃ b, lessV l1 l2 ex ey = b := ⟨_, rfl⟩
            have HA := Lib.hid ha
            have HBB := Lib.hid hb
            rw [ha] at cl
            rw [hb] at cm
            clear ha hb
            cases a
            · cases b
              · skip
                go_wp2_with (first | (go_at_call 93; ((with_reducible refine (Calls.kept_first (cu _)).mono ?_); rintro e _ ⟨rfl, p, rfl⟩)) | (go_at_call 93; ((with_reducible refine (Calls.kept_of (cv _)).mono ?_); rintro e _ ⟨rfl, p, rfl⟩)) | (go_at_call 94; ((with_reducible refine (Calls.kept_of (cl _)).mono ?_); rintro e _ ⟨rfl, p, rfl⟩)) | (go_at_call 94; ((with_reducible refine (Calls.kept_of (cm _)).mono ?_); rintro e _ ⟨rfl, p, rfl⟩)) | fail)
                go_roundw
                case rel => exact ⟨k + 1, f1, f2, l1, l2, true, rfl, rfl, by omega, by rw [HST.out]; simp [shStep, ltV, HA.out, HBB.out], HNB.out.tr p.since, HBG.out.kept p⟩
                case measure => (simp [intOf]; try omega)
              · skip
                go_wp2_with (first | (go_at_call 93; ((with_reducible refine (Calls.kept_first (cu _)).mono ?_); rintro e _ ⟨rfl, p, rfl⟩)) | (go_at_call 93; ((with_reducible refine (Calls.kept_of (cv _)).mono ?_); rintro e _ ⟨rfl, p, rfl⟩)) | (go_at_call 94; ((with_reducible refine (Calls.kept_of (cl _)).mono ?_); rintro e _ ⟨rfl, p, rfl⟩)) | (go_at_call 94; ((with_reducible refine (Calls.kept_of (cm _)).mono ?_); rintro e _ ⟨rfl, p, rfl⟩)) | fail)
                go_roundw
                case rel => exact ⟨k + 1, f1, f2, ex, ey, true, rfl, rfl, by omega, by rw [HST.out]; simp [shStep, ltV, HA.out, HBB.out], ((HNB.out.tr p.since).new HLE.out _ _).new HLE.out _ _, (HBG.out.kept p).lay4b _ _⟩
                case measure => (simp [intOf]; try omega)
            · cases b
              · skip
                go_upto_region 10 with (first | (go_at_call 93; ((with_reducible refine (Calls.kept_first (cu _)).mono ?_); rintro e _ ⟨rfl, p, rfl⟩)) | (go_at_call 93; ((with_reducible refine (Calls.kept_of (cv _)).mono ?_); rintro e _ ⟨rfl, p, rfl⟩)) | (go_at_call 94; ((with_reducible refine (Calls.kept_of (cl _)).mono ?_); rintro e _ ⟨rfl, p, rfl⟩)) | fail)
                generalize hw1 : World.setCell _ _ _ = w1
                have hb1 : Blk w1 (w.heap.size + 1 + 1 + 1 + 1) 76 #[.int .i64 ex, .int .i64 ey, .int .i64 l1, .int .i64 l2] := by rw [← hw1]; exact (HBG.out.kept p).lay4a _ _
                have he1 : Blk w1 E 23 #[.int .i64 ex, .int .i64 ey] := by rw [← hw1]; exact ((HBE.out.kept p).far HNE.out _).far HNE.out _
                have hn1 : Nw ((((w.alloc (.cells #[.int .i64 ax, .int .i64 ay, .int .i64 bx, .int .i64 bz] 76)).alloc (.cells #[.int .i64 cx, .int .i64 cy, .int .i64 dx, .int .i64 dy] 76)).alloc (.cells #[.int .i64 0, .int .i64 0, .int .i64 0, .int .i64 0] 76)).alloc (.cells #[.int .i64 ax, .int .i64 ay, .int .i64 bx, .int .i64 bz, .int .i64 cx, .int .i64 cy, .int .i64 dx, .int .i64 dy] 92)) w1 := by rw [← hw1]; exact ((HNB.out.tr p.since).new HLE.out _ _).new HLE.out _ _
                have HB1 := Lib.hid hb1
                have HE1 := Lib.hid he1
                have HN1 := Lib.hid hn1
                clear hw1 hb1 he1 hn1 q0 z0 q1 z1 q2 z2 q3 z3 q4 z4 q5 z5 q6 z6 q7 z7 q8 z8 q9 z9 q10 z10 q11 z11 q12 z12 q13 z13 y0 y1 y2 y3
                have q0 := fun p : KeptW w1 => (HB1.out.kept p).cell 0
                have q1 := fun p : KeptW w1 => (HB1.out.kept p).cell 1
                have q2 := fun p : KeptW w1 => (HB1.out.kept p).cell 2
                have q3 := fun p : KeptW w1 => (HB1.out.kept p).cell 3
                have q4 := fun p : KeptW w1 => (HE1.out.kept p).cell 0
                have q5 := fun p : KeptW w1 => (HE1.out.kept p).cell 1
                have q6 := fun p : KeptW w1 => (HB1.out.kept p).frozen 0
                have q7 := fun p : KeptW w1 => (HB1.out.kept p).frozen 1
                have q8 := fun p : KeptW w1 => (HB1.out.kept p).frozen 2
                have q9 := fun p : KeptW w1 => (HB1.out.kept p).frozen 3
                have z0 := q0 ⟨w1, Kp.refl _ _⟩
                have z1 := q1 ⟨w1, Kp.refl _ _⟩
                have z2 := q2 ⟨w1, Kp.refl _ _⟩
                have z3 := q3 ⟨w1, Kp.refl _ _⟩
                have z4 := q4 ⟨w1, Kp.refl _ _⟩
                have z5 := q5 ⟨w1, Kp.refl _ _⟩
                have z6 := q6 ⟨w1, Kp.refl _ _⟩
                have z7 := q7 ⟨w1, Kp.refl _ _⟩
                have z8 := q8 ⟨w1, Kp.refl _ _⟩
                have z9 := q9 ⟨w1, Kp.refl _ _⟩
                go_wp2_with (first | (go_at_call 94; ((with_reducible refine (Calls.kept_first (cm _)).mono ?_); rintro e _ ⟨rfl, p, rfl⟩)) | fail)
                go_roundw
                case rel => exact ⟨k + 1, ex, ey, l1, l2, true, rfl, rfl, by omega, by rw [HST.out]; simp [shStep, ltV, HA.out, HBB.out], HN1.out.tr p.since, HB1.out.kept p⟩
                case measure => (simp [intOf]; try omega)
              · skip
                go_upto_region 10 with (first | (go_at_call 93; ((with_reducible refine (Calls.kept_first (cu _)).mono ?_); rintro e _ ⟨rfl, p, rfl⟩)) | (go_at_call 93; ((with_reducible refine (Calls.kept_of (cv _)).mono ?_); rintro e _ ⟨rfl, p, rfl⟩)) | (go_at_call 94; ((with_reducible refine (Calls.kept_of (cl _)).mono ?_); rintro e _ ⟨rfl, p, rfl⟩)) | fail)
                generalize hw1 : World.setCell _ _ _ = w1
                have hb1 : Blk w1 (w.heap.size + 1 + 1 + 1 + 1) 76 #[.int .i64 ex, .int .i64 ey, .int .i64 l1, .int .i64 l2] := by rw [← hw1]; exact (HBG.out.kept p).lay4a _ _
                have he1 : Blk w1 E 23 #[.int .i64 ex, .int .i64 ey] := by rw [← hw1]; exact ((HBE.out.kept p).far HNE.out _).far HNE.out _
                have hn1 : Nw ((((w.alloc (.cells #[.int .i64 ax, .int .i64 ay, .int .i64 bx, .int .i64 bz] 76)).alloc (.cells #[.int .i64 cx, .int .i64 cy, .int .i64 dx, .int .i64 dy] 76)).alloc (.cells #[.int .i64 0, .int .i64 0, .int .i64 0, .int .i64 0] 76)).alloc (.cells #[.int .i64 ax, .int .i64 ay, .int .i64 bx, .int .i64 bz, .int .i64 cx, .int .i64 cy, .int .i64 dx, .int .i64 dy] 92)) w1 := by rw [← hw1]; exact ((HNB.out.tr p.since).new HLE.out _ _).new HLE.out _ _
                have HB1 := Lib.hid hb1
                have HE1 := Lib.hid he1
                have HN1 := Lib.hid hn1
                clear hw1 hb1 he1 hn1 q0 z0 q1 z1 q2 z2 q3 z3 q4 z4 q5 z5 q6 z6 q7 z7 q8 z8 q9 z9 q10 z10 q11 z11 q12 z12 q13 z13 y0 y1 y2 y3
                have q0 := fun p : KeptW w1 => (HB1.out.kept p).cell 0
                have q1 := fun p : KeptW w1 => (HB1.out.kept p).cell 1
                have q2 := fun p : KeptW w1 => (HB1.out.kept p).cell 2
                have q3 := fun p : KeptW w1 => (HB1.out.kept p).cell 3
                have q4 := fun p : KeptW w1 => (HE1.out.kept p).cell 0
                have q5 := fun p : KeptW w1 => (HE1.out.kept p).cell 1
                have q6 := fun p : KeptW w1 => (HB1.out.kept p).frozen 0
                have q7 := fun p : KeptW w1 => (HB1.out.kept p).frozen 1
                have q8 := fun p : KeptW w1 => (HB1.out.kept p).frozen 2
                have q9 := fun p : KeptW w1 => (HB1.out.kept p).frozen 3
                have z0 := q0 ⟨w1, Kp.refl _ _⟩
                have z1 := q1 ⟨w1, Kp.refl _ _⟩
                have z2 := q2 ⟨w1, Kp.refl _ _⟩
                have z3 := q3 ⟨w1, Kp.refl _ _⟩
                have z4 := q4 ⟨w1, Kp.refl _ _⟩
                have z5 := q5 ⟨w1, Kp.refl _ _⟩
                have z6 := q6 ⟨w1, Kp.refl _ _⟩
                have z7 := q7 ⟨w1, Kp.refl _ _⟩
                have z8 := q8 ⟨w1, Kp.refl _ _⟩
                have z9 := q9 ⟨w1, Kp.refl _ _⟩
                go_wp2_with (first | (go_at_call 94; ((with_reducible refine (Calls.kept_first (cm _)).mono ?_); rintro e _ ⟨rfl, p, rfl⟩)) | fail)
                go_roundw
                case rel => exact ⟨k + 1, ex, ey, ex, ey, true, rfl, rfl, by omega, by rw [HST.out]; simp [shStep, ltV, HA.out, HBB.out], ((HN1.out.tr p.since).new HLE.out _ _).new HLE.out _ _, (HB1.out.kept p).lay4b _ _⟩
                case measure => (simp [intOf]; try omega)
    · obtain rfl : k = 4 := by omega
      have i1 : ¬ (((4 : Nat) : Int) < 4) := by omega
      obtain ⟨z0, z1, z2, z3, _, _, _, _⟩ := HB.out.four
      obtain ⟨_, _, _, _, r0, r1, r2, r3⟩ := (HF.out wr HN.out).2.2.four
      have HRL := Lib.hid (show w.heap.size ≤ w.heap.size + 1 + 1 from by omega)
      have HRB := Lib.hid (HF.out wr HN.out).2.2
      go_wp2_with fail
      generalize hw9 : World.setCell _ _ _ = w9
      have h9 : Blk w9 (w.heap.size + 1 + 1) 76 #[.int .i64 f1, .int .i64 f2, .int .i64 l1, .int .i64 l2] := by rw [← hw9]; exact (HRB.out.lay4a _ _).lay4b _ _
      have hn9 : Nw w w9 := by rw [← hw9]; exact ((((HW.out.tr HN.out).new HRL.out _ _).new HRL.out _ _).new HRL.out _ _).new HRL.out _ _
      obtain ⟨x0, x1, x2, x3, _, _, _, _⟩ := h9.four
      exact bodyPost_ret (v := .tuple #[sV f1 f2 l1 l2, .bool has]) (by simp [results, Try.results91, go_sem, x0, x1, x2, x3]) rfl ⟨by rw [HS.out], hn9⟩
end Go.Proofs.Ytlogihcmmoldkaa.W
