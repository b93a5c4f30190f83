/-
  The reference's common: the ends that lie on both segments, in ascending order. Condition: the segments are valid.
-/
import Derived.Test.YtgmojgeclljajaaGSF
import Derived.Test.YtgmojgeclljajaaGQ2
import Derived.Test.YtgmojgeclljajaaVCs
namespace Go.Proofs.Ytgmojgeclljajaa.W
open Go.RowKit Go.Proofs.Ytgmojgeclljajaa.V Go.Proofs.Ytgmojgeclljajaa.G

theorem end_lm {ax ay bx bz cx cy dx dy : Int} (h1 : validS ax ay bx bz = true) (h2 : validS cx cy dx dy = true) {z : Int × Int} (hz : z ∈ endsL ax ay bx bz cx cy dx dy) : Lm z.1 z.2 := by
  obtain ⟨ha, hb⟩ := valid_lm h1
  obtain ⟨hc, hd⟩ := valid_lm h2
  have : z = (ax, ay) ∨ z = (bx, bz) ∨ z = (cx, cy) ∨ z = (dx, dy) := by simpa [endsL] using hz
  rcases this with rfl | rfl | rfl | rfl <;> assumption
theorem on_con {ax ay bx bz px py : Int} (h : validS ax ay bx bz = true) (hp : Lm px py) : onS ax ay bx bz px py = conS ax ay bx bz px py := by
  unfold onS
  rw [h, within_lm.2 hp]
  rfl
set_option maxRecDepth 100000 in
set_option maxHeartbeats 6400000 in
theorem rcommon_any (ax ay bx bz cx cy dx dy : Int) (h1 : validS ax ay bx bz = true) (h2 : validS cx cy dx dy = true) (w : World) : Calls Try.prog 82 #[sV ax ay bx bz, sV cx cy dx dy] w fun e w' => ∃ v', e = .returned v' ∧ SrcV w' v' (comS ax ay bx bz cx cy dx dy) ∧ Nw w w' := by
  have hmix := mixed7
  have hF : ∀ w', Nw (((w.alloc (.cells #[.int .i64 ax, .int .i64 ay, .int .i64 bx, .int .i64 bz] 51)).alloc (.cells #[.int .i64 cx, .int .i64 cy, .int .i64 dx, .int .i64 dy] 51)).alloc (.cells #[.int .i64 ax, .int .i64 ay, .int .i64 bx, .int .i64 bz, .int .i64 cx, .int .i64 cy, .int .i64 dx, .int .i64 dy] 23)) w' → Blk w' w.heap.size 51 #[.int .i64 ax, .int .i64 ay, .int .i64 bx, .int .i64 bz] ∧ Blk w' (w.heap.size + 1) 51 #[.int .i64 cx, .int .i64 cy, .int .i64 dx, .int .i64 dy] ∧ Blk w' (w.heap.size + 1 + 1) 23 #[.int .i64 ax, .int .i64 ay, .int .i64 bx, .int .i64 bz, .int .i64 cx, .int .i64 cy, .int .i64 dx, .int .i64 dy] := fun w' h => ⟨(((Blk.new_at w 51 #[.int .i64 ax, .int .i64 ay, .int .i64 bx, .int .i64 bz] (n := w.heap.size) rfl).alloc _).alloc _).kp h id, ((Blk.new_at _ 51 #[.int .i64 cx, .int .i64 cy, .int .i64 dx, .int .i64 dy] (n := w.heap.size + 1) (by simp)).alloc _).kp h id, (Blk.new_at _ 23 #[.int .i64 ax, .int .i64 ay, .int .i64 bx, .int .i64 bz, .int .i64 cx, .int .i64 cy, .int .i64 dx, .int .i64 dy] (n := w.heap.size + 1 + 1) (by simp)).kp h id⟩
  have HF := Lib.hid hF
  have HW := Lib.hid (show Nw w (((w.alloc (.cells #[.int .i64 ax, .int .i64 ay, .int .i64 bx, .int .i64 bz] 51)).alloc (.cells #[.int .i64 cx, .int .i64 cy, .int .i64 dx, .int .i64 dy] 51)).alloc (.cells #[.int .i64 ax, .int .i64 ay, .int .i64 bx, .int .i64 bz, .int .i64 cx, .int .i64 cy, .int .i64 dx, .int .i64 dy] 23)) from ((nw_alloc _ _).alloc _).alloc _)
  have HV := Lib.hid (And.intro h1 h2)
  have HSZ := Lib.hid (show (((w.alloc (.cells #[.int .i64 ax, .int .i64 ay, .int .i64 bx, .int .i64 bz] 51)).alloc (.cells #[.int .i64 cx, .int .i64 cy, .int .i64 dx, .int .i64 dy] 51)).alloc (.cells #[.int .i64 ax, .int .i64 ay, .int .i64 bx, .int .i64 bz, .int .i64 cx, .int .i64 cy, .int .i64 dx, .int .i64 dy] 23)).heap.size = w.heap.size + 1 + 1 + 1 by simp)
  clear hF h1 h2
  go_enter Try.func82, Try.ntmps82
  go_wp2_with fail
  go_loopw [6, 7] (fun ov i wr => ∃ k : Nat, i = .int .i64 k ∧ k ≤ 4 ∧ wr.ownsRow (w.heap.size + 1 + 1 + 1) 23 2 ov (((endsL ax ay bx bz cx cy dx dy).take k).filter (bothS ax ay bx bz cx cy dx dy)).length ((((endsL ax ay bx bz cx cy dx dy).take k).filter (bothS ax ay bx bz cx cy dx dy)).flatMap vC) ∧ (((endsL ax ay bx bz cx cy dx dy).take k).filter (bothS ax ay bx bz cx cy dx dy)).length ≤ k ∧ Nw (((w.alloc (.cells #[.int .i64 ax, .int .i64 ay, .int .i64 bx, .int .i64 bz] 51)).alloc (.cells #[.int .i64 cx, .int .i64 cy, .int .i64 dx, .int .i64 dy] 51)).alloc (.cells #[.int .i64 ax, .int .i64 ay, .int .i64 bx, .int .i64 bz, .int .i64 cx, .int .i64 cy, .int .i64 dx, .int .i64 dy] 23)) wr) (fun _ i _ => 4 - (intOf i).toNat)
  case atStart => exact ⟨0, rfl, by omega, World.ownsRow_nil _ _ _ _, by simp, Kp.refl _ _⟩
  case round =>
    obtain ⟨k, rfl, hk, hown, hlen, hnr⟩ := hrel
    obtain ⟨A6, c6, rfl⟩ := (own_src hown).shape
    have HO := Lib.hid hown
    have HL := Lib.hid hlen
    have HN := Lib.hid hnr
    clear hown hlen hnr
    obtain ⟨FL, hFL⟩ : ∃ FL, ((endsL ax ay bx bz cx cy dx dy).take k).filter (bothS ax ay bx bz cx cy dx dy) = FL := ⟨_, rfl⟩
    have HFL := Lib.hid hFL
    rw [hFL] at HO HL ⊢
    clear hFL
    by_cases hk4 : k < 4
    · obtain ⟨⟨ex, ey⟩, he⟩ : ∃ z, (endsL ax ay bx bz cx cy dx dy)[k]? = some z := ⟨(endsL ax ay bx bz cx cy dx dy)[k]'(by simpa [endsL] using hk4), List.getElem?_eq_getElem _⟩
      have i0 : (0 : Int) ≤ (k : Int) := by omega
      have i1 : (k : Int) < 4 := by omega
      have e4 : IntKind.i64.wrap ((k : Int) + 1) = ((k + 1 : Nat) : Int) := by rw [IntKind.wrap_i64]; omega
      have hc : ∀ p : KeptW wr, p.wd.cell? ⟨w.heap.size + 1 + 1, k * 2, none⟩ = some (.int .i64 ex) ∧ p.wd.cell? ⟨w.heap.size + 1 + 1, k * 2 + 1, none⟩ = some (.int .i64 ey) := fun p => by
        have hb := (HF.out _ (HN.out.tr p.since)).2.2
        obtain rfl | rfl | rfl | rfl : k = 0 ∨ k = 1 ∨ k = 2 ∨ k = 3 := by omega
        all_goals (simp [endsL] at he; obtain ⟨rfl, rfl⟩ := he)
        · exact ⟨hb.cell 0, hb.cell 1⟩
        · exact ⟨hb.cell 2, hb.cell 3⟩
        · exact ⟨hb.cell 4, hb.cell 5⟩
        · exact ⟨hb.cell 6, hb.cell 7⟩
      have q0 := fun p : KeptW wr => (HF.out p.wd (HN.out.tr p.since)).1.cell 0
      have q1 := fun p : KeptW wr => (HF.out p.wd (HN.out.tr p.since)).1.cell 1
      have q2 := fun p : KeptW wr => (HF.out p.wd (HN.out.tr p.since)).1.cell 2
      have q3 := fun p : KeptW wr => (HF.out p.wd (HN.out.tr p.since)).1.cell 3
      have q4 := fun p : KeptW wr => (HF.out p.wd (HN.out.tr p.since)).2.1.cell 0
      have q5 := fun p : KeptW wr => (HF.out p.wd (HN.out.tr p.since)).2.1.cell 1
      have q6 := fun p : KeptW wr => (HF.out p.wd (HN.out.tr p.since)).2.1.cell 2
      have q7 := fun p : KeptW wr => (HF.out p.wd (HN.out.tr p.since)).2.1.cell 3
      have q8 := fun p => (hc p).1
      have q9 := fun p => (hc p).2
      have hel : Lm ex ey := end_lm HV.out.1 HV.out.2 (List.mem_of_getElem? he)
      have cu := fun w1 => ron_any ax ay bx bz ex ey w1
      have cv := fun w1 => ron_any cx cy dx dy ex ey w1
      rw [on_con HV.out.1 hel] at cu
      rw [on_con HV.out.2 hel] at cv
      have hst : ((endsL ax ay bx bz cx cy dx dy).take (k + 1)).filter (bothS ax ay bx bz cx cy dx dy) = if (conS ax ay bx bz ex ey && conS cx cy dx dy ex ey) then FL ++ [(ex, ey)] else FL := by
        rw [List.take_add_one, he, Option.toList_some, List.filter_append, HFL.out, List.filter_cons, List.filter_nil]
        show FL ++ (if (conS ax ay bx bz ex ey && conS cx cy dx dy ex ey) = true then [(ex, ey)] else []) = _
        split <;> simp
      have HST := Lib.hid hst
      clear hst hel he hc
      generalize conS ax ay bx bz ex ey = u at *
      generalize conS cx cy dx dy ex ey = v at *
      go_upto_region 6 with fail
      cases u
      · skip
        refine wp_region_kept (Kp.refl _ _) (by assumption) (by kernel_rfl) ?_
        repeat (with_reducible refine wpQuiet_step (fun K hK => ?_); go_simp; first | ((with_reducible refine hK _ ?_); clear hK K) | (with_reducible apply Exists.intro; (with_reducible refine ⟨fun _ => ?_, hK _ ?_⟩); ((first | (go_at_call 61; with_reducible exact Calls.kept_of (cu _)) | (go_at_call 61; with_reducible exact Calls.kept_of (cv _)) | fail)); clear hK K) | (simp only [undef, reduceCtorEq, if_false]; (with_reducible refine hK _ ?_); clear hK K))
        with_reducible refine wpQuiet_nil ?_
        rintro _ ⟨p, rfl⟩
        go_wp2_with fail
        go_roundw
        case rel => exact ⟨k + 1, rfl, by omega, by rw [HST.out]; exact own_nw HO.out p.since, by rw [HST.out]; have := HL.out; exact Nat.le_succ_of_le this, HN.out.tr p.since⟩
        case measure => (simp [intOf]; try omega)
      · cases v
        · skip
          refine wp_region_kept (Kp.refl _ _) (by assumption) (by kernel_rfl) ?_
          repeat (with_reducible refine wpQuiet_step (fun K hK => ?_); go_simp; first | ((with_reducible refine hK _ ?_); clear hK K) | (with_reducible apply Exists.intro; (with_reducible refine ⟨fun _ => ?_, hK _ ?_⟩); ((first | (go_at_call 61; with_reducible exact Calls.kept_of (cu _)) | (go_at_call 61; with_reducible exact Calls.kept_of (cv _)) | fail)); clear hK K) | (simp only [undef, reduceCtorEq, if_false]; (with_reducible refine hK _ ?_); clear hK K))
          with_reducible refine wpQuiet_nil ?_
          rintro _ ⟨p, rfl⟩
          go_wp2_with fail
          go_roundw
          case rel => exact ⟨k + 1, rfl, by omega, by rw [HST.out]; exact own_nw HO.out p.since, by rw [HST.out]; have := HL.out; exact Nat.le_succ_of_le this, HN.out.tr p.since⟩
          case measure => (simp [intOf]; try omega)
        · skip
          refine wp_region_kept (Kp.refl _ _) (by assumption) (by kernel_rfl) ?_
          repeat (with_reducible refine wpQuiet_step (fun K hK => ?_); go_simp; first | ((with_reducible refine hK _ ?_); clear hK K) | (with_reducible apply Exists.intro; (with_reducible refine ⟨fun _ => ?_, hK _ ?_⟩); ((first | (go_at_call 61; with_reducible exact Calls.kept_of (cu _)) | (go_at_call 61; with_reducible exact Calls.kept_of (cv _)) | fail)); clear hK K) | (simp only [undef, reduceCtorEq, if_false]; (with_reducible refine hK _ ?_); clear hK K))
          with_reducible refine wpQuiet_nil ?_
          rintro _ ⟨p, rfl⟩
          have HP := Lib.hid p.since
          have z8 := q8 p
          have z9 := q9 p
          generalize p.wd = wp at HP z8 z9 ⊢
          have hlen := HL.out
          have HB := Lib.hid (show w.heap.size + 1 + 1 + 1 ≤ wp.heap.size by have := HN.out.size; have := HP.out.size; have := HSZ.out; omega)
          clear q0 q1 q2 q3 q4 q5 q6 q7 q8 q9
          go_wp2_with (first
            | (at_builtin; refine wp_pushG rfl (.tmp 35) (.tmp 40) 36 23 2 16 (.agg #[.int .i64 0, .int .i64 0]) rfl Try.underlying36 infoVec rfl (by omega) (w.heap.size + 1 + 1 + 1) FL.length _ (FL.flatMap vC) [.int .i64 ex, .int .i64 ey] rfl (own_nw HO.out HP.out) rfl ?_ rfl ?_ ?_ HB.out ?_; (intro u hu; simp at hu; rcases hu with rfl | rfl <;> rfl); omega; omega; intro v5 w5 own5 gr5))
          have HN5 := Lib.hid (gr5.nw (HN.out.tr HP.out) (fun kk hkk => by have := own_from (own_nw HO.out HP.out) kk hkk; have := HSZ.out; omega))
          have HO5 := Lib.hid own5
          clear own5 gr5
          go_wp2_with fail
          go_roundw
          case rel =>
            refine ⟨k + 1, rfl, by omega, ?_, ?_, by first | exact HN5.out | exact HN5.out.alloc _⟩
            · rw [HST.out]
              have h := HO5.out
              show World.ownsRow _ _ _ _ _ (FL ++ [(ex, ey)]).length ((FL ++ [(ex, ey)]).flatMap vC)
              rw [List.length_append, List.flatMap_append]
              first | exact h | exact own_nw h (nw_alloc _ _)
            · rw [HST.out]
              show (FL ++ [(ex, ey)]).length ≤ _
              rw [List.length_append]
              exact Nat.succ_le_succ HL.out
          case measure => (simp [intOf]; try omega)
    · obtain rfl : k = 4 := by omega
      have i1 : ¬ (((4 : Nat) : Int) < 4) := by omega
      have hsrc : SrcV wr (.slice A6 FL.length c6) FL := own_src HO.out
      have cs := fun w1 h => rsorted_any FL (.slice A6 FL.length c6) w1 h (by have := HL.out; omega)
      have hcom : insAll FL = comS ax ay bx bz cx cy dx dy := by rw [← HFL.out]; rfl
      rw [hcom] at cs
      clear hcom
      go_wp2_with fail
      refine (cs _ hsrc).mono ?_
      rintro e w5 ⟨v5, rfl, hs5, hk5⟩
      go_wp2_with fail
      go_ret
      exact ⟨_, rfl, hs5, (HW.out.tr HN.out).tr hk5⟩
end Go.Proofs.Ytgmojgeclljajaa.W
