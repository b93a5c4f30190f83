/-
  The reference's common: the ends that lie on both segments, in ascending order. Condition: the segments are valid.
  The reference's Meet, Share and At: what they return. No condition.
-/
import Derived.Test.YtlogihcmmoldkaaK26
import Derived.Test.YtlogihcmmoldkaaK05
import Derived.Test.YtlogihcmmoldkaaK33
namespace Go.Proofs.Ytlogihcmmoldkaa.W
open Go.RowKit Go.Proofs.Ytlogihcmmoldkaa.V Go.Proofs.Ytlogihcmmoldkaa.G

theorem end_lm {ax ay bx bz cx cy dx dy : Int} (h1 : validS ax ay bx bz = true) (h2 : validS cx cy dx dy = true) {z : Int × Int} (hz : z ∈ endsL ax ay bx bz cx cy dx dy) : Lm z.1 z.2 := by
  obtain ⟨ha, hb⟩ := valid_lm h1
  obtain ⟨hc, hd⟩ := valid_lm h2
  have : z = (ax, ay) ∨ z = (bx, bz) ∨ z = (cx, cy) ∨ z = (dx, dy) := by simpa [endsL] using hz
  rcases this with rfl | rfl | rfl | rfl <;> assumption
theorem on_con {ax ay bx bz px py : Int} (h : validS ax ay bx bz = true) (hp : Lm px py) : onS ax ay bx bz px py = conS ax ay bx bz px py := by
  unfold onS
  rw [h, within_lm.2 hp]
  rfl
set_option maxRecDepth 100000 in
set_option maxHeartbeats 6400000 in
theorem rcommon_any (ax ay bx bz cx cy dx dy : Int) (h1 : validS ax ay bx bz = true) (h2 : validS cx cy dx dy = true) (w : World) : Calls Try.prog 84 #[sV ax ay bx bz, sV cx cy dx dy] w fun e w' => ∃ v', e = .returned v' ∧ SrcV w' v' (comS ax ay bx bz cx cy dx dy) ∧ Nw w w' := by
  have hmix := mixed7
  have hF : ∀ w', Nw (((w.alloc (.cells #[.int .i64 ax, .int .i64 ay, .int .i64 bx, .int .i64 bz] 76)).alloc (.cells #[.int .i64 cx, .int .i64 cy, .int .i64 dx, .int .i64 dy] 76)).alloc (.cells #[.int .i64 ax, .int .i64 ay, .int .i64 bx, .int .i64 bz, .int .i64 cx, .int .i64 cy, .int .i64 dx, .int .i64 dy] 23)) w' → Blk w' w.heap.size 76 #[.int .i64 ax, .int .i64 ay, .int .i64 bx, .int .i64 bz] ∧ Blk w' (w.heap.size + 1) 76 #[.int .i64 cx, .int .i64 cy, .int .i64 dx, .int .i64 dy] ∧ Blk w' (w.heap.size + 1 + 1) 23 #[.int .i64 ax, .int .i64 ay, .int .i64 bx, .int .i64 bz, .int .i64 cx, .int .i64 cy, .int .i64 dx, .int .i64 dy] := fun w' h => ⟨(((Blk.new_at w 76 #[.int .i64 ax, .int .i64 ay, .int .i64 bx, .int .i64 bz] (n := w.heap.size) rfl).alloc _).alloc _).kp h id, ((Blk.new_at _ 76 #[.int .i64 cx, .int .i64 cy, .int .i64 dx, .int .i64 dy] (n := w.heap.size + 1) (by simp)).alloc _).kp h id, (Blk.new_at _ 23 #[.int .i64 ax, .int .i64 ay, .int .i64 bx, .int .i64 bz, .int .i64 cx, .int .i64 cy, .int .i64 dx, .int .i64 dy] (n := w.heap.size + 1 + 1) (by simp)).kp h id⟩
  have HF := Lib.hid hF
  have HW := Lib.hid (show Nw w (((w.alloc (.cells #[.int .i64 ax, .int .i64 ay, .int .i64 bx, .int .i64 bz] 76)).alloc (.cells #[.int .i64 cx, .int .i64 cy, .int .i64 dx, .int .i64 dy] 76)).alloc (.cells #[.int .i64 ax, .int .i64 ay, .int .i64 bx, .int .i64 bz, .int .i64 cx, .int .i64 cy, .int .i64 dx, .int .i64 dy] 23)) from ((nw_alloc _ _).alloc _).alloc _)
  have HV := Lib.hid (And.intro h1 h2)
  have HSZ := Lib.hid (show (((w.alloc (.cells #[.int .i64 ax, .int .i64 ay, .int .i64 bx, .int .i64 bz] 76)).alloc (.cells #[.int .i64 cx, .int .i64 cy, .int .i64 dx, .int .i64 dy] 76)).alloc (.cells #[.int .i64 ax, .int .i64 ay, .int .i64 bx, .int .i64 bz, .int .i64 cx, .int .i64 cy, .int .i64 dx, .int .i64 dy] 23)).heap.size = w.heap.size + 1 + 1 + 1 by simp)
  clear hF h1 h2
  go_enter Try.func84, Try.ntmps84
  go_wp2_with fail
  go_loopw [6, 7] (fun ov i wr => ∃ k : Nat, i = .int .i64 k ∧ k ≤ 4 ∧ wr.ownsRow (w.heap.size + 1 + 1 + 1) 23 2 ov (((endsL ax ay bx bz cx cy dx dy).take k).filter (bothS ax ay bx bz cx cy dx dy)).length ((((endsL ax ay bx bz cx cy dx dy).take k).filter (bothS ax ay bx bz cx cy dx dy)).flatMap vC) ∧ (((endsL ax ay bx bz cx cy dx dy).take k).filter (bothS ax ay bx bz cx cy dx dy)).length ≤ k ∧ Nw (((w.alloc (.cells #[.int .i64 ax, .int .i64 ay, .int .i64 bx, .int .i64 bz] 76)).alloc (.cells #[.int .i64 cx, .int .i64 cy, .int .i64 dx, .int .i64 dy] 76)).alloc (.cells #[.int .i64 ax, .int .i64 ay, .int .i64 bx, .int .i64 bz, .int .i64 cx, .int .i64 cy, .int .i64 dx, .int .i64 dy] 23)) wr) (fun _ i _ => 4 - (intOf i).toNat)
  case atStart => exact ⟨0, rfl, by omega, World.ownsRow_nil _ _ _ _, by simp, Kp.refl _ _⟩
  case round =>
    obtain ⟨k, rfl, hk, hown, hlen, hnr⟩ := hrel
    obtain ⟨A6, c6, rfl⟩ := (own_src hown).shape
    have HO := Lib.hid hown
    have HL := Lib.hid hlen
    have HN := Lib.hid hnr
    clear hown hlen hnr
    obtain ⟨FL, hFL⟩ : ∃ FL, ((endsL ax ay bx bz cx cy dx dy).take k).filter (bothS ax ay bx bz cx cy dx dy) = FL := ⟨_, rfl⟩
    have HFL := Lib.hid hFL
    rw [hFL] at HO HL ⊢
    clear hFL
    by_cases hk4 : k < 4
    · obtain ⟨⟨ex, ey⟩, he⟩ : ∃ z, (endsL ax ay bx bz cx cy dx dy)[k]? = some z := ⟨(endsL ax ay bx bz cx cy dx dy)[k]'(by simpa [endsL] using hk4), List.getElem?_eq_getElem _⟩
      have i0 : (0 : Int) ≤ (k : Int) := by omega
      have i1 : (k : Int) < 4 := by omega
      have e4 : IntKind.i64.wrap ((k : Int) + 1) = ((k + 1 : Nat) : Int) := by rw [IntKind.wrap_i64]; omega
      have hc : ∀ p : KeptW wr, p.wd.cell? ⟨w.heap.size + 1 + 1, k * 2, none⟩ = some (.int .i64 ex) ∧ p.wd.cell? ⟨w.heap.size + 1 + 1, k * 2 + 1, none⟩ = some (.int .i64 ey) := fun p => by
        have hb := (HF.out _ (HN.out.tr p.since)).2.2
        obtain rfl | rfl | rfl | rfl : k = 0 ∨ k = 1 ∨ k = 2 ∨ k = 3 := by omega
        all_goals (simp [endsL] at he; obtain ⟨rfl, rfl⟩ := he)
        · exact ⟨hb.cell 0, hb.cell 1⟩
        · exact ⟨hb.cell 2, hb.cell 3⟩
        · exact ⟨hb.cell 4, hb.cell 5⟩
        · exact ⟨hb.cell 6, hb.cell 7⟩
      have q0 := fun p : KeptW wr => (HF.out p.wd (HN.out.tr p.since)).1.cell 0
      have q1 := fun p : KeptW wr => (HF.out p.wd (HN.out.tr p.since)).1.cell 1
      have q2 := fun p : KeptW wr => (HF.out p.wd (HN.out.tr p.since)).1.cell 2
      have q3 := fun p : KeptW wr => (HF.out p.wd (HN.out.tr p.since)).1.cell 3
      have q4 := fun p : KeptW wr => (HF.out p.wd (HN.out.tr p.since)).2.1.cell 0
      have q5 := fun p : KeptW wr => (HF.out p.wd (HN.out.tr p.since)).2.1.cell 1
      have q6 := fun p : KeptW wr => (HF.out p.wd (HN.out.tr p.since)).2.1.cell 2
      have q7 := fun p : KeptW wr => (HF.out p.wd (HN.out.tr p.since)).2.1.cell 3
      have q8 := fun p => (hc p).1
      have q9 := fun p => (hc p).2
      have hel : Lm ex ey := end_lm HV.out.1 HV.out.2 (List.mem_of_getElem? he)
      have cu := fun w1 => ron_any ax ay bx bz ex ey w1
      have cv := fun w1 => ron_any cx cy dx dy ex ey w1
      rw [on_con HV.out.1 hel] at cu
      rw [on_con HV.out.2 hel] at cv
      have hst : ((endsL ax ay bx bz cx cy dx dy).take (k + 1)).filter (bothS ax ay bx bz cx cy dx dy) = if (conS ax ay bx bz ex ey && conS cx cy dx dy ex ey) then FL ++ [(ex, ey)] else FL := by
        rw [List.take_add_one, he, Option.toList_some, List.filter_append, HFL.out, List.filter_cons, List.filter_nil]
        show FL ++ (if (conS ax ay bx bz ex ey && conS cx cy dx dy ex ey) = true then [(ex, ey)] else []) = _
        split <;> simp
      have HST := Lib.hid hst
      clear hst hel he hc
      generalize conS ax ay bx bz ex ey = u at *
      generalize conS cx cy dx dy ex ey = v at *
      go_upto_region 6 with fail
      cases u
      · skip
        refine wp_region_kept (Kp.refl _ _) (by assumption) (by kernel_rfl) ?_
        repeat (with_reducible refine wpQuiet_step (fun K hK => ?_); go_simp; first | ((with_reducible refine hK _ ?_); clear hK K) | (with_reducible apply Exists.intro; (with_reducible refine ⟨fun _ => ?_, hK _ ?_⟩); ((first | (go_at_call 88; with_reducible exact Calls.kept_of (cu _)) | (go_at_call 88; with_reducible exact Calls.kept_of (cv _)) | fail)); clear hK K) | (simp only [undef, reduceCtorEq, if_false]; (with_reducible refine hK _ ?_); clear hK K))
        with_reducible refine wpQuiet_nil ?_
        rintro _ ⟨p, rfl⟩
        go_wp2_with fail
        go_roundw
        case rel => exact ⟨k + 1, rfl, by omega, by rw [HST.out]; exact own_nw HO.out p.since, by rw [HST.out]; have := HL.out; exact Nat.le_succ_of_le this, HN.out.tr p.since⟩
        case measure => (simp [intOf]; try omega)
      · cases v
        · skip
          refine wp_region_kept (Kp.refl _ _) (by assumption) (by kernel_rfl) ?_
          repeat (with_reducible refine wpQuiet_step (fun K hK => ?_); go_simp; first | ((with_reducible refine hK _ ?_); clear hK K) | (with_reducible apply Exists.intro; (with_reducible refine ⟨fun _ => ?_, hK _ ?_⟩); ((first | (go_at_call 88; with_reducible exact Calls.kept_of (cu _)) | (go_at_call 88; with_reducible exact Calls.kept_of (cv _)) | fail)); clear hK K) | (simp only [undef, reduceCtorEq, if_false]; (with_reducible refine hK _ ?_); clear hK K))
          with_reducible refine wpQuiet_nil ?_
          rintro _ ⟨p, rfl⟩
          go_wp2_with fail
          go_roundw
          case rel => exact ⟨k + 1, rfl, by omega, by rw [HST.out]; exact own_nw HO.out p.since, by rw [HST.out]; have := HL.out; exact Nat.le_succ_of_le this, HN.out.tr p.since⟩
          case measure => (simp [intOf]; try omega)
        · skip
          refine wp_region_kept (Kp.refl _ _) (by assumption) (by kernel_rfl) ?_
          repeat (with_reducible refine wpQuiet_step (fun K hK => ?_); go_simp; first | ((with_reducible refine hK _ ?_); clear hK K) | (with_reducible apply Exists.intro; (with_reducible refine ⟨fun _ => ?_, hK _ ?_⟩); ((first | (go_at_call 88; with_reducible exact Calls.kept_of (cu _)) | (go_at_call 88; with_reducible exact Calls.kept_of (cv _)) | fail)); clear hK K) | (simp only [undef, reduceCtorEq, if_false]; (with_reducible refine hK _ ?_); clear hK K))
          with_reducible refine wpQuiet_nil ?_
          rintro _ ⟨p, rfl⟩
          have HP := Lib.hid p.since
          have z8 := q8 p
          have z9 := q9 p
          generalize p.wd = wp at HP z8 z9 ⊢
          have hlen := HL.out
          have HB := Lib.hid (show w.heap.size + 1 + 1 + 1 ≤ wp.heap.size by have := HN.out.size; have := HP.out.size; have := HSZ.out; omega)
          clear q0 q1 q2 q3 q4 q5 q6 q7 q8 q9
          go_wp2_with (first
            | (at_builtin; refine wp_pushG rfl (.tmp 35) (.tmp 40) 27 23 2 16 (.agg #[.int .i64 0, .int .i64 0]) rfl Try.underlying27 infoVec rfl (by omega) (w.heap.size + 1 + 1 + 1) FL.length _ (FL.flatMap vC) [.int .i64 ex, .int .i64 ey] rfl (own_nw HO.out HP.out) rfl ?_ rfl ?_ ?_ HB.out ?_; (intro u hu; simp at hu; rcases hu with rfl | rfl <;> rfl); omega; omega; intro v5 w5 own5 gr5))
          have HN5 := Lib.hid (gr5.nw (HN.out.tr HP.out) (fun kk hkk => by have := own_from (own_nw HO.out HP.out) kk hkk; have := HSZ.out; omega))
          have HO5 := Lib.hid own5
          clear own5 gr5
          go_wp2_with fail
          go_roundw
          case rel =>
            refine ⟨k + 1, rfl, by omega, ?_, ?_, by first | exact HN5.out | exact HN5.out.alloc _⟩
            · rw [HST.out]
              have h := HO5.out
              show World.ownsRow _ _ _ _ _ (FL ++ [(ex, ey)]).length ((FL ++ [(ex, ey)]).flatMap vC)
              rw [List.length_append, List.flatMap_append]
              first | exact h | exact own_nw h (nw_alloc _ _)
            · rw [HST.out]
              show (FL ++ [(ex, ey)]).length ≤ _
              rw [List.length_append]
              exact Nat.succ_le_succ HL.out
          case measure => (simp [intOf]; try omega)
    · obtain rfl : k = 4 := by omega
      have i1 : ¬ (((4 : Nat) : Int) < 4) := by omega
      have hsrc : SrcV wr (.slice A6 FL.length c6) FL := own_src HO.out
      have cs := fun w1 h => rsorted_any FL (.slice A6 FL.length c6) w1 h (by have := HL.out; omega)
      have hcom : insAll FL = comS ax ay bx bz cx cy dx dy := by rw [← HFL.out]; rfl
      rw [hcom] at cs
      clear hcom
      go_wp2_with fail
      refine (cs _ hsrc).mono ?_
      rintro e w5 ⟨v5, rfl, hs5, hk5⟩
      go_wp2_with fail
      go_ret
      exact ⟨_, rfl, hs5, (HW.out.tr HN.out).tr hk5⟩
end Go.Proofs.Ytlogihcmmoldkaa.W

namespace Go.Proofs.Ytlogihcmmoldkaa.W
open Go.RowKit Go.Proofs.Ytlogihcmmoldkaa.V Go.Proofs.Ytlogihcmmoldkaa.G

theorem asc_len {L : List (Int × Int)} (h : Asc L) : (L = [] ↔ L.length = 0) ∧ (L ≠ [] → (firstV L = lastV L ↔ L.length = 1)) := by
  refine ⟨List.length_eq_zero_iff.symm, fun hne => ?_⟩
  match L, h with
  | [x], _ => simp [firstV, lastV]
  | x :: y :: r, h =>
    have hl := lastV_is h (by simp)
    constructor
    · intro e
      have h1 := (List.pairwise_cons.1 h).1
      have h2 : lastV (x :: y :: r) ∈ y :: r := by
        show (List.getLast? (x :: y :: r)).getD (0, 0) ∈ y :: r
        rw [List.getLast?_cons_cons, List.getLast?_eq_some_getLast (by simp)]
        exact List.getLast_mem _
      have h3 := h1 _ h2
      rw [← e] at h3
      exact absurd h3 (ltV_irrefl _)
    · intro e
      simp at e

set_option maxRecDepth 100000 in
set_option maxHeartbeats 6400000 in
theorem rmeet_any (ax ay bx bz cx cy dx dy : Int) (w : World) : Calls Try.prog 72 #[sV ax ay bx bz, sV cx cy dx dy] w fun e w' => e = .returned (.int .i64 (kindS ax ay bx bz cx cy dx dy)) ∧ Nw w w' := by
  have hmix := mixed7
  have c1 := fun w1 => rvalid_any ax ay bx bz w1
  have c2 := fun w1 => rvalid_any cx cy dx dy w1
  have hF : ∀ w', Nw ((w.alloc (.cells #[.int .i64 ax, .int .i64 ay, .int .i64 bx, .int .i64 bz] 76)).alloc (.cells #[.int .i64 cx, .int .i64 cy, .int .i64 dx, .int .i64 dy] 76)) w' → Blk w' w.heap.size 76 #[.int .i64 ax, .int .i64 ay, .int .i64 bx, .int .i64 bz] ∧ Blk w' (w.heap.size + 1) 76 #[.int .i64 cx, .int .i64 cy, .int .i64 dx, .int .i64 dy] := fun w' h => ⟨((Blk.new_at w 76 #[.int .i64 ax, .int .i64 ay, .int .i64 bx, .int .i64 bz] (n := w.heap.size) rfl).alloc _).kp h id, (Blk.new_at _ 76 #[.int .i64 cx, .int .i64 cy, .int .i64 dx, .int .i64 dy] (n := w.heap.size + 1) (by simp)).kp h id⟩
  have HF := Lib.hid hF
  clear hF
  have hb0 := Blk.new_at w 76 #[.int .i64 ax, .int .i64 ay, .int .i64 bx, .int .i64 bz] (n := w.heap.size) (by simp)
  have hb1 := Blk.new_at (w.alloc (.cells #[.int .i64 ax, .int .i64 ay, .int .i64 bx, .int .i64 bz] 76)) 76 #[.int .i64 cx, .int .i64 cy, .int .i64 dx, .int .i64 dy] (n := w.heap.size + 1) (by simp)
  have hk0 : ∀ p : KeptW ((w.alloc (.cells #[.int .i64 ax, .int .i64 ay, .int .i64 bx, .int .i64 bz] 76)).alloc (.cells #[.int .i64 cx, .int .i64 cy, .int .i64 dx, .int .i64 dy] 76)), Blk p.wd (w.heap.size) 76 #[.int .i64 ax, .int .i64 ay, .int .i64 bx, .int .i64 bz] := fun p => (hb0.alloc _).kept p
  have q0 := fun p => (hk0 p).cell 0
  have q1 := fun p => (hk0 p).cell 1
  have q2 := fun p => (hk0 p).cell 2
  have q3 := fun p => (hk0 p).cell 3
  have hk1 : ∀ p : KeptW ((w.alloc (.cells #[.int .i64 ax, .int .i64 ay, .int .i64 bx, .int .i64 bz] 76)).alloc (.cells #[.int .i64 cx, .int .i64 cy, .int .i64 dx, .int .i64 dy] 76)), Blk p.wd (w.heap.size + 1) 76 #[.int .i64 cx, .int .i64 cy, .int .i64 dx, .int .i64 dy] := fun p => hb1.kept p
  have q4 := fun p => (hk1 p).cell 0
  have q5 := fun p => (hk1 p).cell 1
  have q6 := fun p => (hk1 p).cell 2
  have q7 := fun p => (hk1 p).cell 3
  skip
  clear hb0 hk0 hb1 hk1
  by_cases h1 : validS ax ay bx bz = true
  · by_cases h2 : validS cx cy dx dy = true
    · have c3 := fun w1 => rcommon_any ax ay bx bz cx cy dx dy h1 h2 w1
      obtain ⟨ha, hb⟩ := valid_lm h1
      obtain ⟨hc, hd⟩ := valid_lm h2
      have s0 := fun w1 => rside_any ax ay bx bz cx cy w1
      have s1 := fun w1 => rside_any ax ay bx bz dx dy w1
      have s2 := fun w1 => rside_any cx cy dx dy ax ay w1
      have s3 := fun w1 => rside_any cx cy dx dy bx bz w1
      rw [side_in h1 hc] at s0
      rw [side_in h1 hd] at s1
      rw [side_in h2 ha] at s2
      rw [side_in h2 hb] at s3
      have m1 := mul_turn (turn_range ax ay bx bz cx cy) (turn_range ax ay bx bz dx dy)
      have m2 := mul_turn (turn_range cx cy dx dy ax ay) (turn_range cx cy dx dy bx bz)
      have hk : kindS ax ay bx bz cx cy dx dy = if (comS ax ay bx bz cx cy dx dy).length = 0 then (if decide (turnV ax ay bx bz cx cy * turnV ax ay bx bz dx dy < 0) && decide (turnV cx cy dx dy ax ay * turnV cx cy dx dy bx bz < 0) then 2 else 0) else if (comS ax ay bx bz cx cy dx dy).length = 1 then 1 else 3 := by
        unfold kindS partS
        rw [h1, h2, Bool.and_self, if_pos rfl]
        have hL := asc_len (com_asc ax ay bx bz cx cy dx dy)
        cases hc : comS ax ay bx bz cx cy dx dy with
        | nil => rfl
        | cons z r =>
          rw [hc] at hL
          have h := hL.2 (by simp)
          rw [if_neg (show ¬ ((z :: r).isEmpty = true) by simp), if_neg (show ¬ ((z :: r).length = 0) by simp)]
          by_cases hl : (z :: r).length = 1
          · rw [if_pos (h.2 hl), if_pos hl]
          · rw [if_neg (fun e => hl (h.1 e)), if_neg hl]
      rw [h1] at c1
      rw [h2] at c2
      rw [hk]
      clear h1 h2 ha hb hc hd hk
      generalize comS ax ay bx bz cx cy dx dy = L at *
      generalize turnV ax ay bx bz cx cy = t1 at *
      generalize turnV ax ay bx bz dx dy = t2 at *
      generalize turnV cx cy dx dy ax ay = t3 at *
      generalize turnV cx cy dx dy bx bz = t4 at *
      obtain ⟨u1, hu1⟩ : ∃ u, t1 * t2 = u := ⟨_, rfl⟩
      obtain ⟨u2, hu2⟩ : ∃ u, t3 * t4 = u := ⟨_, rfl⟩
      replace m1 := m1.trans hu1
      replace m2 := m2.trans hu2
      rw [hu1, hu2]
      clear hu1 hu2
      obtain ⟨v1, hv1⟩ : ∃ v, decide (u1 < 0) = v := ⟨_, rfl⟩
      obtain ⟨v2, hv2⟩ : ∃ v, decide (u2 < 0) = v := ⟨_, rfl⟩
      rw [hv1, hv2]
      obtain ⟨n, hn⟩ : ∃ n, L.length = n := ⟨_, rfl⟩
      rw [hn]
      have HNL := Lib.hid hn
      clear hn
      by_cases hn0 : n = 0
      · subst hn0
        rw [if_pos rfl]
        cases v1
        · skip
          go_enter Try.func72, Try.ntmps72
          go_wp2_with (first | (go_at_call 83; ((with_reducible refine (Calls.kept_first (c1 _)).mono ?_); rintro e _ ⟨rfl, p, rfl⟩)) | (go_at_call 83; ((with_reducible refine (Calls.kept_of (c2 _)).mono ?_); rintro e _ ⟨rfl, p, rfl⟩)) | fail)
          refine (c3 _).mono ?_
          rintro e w3 ⟨v3, rfl, hs3, hk3⟩
          obtain ⟨A3, cc3, rfl⟩ := hs3.shape
          rw [HNL.out]
          have HN := Lib.hid (p.since.tr hk3)
          clear hs3 hk3 q0 q1 q2 q3 q4 q5 q6 q7 c1 c2 c3
          have q0 := fun p : KeptW w3 => (HF.out p.wd (HN.out.tr p.since)).1.cell 0
          have q1 := fun p : KeptW w3 => (HF.out p.wd (HN.out.tr p.since)).1.cell 1
          have q2 := fun p : KeptW w3 => (HF.out p.wd (HN.out.tr p.since)).1.cell 2
          have q3 := fun p : KeptW w3 => (HF.out p.wd (HN.out.tr p.since)).1.cell 3
          have q4 := fun p : KeptW w3 => (HF.out p.wd (HN.out.tr p.since)).2.cell 0
          have q5 := fun p : KeptW w3 => (HF.out p.wd (HN.out.tr p.since)).2.cell 1
          have q6 := fun p : KeptW w3 => (HF.out p.wd (HN.out.tr p.since)).2.cell 2
          have q7 := fun p : KeptW w3 => (HF.out p.wd (HN.out.tr p.since)).2.cell 3
          have z0 := q0 ⟨w3, Kp.refl _ _⟩
          have z1 := q1 ⟨w3, Kp.refl _ _⟩
          have z2 := q2 ⟨w3, Kp.refl _ _⟩
          have z3 := q3 ⟨w3, Kp.refl _ _⟩
          have z4 := q4 ⟨w3, Kp.refl _ _⟩
          have z5 := q5 ⟨w3, Kp.refl _ _⟩
          have z6 := q6 ⟨w3, Kp.refl _ _⟩
          have z7 := q7 ⟨w3, Kp.refl _ _⟩
          go_upto_region 8 with fail
          refine wp_region_kept (Kp.refl _ _) (by assumption) (by kernel_rfl) ?_
          repeat (with_reducible refine wpQuiet_step (fun K hK => ?_); go_simp; first | ((with_reducible refine hK _ ?_); clear hK K) | (with_reducible apply Exists.intro; (with_reducible refine ⟨fun _ => ?_, hK _ ?_⟩); ((first | (go_at_call 85; with_reducible exact Calls.kept_of (s0 _)) | (go_at_call 85; with_reducible exact Calls.kept_of (s1 _)) | (go_at_call 85; with_reducible exact Calls.kept_of (s2 _)) | (go_at_call 85; with_reducible exact Calls.kept_of (s3 _)) | fail)); clear hK K) | (simp only [undef, reduceCtorEq, if_false]; (with_reducible refine hK _ ?_); clear hK K))
          with_reducible refine wpQuiet_nil ?_
          rintro _ ⟨p, rfl⟩
          go_wp2_with fail
          go_ret
          exact ⟨rfl, (((nw_alloc _ _).alloc _).tr HN.out).tr p.since⟩
        · cases v2
          · skip
            go_enter Try.func72, Try.ntmps72
            go_wp2_with (first | (go_at_call 83; ((with_reducible refine (Calls.kept_first (c1 _)).mono ?_); rintro e _ ⟨rfl, p, rfl⟩)) | (go_at_call 83; ((with_reducible refine (Calls.kept_of (c2 _)).mono ?_); rintro e _ ⟨rfl, p, rfl⟩)) | fail)
            refine (c3 _).mono ?_
            rintro e w3 ⟨v3, rfl, hs3, hk3⟩
            obtain ⟨A3, cc3, rfl⟩ := hs3.shape
            rw [HNL.out]
            have HN := Lib.hid (p.since.tr hk3)
            clear hs3 hk3 q0 q1 q2 q3 q4 q5 q6 q7 c1 c2 c3
            have q0 := fun p : KeptW w3 => (HF.out p.wd (HN.out.tr p.since)).1.cell 0
            have q1 := fun p : KeptW w3 => (HF.out p.wd (HN.out.tr p.since)).1.cell 1
            have q2 := fun p : KeptW w3 => (HF.out p.wd (HN.out.tr p.since)).1.cell 2
            have q3 := fun p : KeptW w3 => (HF.out p.wd (HN.out.tr p.since)).1.cell 3
            have q4 := fun p : KeptW w3 => (HF.out p.wd (HN.out.tr p.since)).2.cell 0
            have q5 := fun p : KeptW w3 => (HF.out p.wd (HN.out.tr p.since)).2.cell 1
            have q6 := fun p : KeptW w3 => (HF.out p.wd (HN.out.tr p.since)).2.cell 2
            have q7 := fun p : KeptW w3 => (HF.out p.wd (HN.out.tr p.since)).2.cell 3
            have z0 := q0 ⟨w3, Kp.refl _ _⟩
            have z1 := q1 ⟨w3, Kp.refl _ _⟩
            have z2 := q2 ⟨w3, Kp.refl _ _⟩
            have z3 := q3 ⟨w3, Kp.refl _ _⟩
            have z4 := q4 ⟨w3, Kp.refl _ _⟩
            have z5 := q5 ⟨w3, Kp.refl _ _⟩
            have z6 := q6 ⟨w3, Kp.refl _ _⟩
            have z7 := q7 ⟨w3, Kp.refl _ _⟩
            go_upto_region 8 with fail
            refine wp_region_kept (Kp.refl _ _) (by assumption) (by kernel_rfl) ?_
            repeat (with_reducible refine wpQuiet_step (fun K hK => ?_); go_simp; first | ((with_reducible refine hK _ ?_); clear hK K) | (with_reducible apply Exists.intro; (with_reducible refine ⟨fun _ => ?_, hK _ ?_⟩); ((first | (go_at_call 85; with_reducible exact Calls.kept_of (s0 _)) | (go_at_call 85; with_reducible exact Calls.kept_of (s1 _)) | (go_at_call 85; with_reducible exact Calls.kept_of (s2 _)) | (go_at_call 85; with_reducible exact Calls.kept_of (s3 _)) | fail)); clear hK K) | (simp only [undef, reduceCtorEq, if_false]; (with_reducible refine hK _ ?_); clear hK K))
            with_reducible refine wpQuiet_nil ?_
            rintro _ ⟨p, rfl⟩
            go_wp2_with fail
            go_ret
            exact ⟨rfl, (((nw_alloc _ _).alloc _).tr HN.out).tr p.since⟩
          · skip
            go_enter Try.func72, Try.ntmps72
            go_wp2_with (first | (go_at_call 83; ((with_reducible refine (Calls.kept_first (c1 _)).mono ?_); rintro e _ ⟨rfl, p, rfl⟩)) | (go_at_call 83; ((with_reducible refine (Calls.kept_of (c2 _)).mono ?_); rintro e _ ⟨rfl, p, rfl⟩)) | fail)
            refine (c3 _).mono ?_
            rintro e w3 ⟨v3, rfl, hs3, hk3⟩
            obtain ⟨A3, cc3, rfl⟩ := hs3.shape
            rw [HNL.out]
            have HN := Lib.hid (p.since.tr hk3)
            clear hs3 hk3 q0 q1 q2 q3 q4 q5 q6 q7 c1 c2 c3
            have q0 := fun p : KeptW w3 => (HF.out p.wd (HN.out.tr p.since)).1.cell 0
            have q1 := fun p : KeptW w3 => (HF.out p.wd (HN.out.tr p.since)).1.cell 1
            have q2 := fun p : KeptW w3 => (HF.out p.wd (HN.out.tr p.since)).1.cell 2
            have q3 := fun p : KeptW w3 => (HF.out p.wd (HN.out.tr p.since)).1.cell 3
            have q4 := fun p : KeptW w3 => (HF.out p.wd (HN.out.tr p.since)).2.cell 0
            have q5 := fun p : KeptW w3 => (HF.out p.wd (HN.out.tr p.since)).2.cell 1
            have q6 := fun p : KeptW w3 => (HF.out p.wd (HN.out.tr p.since)).2.cell 2
            have q7 := fun p : KeptW w3 => (HF.out p.wd (HN.out.tr p.since)).2.cell 3
            have z0 := q0 ⟨w3, Kp.refl _ _⟩
            have z1 := q1 ⟨w3, Kp.refl _ _⟩
            have z2 := q2 ⟨w3, Kp.refl _ _⟩
            have z3 := q3 ⟨w3, Kp.refl _ _⟩
            have z4 := q4 ⟨w3, Kp.refl _ _⟩
            have z5 := q5 ⟨w3, Kp.refl _ _⟩
            have z6 := q6 ⟨w3, Kp.refl _ _⟩
            have z7 := q7 ⟨w3, Kp.refl _ _⟩
            go_upto_region 8 with fail
            refine wp_region_kept (Kp.refl _ _) (by assumption) (by kernel_rfl) ?_
            repeat (with_reducible refine wpQuiet_step (fun K hK => ?_); go_simp; first | ((with_reducible refine hK _ ?_); clear hK K) | (with_reducible apply Exists.intro; (with_reducible refine ⟨fun _ => ?_, hK _ ?_⟩); ((first | (go_at_call 85; with_reducible exact Calls.kept_of (s0 _)) | (go_at_call 85; with_reducible exact Calls.kept_of (s1 _)) | (go_at_call 85; with_reducible exact Calls.kept_of (s2 _)) | (go_at_call 85; with_reducible exact Calls.kept_of (s3 _)) | fail)); clear hK K) | (simp only [undef, reduceCtorEq, if_false]; (with_reducible refine hK _ ?_); clear hK K))
            with_reducible refine wpQuiet_nil ?_
            rintro _ ⟨p, rfl⟩
            go_wp2_with fail
            go_ret
            exact ⟨rfl, (((nw_alloc _ _).alloc _).tr HN.out).tr p.since⟩
      · rw [if_neg hn0]
        by_cases hn1 : n = 1
        · subst hn1
          rw [if_pos rfl]
          go_enter Try.func72, Try.ntmps72
          go_wp2_with (first | (go_at_call 83; ((with_reducible refine (Calls.kept_first (c1 _)).mono ?_); rintro e _ ⟨rfl, p, rfl⟩)) | (go_at_call 83; ((with_reducible refine (Calls.kept_of (c2 _)).mono ?_); rintro e _ ⟨rfl, p, rfl⟩)) | fail)
          refine (c3 _).mono ?_
          rintro e w3 ⟨v3, rfl, hs3, hk3⟩
          obtain ⟨A3, cc3, rfl⟩ := hs3.shape
          rw [HNL.out]
          have HN := Lib.hid (p.since.tr hk3)
          clear hs3 hk3 q0 q1 q2 q3 q4 q5 q6 q7 c1 c2 c3
          have q0 := fun p : KeptW w3 => (HF.out p.wd (HN.out.tr p.since)).1.cell 0
          have q1 := fun p : KeptW w3 => (HF.out p.wd (HN.out.tr p.since)).1.cell 1
          have q2 := fun p : KeptW w3 => (HF.out p.wd (HN.out.tr p.since)).1.cell 2
          have q3 := fun p : KeptW w3 => (HF.out p.wd (HN.out.tr p.since)).1.cell 3
          have q4 := fun p : KeptW w3 => (HF.out p.wd (HN.out.tr p.since)).2.cell 0
          have q5 := fun p : KeptW w3 => (HF.out p.wd (HN.out.tr p.since)).2.cell 1
          have q6 := fun p : KeptW w3 => (HF.out p.wd (HN.out.tr p.since)).2.cell 2
          have q7 := fun p : KeptW w3 => (HF.out p.wd (HN.out.tr p.since)).2.cell 3
          have z0 := q0 ⟨w3, Kp.refl _ _⟩
          have z1 := q1 ⟨w3, Kp.refl _ _⟩
          have z2 := q2 ⟨w3, Kp.refl _ _⟩
          have z3 := q3 ⟨w3, Kp.refl _ _⟩
          have z4 := q4 ⟨w3, Kp.refl _ _⟩
          have z5 := q5 ⟨w3, Kp.refl _ _⟩
          have z6 := q6 ⟨w3, Kp.refl _ _⟩
          have z7 := q7 ⟨w3, Kp.refl _ _⟩
          go_wp2_with fail
          go_ret
          exact ⟨rfl, ((nw_alloc _ _).alloc _).tr HN.out⟩
        · rw [if_neg hn1]
          have e1 : decide ((n : Int) > 1) = true := decide_eq_true (by omega)
          have e2 : decide (1 < (n : Int)) = true := e1
          clear hn0 hn1
          go_enter Try.func72, Try.ntmps72
          go_wp2_with (first | (go_at_call 83; ((with_reducible refine (Calls.kept_first (c1 _)).mono ?_); rintro e _ ⟨rfl, p, rfl⟩)) | (go_at_call 83; ((with_reducible refine (Calls.kept_of (c2 _)).mono ?_); rintro e _ ⟨rfl, p, rfl⟩)) | fail)
          refine (c3 _).mono ?_
          rintro e w3 ⟨v3, rfl, hs3, hk3⟩
          obtain ⟨A3, cc3, rfl⟩ := hs3.shape
          rw [HNL.out]
          have HN := Lib.hid (p.since.tr hk3)
          clear hs3 hk3 q0 q1 q2 q3 q4 q5 q6 q7 c1 c2 c3
          have q0 := fun p : KeptW w3 => (HF.out p.wd (HN.out.tr p.since)).1.cell 0
          have q1 := fun p : KeptW w3 => (HF.out p.wd (HN.out.tr p.since)).1.cell 1
          have q2 := fun p : KeptW w3 => (HF.out p.wd (HN.out.tr p.since)).1.cell 2
          have q3 := fun p : KeptW w3 => (HF.out p.wd (HN.out.tr p.since)).1.cell 3
          have q4 := fun p : KeptW w3 => (HF.out p.wd (HN.out.tr p.since)).2.cell 0
          have q5 := fun p : KeptW w3 => (HF.out p.wd (HN.out.tr p.since)).2.cell 1
          have q6 := fun p : KeptW w3 => (HF.out p.wd (HN.out.tr p.since)).2.cell 2
          have q7 := fun p : KeptW w3 => (HF.out p.wd (HN.out.tr p.since)).2.cell 3
          have z0 := q0 ⟨w3, Kp.refl _ _⟩
          have z1 := q1 ⟨w3, Kp.refl _ _⟩
          have z2 := q2 ⟨w3, Kp.refl _ _⟩
          have z3 := q3 ⟨w3, Kp.refl _ _⟩
          have z4 := q4 ⟨w3, Kp.refl _ _⟩
          have z5 := q5 ⟨w3, Kp.refl _ _⟩
          have z6 := q6 ⟨w3, Kp.refl _ _⟩
          have z7 := q7 ⟨w3, Kp.refl _ _⟩
          go_wp2_with fail
          go_ret
          exact ⟨rfl, ((nw_alloc _ _).alloc _).tr HN.out⟩
    · rw [Bool.not_eq_true] at h2
      rw [kind_inv (by rw [h2]; simp)]
      rw [h1] at c1
      rw [h2] at c2
      clear h1 h2
      go_enter Try.func72, Try.ntmps72
      go_wp2_with (first | (go_at_call 83; ((with_reducible refine (Calls.kept_first (c1 _)).mono ?_); rintro e _ ⟨rfl, p, rfl⟩)) | (go_at_call 83; ((with_reducible refine (Calls.kept_of (c2 _)).mono ?_); rintro e _ ⟨rfl, p, rfl⟩)) | fail)
      go_ret
      exact ⟨rfl, ((nw_alloc _ _).alloc _).tr p.since⟩
  · rw [Bool.not_eq_true] at h1
    rw [kind_inv (by rw [h1]; simp)]
    rw [h1] at c1
    clear h1
    go_enter Try.func72, Try.ntmps72
    go_wp2_with (first | (go_at_call 83; ((with_reducible refine (Calls.kept_first (c1 _)).mono ?_); rintro e _ ⟨rfl, p, rfl⟩)) | (go_at_call 83; ((with_reducible refine (Calls.kept_of (c2 _)).mono ?_); rintro e _ ⟨rfl, p, rfl⟩)) | fail)
    go_ret
    exact ⟨rfl, ((nw_alloc _ _).alloc _).tr p.since⟩

theorem kind_valid {ax ay bx bz cx cy dx dy : Int} (h : kindS ax ay bx bz cx cy dx dy ≠ 0) : validS ax ay bx bz = true ∧ validS cx cy dx dy = true := by
  apply Classical.byContradiction
  intro hn
  exact h (kind_inv hn)
theorem com_first {ax ay bx bz cx cy dx dy : Int} (hk : kindS ax ay bx bz cx cy dx dy = 1 ∨ kindS ax ay bx bz cx cy dx dy = 3) : 0 < (comS ax ay bx bz cx cy dx dy).length ∧ (comS ax ay bx bz cx cy dx dy)[0]? = some (partsS ax ay bx bz cx cy dx dy).1 ∧ (comS ax ay bx bz cx cy dx dy)[(comS ax ay bx bz cx cy dx dy).length - 1]? = some (partsS ax ay bx bz cx cy dx dy).2 := by
  obtain ⟨h1, h2⟩ := kind_valid (ax := ax) (ay := ay) (bx := bx) (bz := bz) (cx := cx) (cy := cy) (dx := dx) (dy := dy) (by omega)
  have hne : comS ax ay bx bz cx cy dx dy ≠ [] := by
    intro e
    unfold kindS at hk
    rw [h1, h2, Bool.and_self, if_pos rfl, e] at hk
    simp only [List.isEmpty_nil, if_true] at hk
    split at hk <;> omega
  have hp : partsS ax ay bx bz cx cy dx dy = (firstV (comS ax ay bx bz cx cy dx dy), lastV (comS ax ay bx bz cx cy dx dy)) := by
    unfold partsS
    rw [h1, h2, Bool.and_self, Bool.true_and]
    cases hL : comS ax ay bx bz cx cy dx dy with
    | nil => exact absurd hL hne
    | cons x r => rfl
  rw [hp]
  generalize comS ax ay bx bz cx cy dx dy = L at *
  cases L with
  | nil => exact absurd rfl hne
  | cons x r =>
    refine ⟨by simp, rfl, ?_⟩
    show (x :: r)[(x :: r).length - 1]? = some (lastV (x :: r))
    unfold lastV
    rw [← List.getLast?_eq_getElem?, List.getLast?_eq_some_getLast (by simp)]
    rfl

end Go.Proofs.Ytlogihcmmoldkaa.W
