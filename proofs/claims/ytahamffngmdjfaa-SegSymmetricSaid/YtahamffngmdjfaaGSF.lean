/-
  SegCross: the call returns true. No condition.
-/
import Derived.Test.YtahamffngmdjfaaGSE
import Derived.Test.YtahamffngmdjfaaGSD
namespace Go.Proofs.Ytahamffngmdjfaa.W
open Go.RowKit Go.Proofs.Ytahamffngmdjfaa.V Go.Proofs.Ytahamffngmdjfaa.G

theorem kind_inv {ax ay bx bz cx cy dx dy : Int} (h : ¬ (validS ax ay bx bz = true ∧ validS cx cy dx dy = true)) : kindS ax ay bx bz cx cy dx dy = 0 := by
  unfold kindS
  rw [if_neg (by simpa using h)]
theorem com_lm {ax ay bx bz cx cy dx dy : Int} (h1 : validS ax ay bx bz = true) (h2 : validS cx cy dx dy = true) {x y : Int} (h : (x, y) ∈ comS ax ay bx bz cx cy dx dy) : ((x = ax ∧ y = ay) ∨ (x = bx ∧ y = bz) ∨ (x = cx ∧ y = cy) ∨ (x = dx ∧ y = dy)) ∧ Lm x y ∧ On ax ay bx bz x y ∧ On cx cy dx dy x y := by
  obtain ⟨ha, hb⟩ := valid_lm h1
  obtain ⟨hc, hd⟩ := valid_lm h2
  obtain ⟨he, hs⟩ := (com_mem ax ay bx bz cx cy dx dy (x, y)).1 h
  have e : (x = ax ∧ y = ay) ∨ (x = bx ∧ y = bz) ∨ (x = cx ∧ y = cy) ∨ (x = dx ∧ y = dy) := by simpa [endsL] using he
  have hl : Lm x y := by rcases e with ⟨rfl, rfl⟩ | ⟨rfl, rfl⟩ | ⟨rfl, rfl⟩ | ⟨rfl, rfl⟩ <;> assumption
  unfold bothS at hs
  rw [Bool.and_eq_true] at hs
  exact ⟨e, hl, (con_lm ha hb hl).1 hs.1, (con_lm hc hd hl).1 hs.2⟩
theorem kind_cross {ax ay bx bz cx cy dx dy : Int} (h1 : validS ax ay bx bz = true) (h2 : validS cx cy dx dy = true) : (kindS ax ay bx bz cx cy dx dy == 2) = (partS ax ay bx bz cx cy dx dy && partS cx cy dx dy ax ay bx bz) := by
  obtain ⟨ha, hb⟩ := valid_lm h1
  obtain ⟨hc, hd⟩ := valid_lm h2
  unfold kindS
  rw [h1, h2, Bool.and_self, if_pos rfl]
  cases hL : (comS ax ay bx bz cx cy dx dy).isEmpty
  · rw [if_neg (by simp)]
    have hn : (partS ax ay bx bz cx cy dx dy && partS cx cy dx dy ax ay bx bz) = false := by
      apply Bool.eq_false_iff.2
      rw [Ne, Bool.and_eq_true, part_lm ha hb hc hd, part_lm hc hd ha hb]
      match hm : comS ax ay bx bz cx cy dx dy, hL with
      | (x, y) :: r, _ =>
        obtain ⟨e, hl, h3, h4⟩ := com_lm h1 h2 (show (x, y) ∈ comS ax ay bx bz cx cy dx dy by rw [hm]; exact List.mem_cons_self)
        exact end_not_cross e h3 h4
    rw [hn]
    split <;> decide
  · rw [if_pos rfl]
    cases partS ax ay bx bz cx cy dx dy && partS cx cy dx dy ax ay bx bz <;> decide
theorem side_in {ax ay bx bz px py : Int} (h1 : validS ax ay bx bz = true) (hp : Lm px py) : sideS ax ay bx bz px py = turnV ax ay bx bz px py := by
  unfold sideS
  rw [h1, within_lm.2 hp, Bool.and_self, if_pos rfl]
set_option maxRecDepth 100000 in
set_option maxHeartbeats 3200000 in
theorem segCross_any (ax ay bx bz cx cy dx dy : Int) (w : World) : Calls Try.prog 11 #[sV ax ay bx bz, sV cx cy dx dy] w fun e w' => e = .returned (.bool true) ∧ Nw w w' := by
  have hmix := mixed7
  have c0 := fun w1 => awake7_any w1
  have c1 := fun w1 => valid_any ax ay bx bz w1
  have c2 := fun w1 => valid_any cx cy dx dy w1
  have c3 := fun w1 => meetK_any ax ay bx bz cx cy dx dy w1
  have hb0 := Blk.new_at w 48 #[.int .i64 ax, .int .i64 ay, .int .i64 bx, .int .i64 bz] (n := w.heap.size) (by simp)
  have hb1 := Blk.new_at (w.alloc (.cells #[.int .i64 ax, .int .i64 ay, .int .i64 bx, .int .i64 bz] 48)) 48 #[.int .i64 cx, .int .i64 cy, .int .i64 dx, .int .i64 dy] (n := w.heap.size + 1) (by simp)
  have hk0 : ∀ p : KeptW ((w.alloc (.cells #[.int .i64 ax, .int .i64 ay, .int .i64 bx, .int .i64 bz] 48)).alloc (.cells #[.int .i64 cx, .int .i64 cy, .int .i64 dx, .int .i64 dy] 48)), Blk p.wd (w.heap.size) 48 #[.int .i64 ax, .int .i64 ay, .int .i64 bx, .int .i64 bz] := fun p => (hb0.alloc _).kept p
  have q0 := fun p => (hk0 p).cell 0
  have q1 := fun p => (hk0 p).cell 1
  have q2 := fun p => (hk0 p).cell 2
  have q3 := fun p => (hk0 p).cell 3
  have hk1 : ∀ p : KeptW ((w.alloc (.cells #[.int .i64 ax, .int .i64 ay, .int .i64 bx, .int .i64 bz] 48)).alloc (.cells #[.int .i64 cx, .int .i64 cy, .int .i64 dx, .int .i64 dy] 48)), Blk p.wd (w.heap.size + 1) 48 #[.int .i64 cx, .int .i64 cy, .int .i64 dx, .int .i64 dy] := fun p => hb1.kept p
  have q4 := fun p => (hk1 p).cell 0
  have q5 := fun p => (hk1 p).cell 1
  have q6 := fun p => (hk1 p).cell 2
  have q7 := fun p => (hk1 p).cell 3
  skip
  clear hb0 hk0 hb1 hk1
  by_cases h1 : validS ax ay bx bz = true
  · by_cases h2 : validS cx cy dx dy = true
    · obtain ⟨ha, hb⟩ := valid_lm h1
      obtain ⟨hc, hd⟩ := valid_lm h2
      have s1 := fun w1 => side_any ax ay bx bz cx cy w1
      have s2 := fun w1 => side_any ax ay bx bz dx dy w1
      have s3 := fun w1 => side_any cx cy dx dy ax ay w1
      have s4 := fun w1 => side_any cx cy dx dy bx bz w1
      rw [side_in h1 hc] at s1
      rw [side_in h1 hd] at s2
      rw [side_in h2 ha] at s3
      rw [side_in h2 hb] at s4
      have hk := kind_cross h1 h2
      unfold partS at hk
      have m1 := mul_turn (turn_range ax ay bx bz cx cy) (turn_range ax ay bx bz dx dy)
      have m2 := mul_turn (turn_range cx cy dx dy ax ay) (turn_range cx cy dx dy bx bz)
      rw [h1] at c1
      rw [h2] at c2
      clear h1 h2 ha hb hc hd
      generalize kindS ax ay bx bz cx cy dx dy = k at *
      generalize turnV ax ay bx bz cx cy = t1 at *
      generalize turnV ax ay bx bz dx dy = t2 at *
      generalize turnV cx cy dx dy ax ay = t3 at *
      generalize turnV cx cy dx dy bx bz = t4 at *
      obtain ⟨u1, hu1⟩ : ∃ u, t1 * t2 = u := ⟨_, rfl⟩
      obtain ⟨u2, hu2⟩ : ∃ u, t3 * t4 = u := ⟨_, rfl⟩
      replace m1 := m1.trans hu1
      replace m2 := m2.trans hu2
      rw [hu1, hu2] at hk
      clear hu1 hu2
      obtain ⟨v1, hv1⟩ : ∃ v, decide (u1 < 0) = v := ⟨_, rfl⟩
      obtain ⟨v2, hv2⟩ : ∃ v, decide (u2 < 0) = v := ⟨_, rfl⟩
      rw [hv1, hv2] at hk
      cases v1
      · go_enter Try.func11, Try.ntmps11
        go_upto_region 5 with (first | (go_at_call 51; ((with_reducible refine (Calls.kept_first (c0 _)).mono ?_); rintro e _ ⟨rfl, p, rfl⟩)) | (go_at_call 56; ((with_reducible refine (Calls.kept_of (c1 _)).mono ?_); rintro e _ ⟨rfl, p, rfl⟩)) | (go_at_call 56; ((with_reducible refine (Calls.kept_of (c2 _)).mono ?_); rintro e _ ⟨rfl, p, rfl⟩)) | fail)
        refine wp_region_kept (p.since) (by assumption) (by kernel_rfl) ?_
        repeat (with_reducible refine wpQuiet_step (fun K hK => ?_); go_simp; first | ((with_reducible refine hK _ ?_); clear hK K) | (with_reducible apply Exists.intro; (with_reducible refine ⟨fun _ => ?_, hK _ ?_⟩); ((first | (go_at_call 58; with_reducible exact Calls.kept_of (c3 _)) | (go_at_call 64; with_reducible exact Calls.kept_of (s1 _)) | (go_at_call 64; with_reducible exact Calls.kept_of (s2 _)) | (go_at_call 64; with_reducible exact Calls.kept_of (s3 _)) | (go_at_call 64; with_reducible exact Calls.kept_of (s4 _)) | fail)); clear hK K))
        with_reducible refine wpQuiet_nil ?_
        rintro _ ⟨p, rfl⟩
        go_wp2_with fail
        go_ret
        exact ⟨by simp, ((nw_alloc _ _).alloc _).tr p.since⟩
      · go_enter Try.func11, Try.ntmps11
        go_upto_region 5 with (first | (go_at_call 51; ((with_reducible refine (Calls.kept_first (c0 _)).mono ?_); rintro e _ ⟨rfl, p, rfl⟩)) | (go_at_call 56; ((with_reducible refine (Calls.kept_of (c1 _)).mono ?_); rintro e _ ⟨rfl, p, rfl⟩)) | (go_at_call 56; ((with_reducible refine (Calls.kept_of (c2 _)).mono ?_); rintro e _ ⟨rfl, p, rfl⟩)) | fail)
        refine wp_region_kept (p.since) (by assumption) (by kernel_rfl) ?_
        repeat (with_reducible refine wpQuiet_step (fun K hK => ?_); go_simp; first | ((with_reducible refine hK _ ?_); clear hK K) | (with_reducible apply Exists.intro; (with_reducible refine ⟨fun _ => ?_, hK _ ?_⟩); ((first | (go_at_call 58; with_reducible exact Calls.kept_of (c3 _)) | (go_at_call 64; with_reducible exact Calls.kept_of (s1 _)) | (go_at_call 64; with_reducible exact Calls.kept_of (s2 _)) | (go_at_call 64; with_reducible exact Calls.kept_of (s3 _)) | (go_at_call 64; with_reducible exact Calls.kept_of (s4 _)) | fail)); clear hK K))
        with_reducible refine wpQuiet_nil ?_
        rintro _ ⟨p, rfl⟩
        go_wp2_with fail
        go_ret
        exact ⟨by simp, ((nw_alloc _ _).alloc _).tr p.since⟩
    · rw [Bool.not_eq_true] at h2
      rw [kind_inv (by rw [h2]; simp)] at c3
      rw [h1] at c1
      rw [h2] at c2
      clear h1 h2
      go_enter Try.func11, Try.ntmps11
      go_wp2_with (first | (go_at_call 51; ((with_reducible refine (Calls.kept_first (c0 _)).mono ?_); rintro e _ ⟨rfl, p, rfl⟩)) | (go_at_call 56; ((with_reducible refine (Calls.kept_of (c1 _)).mono ?_); rintro e _ ⟨rfl, p, rfl⟩)) | (go_at_call 56; ((with_reducible refine (Calls.kept_of (c2 _)).mono ?_); rintro e _ ⟨rfl, p, rfl⟩)) | (go_at_call 58; ((with_reducible refine (Calls.kept_of (c3 _)).mono ?_); rintro e _ ⟨rfl, p, rfl⟩)) | fail)
      go_ret
      exact ⟨rfl, ((nw_alloc _ _).alloc _).tr p.since⟩
  · rw [Bool.not_eq_true] at h1
    rw [kind_inv (by rw [h1]; simp)] at c3
    rw [h1] at c1
    clear h1
    go_enter Try.func11, Try.ntmps11
    go_wp2_with (first | (go_at_call 51; ((with_reducible refine (Calls.kept_first (c0 _)).mono ?_); rintro e _ ⟨rfl, p, rfl⟩)) | (go_at_call 56; ((with_reducible refine (Calls.kept_of (c1 _)).mono ?_); rintro e _ ⟨rfl, p, rfl⟩)) | (go_at_call 56; ((with_reducible refine (Calls.kept_of (c2 _)).mono ?_); rintro e _ ⟨rfl, p, rfl⟩)) | (go_at_call 58; ((with_reducible refine (Calls.kept_of (c3 _)).mono ?_); rintro e _ ⟨rfl, p, rfl⟩)) | fail)
    go_ret
    exact ⟨rfl, ((nw_alloc _ _).alloc _).tr p.since⟩
end Go.Proofs.Ytahamffngmdjfaa.W
