/-
  seg and its reference: valid segments, points on them and beside them: what each function returns. No condition.
-/
import Derived.Test.YtahamffngmdjfaaGQ
namespace Go.Proofs.Ytahamffngmdjfaa.W
open Go.RowKit Go.Proofs.Ytahamffngmdjfaa.V

def validS (ax ay bx bz : Int) : Bool := withinV ax ay 4000 && withinV bx bz 4000
def conS (ax ay bx bz px py : Int) : Bool := (turnV ax ay bx bz px py == 0) && decide (dotV (w64 (ax - px)) (w64 (ay - py)) (w64 (bx - px)) (w64 (bz - py)) ≤ 0)
def partS (ax ay bx bz cx cy dx dy : Int) : Bool := decide (turnV ax ay bx bz cx cy * turnV ax ay bx bz dx dy < 0)
def onS (ax ay bx bz px py : Int) : Bool := validS ax ay bx bz && withinV px py 4000 && conS ax ay bx bz px py
def sideS (ax ay bx bz px py : Int) : Int := if validS ax ay bx bz && withinV px py 4000 then turnV ax ay bx bz px py else 0
theorem mul_turn {t u : Int} (h : -1 ≤ t ∧ t ≤ 1) (g : -1 ≤ u ∧ u ≤ 1) : IntKind.i64.wrap (t * u) = t * u := by
  rcases (show t = -1 ∨ t = 0 ∨ t = 1 by omega) with rfl | rfl | rfl <;> rcases (show u = -1 ∨ u = 0 ∨ u = 1 by omega) with rfl | rfl | rfl <;> decide +kernel

set_option maxHeartbeats 800000 in
theorem valid_any (ax ay bx bz : Int) (w : World) : Calls Try.prog 56 #[sV ax ay bx bz] w fun e w' => e = .returned (.bool (validS ax ay bx bz)) ∧ Nw w w' := by
  have c1 := fun w1 => within_any ax ay 4000 w1
  have c2 := fun w1 => within_any bx bz 4000 w1
  unfold validS
  generalize withinV ax ay 4000 = a at *
  generalize withinV bx bz 4000 = b at *
  have hb0 := Blk.new_at w 48 #[.int .i64 ax, .int .i64 ay, .int .i64 bx, .int .i64 bz] (n := w.heap.size) (by simp)
  have hk0 : ∀ p : KeptW (w.alloc (.cells #[.int .i64 ax, .int .i64 ay, .int .i64 bx, .int .i64 bz] 48)), Blk p.wd (w.heap.size) 48 #[.int .i64 ax, .int .i64 ay, .int .i64 bx, .int .i64 bz] := fun p => hb0.kept p
  have q0 := fun p => (hk0 p).cell 0
  have q1 := fun p => (hk0 p).cell 1
  have q2 := fun p => (hk0 p).cell 2
  have q3 := fun p => (hk0 p).cell 3
  skip
  clear hb0 hk0
  cases a
  · go_enter Try.func56, Try.ntmps56
    go_wp2_with (first | (go_at_call 42; ((with_reducible refine (Calls.kept_first (c1 _)).mono ?_); rintro e _ ⟨rfl, p, rfl⟩)) | (go_at_call 42; ((with_reducible refine (Calls.kept_of (c2 _)).mono ?_); rintro e _ ⟨rfl, p, rfl⟩)) | fail)
    go_ret
    exact ⟨by simp, ((nw_alloc _ _)).tr p.since⟩
  · go_enter Try.func56, Try.ntmps56
    go_wp2_with (first | (go_at_call 42; ((with_reducible refine (Calls.kept_first (c1 _)).mono ?_); rintro e _ ⟨rfl, p, rfl⟩)) | (go_at_call 42; ((with_reducible refine (Calls.kept_of (c2 _)).mono ?_); rintro e _ ⟨rfl, p, rfl⟩)) | fail)
    go_ret
    exact ⟨by simp, ((nw_alloc _ _)).tr p.since⟩

set_option maxHeartbeats 800000 in
theorem rvalid_any (ax ay bx bz : Int) (w : World) : Calls Try.prog 57 #[sV ax ay bx bz] w fun e w' => e = .returned (.bool (validS ax ay bx bz)) ∧ Nw w w' := by
  have c1 := fun w1 => rwithin_any ax ay 4000 w1
  have c2 := fun w1 => rwithin_any bx bz 4000 w1
  unfold validS
  generalize withinV ax ay 4000 = a at *
  generalize withinV bx bz 4000 = b at *
  have hb0 := Blk.new_at w 48 #[.int .i64 ax, .int .i64 ay, .int .i64 bx, .int .i64 bz] (n := w.heap.size) (by simp)
  have hk0 : ∀ p : KeptW (w.alloc (.cells #[.int .i64 ax, .int .i64 ay, .int .i64 bx, .int .i64 bz] 48)), Blk p.wd (w.heap.size) 48 #[.int .i64 ax, .int .i64 ay, .int .i64 bx, .int .i64 bz] := fun p => hb0.kept p
  have q0 := fun p => (hk0 p).cell 0
  have q1 := fun p => (hk0 p).cell 1
  have q2 := fun p => (hk0 p).cell 2
  have q3 := fun p => (hk0 p).cell 3
  skip
  clear hb0 hk0
  cases a
  · go_enter Try.func57, Try.ntmps57
    go_wp2_with (first | (go_at_call 43; ((with_reducible refine (Calls.kept_first (c1 _)).mono ?_); rintro e _ ⟨rfl, p, rfl⟩)) | (go_at_call 43; ((with_reducible refine (Calls.kept_of (c2 _)).mono ?_); rintro e _ ⟨rfl, p, rfl⟩)) | fail)
    go_ret
    exact ⟨by simp, ((nw_alloc _ _)).tr p.since⟩
  · go_enter Try.func57, Try.ntmps57
    go_wp2_with (first | (go_at_call 43; ((with_reducible refine (Calls.kept_first (c1 _)).mono ?_); rintro e _ ⟨rfl, p, rfl⟩)) | (go_at_call 43; ((with_reducible refine (Calls.kept_of (c2 _)).mono ?_); rintro e _ ⟨rfl, p, rfl⟩)) | fail)
    go_ret
    exact ⟨by simp, ((nw_alloc _ _)).tr p.since⟩

set_option maxHeartbeats 1600000 in
theorem contains_any (ax ay bx bz px py : Int) (w : World) : Calls Try.prog 105 #[sV ax ay bx bz, vV px py] w fun e w' => e = .returned (.bool (conS ax ay bx bz px py)) ∧ Nw w w' := by
  have ct := fun w1 => turn_any ax ay bx bz px py w1
  have c1 := fun w1 => sub_any ax ay px py w1
  have c2 := fun w1 => sub_any bx bz px py w1
  have cd := fun w1 => dot_any (w64 (ax - px)) (w64 (ay - py)) (w64 (bx - px)) (w64 (bz - py)) w1
  unfold conS
  generalize dotV (w64 (ax - px)) (w64 (ay - py)) (w64 (bx - px)) (w64 (bz - py)) = r at *
  generalize w64 (ax - px) = x1 at *
  generalize w64 (ay - py) = x2 at *
  generalize w64 (bx - px) = x3 at *
  generalize w64 (bz - py) = x4 at *
  generalize turnV ax ay bx bz px py = t at *
  have hmix := mixed7
  have hb0 := Blk.new_at w 48 #[.int .i64 ax, .int .i64 ay, .int .i64 bx, .int .i64 bz] (n := w.heap.size) (by simp)
  have hb1 := Blk.new_at (w.alloc (.cells #[.int .i64 ax, .int .i64 ay, .int .i64 bx, .int .i64 bz] 48)) 23 #[.int .i64 px, .int .i64 py] (n := w.heap.size + 1) (by simp)
  have hk0 : ∀ p : KeptW ((w.alloc (.cells #[.int .i64 ax, .int .i64 ay, .int .i64 bx, .int .i64 bz] 48)).alloc (.cells #[.int .i64 px, .int .i64 py] 23)), Blk p.wd (w.heap.size) 48 #[.int .i64 ax, .int .i64 ay, .int .i64 bx, .int .i64 bz] := fun p => (hb0.alloc _).kept p
  have q0 := fun p => (hk0 p).cell 0
  have q1 := fun p => (hk0 p).cell 1
  have q2 := fun p => (hk0 p).cell 2
  have q3 := fun p => (hk0 p).cell 3
  have hk1 : ∀ p : KeptW ((w.alloc (.cells #[.int .i64 ax, .int .i64 ay, .int .i64 bx, .int .i64 bz] 48)).alloc (.cells #[.int .i64 px, .int .i64 py] 23)), Blk p.wd (w.heap.size + 1) 23 #[.int .i64 px, .int .i64 py] := fun p => hb1.kept p
  have q4 := fun p => (hk1 p).cell 0
  have q5 := fun p => (hk1 p).cell 1
  skip
  clear hb0 hk0 hb1 hk1
  obtain ⟨z, hz⟩ : ∃ z, decide (r ≤ 0) = z := ⟨_, rfl⟩
  obtain ⟨y, hy⟩ : ∃ y, (t == 0) = y := ⟨_, rfl⟩
  cases y
  · go_enter Try.func105, Try.ntmps105
    go_wp2_with fail
    refine wp_region_kept (Kp.refl _ _) (by assumption) (by kernel_rfl) ?_
    repeat (with_reducible refine wpQuiet_step (fun K hK => ?_); go_simp; first | ((with_reducible refine hK _ ?_); clear hK K) | (with_reducible apply Exists.intro; (with_reducible refine ⟨fun _ => ?_, hK _ ?_⟩); ((first | (go_at_call 36; with_reducible exact Calls.kept_of (ct _)) | (go_at_call 24; with_reducible exact Calls.kept_of (c1 _)) | (go_at_call 24; with_reducible exact Calls.kept_of (c2 _)) | (go_at_call 30; with_reducible exact Calls.kept_of (cd _)) | fail)); clear hK K))
    with_reducible refine wpQuiet_nil ?_
    rintro _ ⟨p, rfl⟩
    go_wp2
    go_ret
    exact ⟨by simp [hy, hz], ((nw_alloc _ _).alloc _).tr p.since⟩
  · go_enter Try.func105, Try.ntmps105
    go_wp2_with fail
    refine wp_region_kept (Kp.refl _ _) (by assumption) (by kernel_rfl) ?_
    repeat (with_reducible refine wpQuiet_step (fun K hK => ?_); go_simp; first | ((with_reducible refine hK _ ?_); clear hK K) | (with_reducible apply Exists.intro; (with_reducible refine ⟨fun _ => ?_, hK _ ?_⟩); ((first | (go_at_call 36; with_reducible exact Calls.kept_of (ct _)) | (go_at_call 24; with_reducible exact Calls.kept_of (c1 _)) | (go_at_call 24; with_reducible exact Calls.kept_of (c2 _)) | (go_at_call 30; with_reducible exact Calls.kept_of (cd _)) | fail)); clear hK K))
    with_reducible refine wpQuiet_nil ?_
    rintro _ ⟨p, rfl⟩
    go_wp2
    go_ret
    exact ⟨by simp [hy, hz], ((nw_alloc _ _).alloc _).tr p.since⟩

set_option maxHeartbeats 1600000 in
theorem parts_any (ax ay bx bz cx cy dx dy : Int) (w : World) : Calls Try.prog 141 #[sV ax ay bx bz, sV cx cy dx dy] w fun e w' => e = .returned (.bool (partS ax ay bx bz cx cy dx dy)) ∧ Nw w w' := by
  have c1 := fun w1 => turn_any ax ay bx bz cx cy w1
  have c2 := fun w1 => turn_any ax ay bx bz dx dy w1
  have hm := mul_turn (turn_range ax ay bx bz cx cy) (turn_range ax ay bx bz dx dy)
  unfold partS
  generalize turnV ax ay bx bz cx cy = t at *
  generalize turnV ax ay bx bz dx dy = u at *
  have hmix := mixed7
  have hb0 := Blk.new_at w 48 #[.int .i64 ax, .int .i64 ay, .int .i64 bx, .int .i64 bz] (n := w.heap.size) (by simp)
  have hb1 := Blk.new_at (w.alloc (.cells #[.int .i64 ax, .int .i64 ay, .int .i64 bx, .int .i64 bz] 48)) 48 #[.int .i64 cx, .int .i64 cy, .int .i64 dx, .int .i64 dy] (n := w.heap.size + 1) (by simp)
  have hk0 : ∀ p : KeptW ((w.alloc (.cells #[.int .i64 ax, .int .i64 ay, .int .i64 bx, .int .i64 bz] 48)).alloc (.cells #[.int .i64 cx, .int .i64 cy, .int .i64 dx, .int .i64 dy] 48)), Blk p.wd (w.heap.size) 48 #[.int .i64 ax, .int .i64 ay, .int .i64 bx, .int .i64 bz] := fun p => (hb0.alloc _).kept p
  have q0 := fun p => (hk0 p).cell 0
  have q1 := fun p => (hk0 p).cell 1
  have q2 := fun p => (hk0 p).cell 2
  have q3 := fun p => (hk0 p).cell 3
  have hk1 : ∀ p : KeptW ((w.alloc (.cells #[.int .i64 ax, .int .i64 ay, .int .i64 bx, .int .i64 bz] 48)).alloc (.cells #[.int .i64 cx, .int .i64 cy, .int .i64 dx, .int .i64 dy] 48)), Blk p.wd (w.heap.size + 1) 48 #[.int .i64 cx, .int .i64 cy, .int .i64 dx, .int .i64 dy] := fun p => hb1.kept p
  have q4 := fun p => (hk1 p).cell 0
  have q5 := fun p => (hk1 p).cell 1
  have q6 := fun p => (hk1 p).cell 2
  have q7 := fun p => (hk1 p).cell 3
  skip
  clear hb0 hk0 hb1 hk1
  go_enter Try.func141, Try.ntmps141
  go_wp2_with fail
  refine wp_region_kept (Kp.refl _ _) (by assumption) (by kernel_rfl) ?_
  repeat (with_reducible refine wpQuiet_step (fun K hK => ?_); go_simp; first | ((with_reducible refine hK _ ?_); clear hK K) | (with_reducible apply Exists.intro; (with_reducible refine ⟨fun _ => ?_, hK _ ?_⟩); ((first | (go_at_call 36; with_reducible exact Calls.kept_of (c1 _)) | (go_at_call 36; with_reducible exact Calls.kept_of (c2 _)) | fail)); clear hK K))
  with_reducible refine wpQuiet_nil ?_
  rintro _ ⟨p, rfl⟩
  go_wp2
  go_ret
  exact ⟨rfl, ((nw_alloc _ _).alloc _).tr p.since⟩

set_option maxHeartbeats 1600000 in
theorem on_any (ax ay bx bz px py : Int) (w : World) : Calls Try.prog 62 #[sV ax ay bx bz, vV px py] w fun e w' => e = .returned (.bool (onS ax ay bx bz px py)) ∧ Nw w w' := by
  have c1 := fun w1 => valid_any ax ay bx bz w1
  have c2 := fun w1 => within_any px py 4000 w1
  have c3 := fun w1 => contains_any ax ay bx bz px py w1
  unfold onS
  generalize validS ax ay bx bz = a at *
  generalize withinV px py 4000 = b at *
  generalize conS ax ay bx bz px py = c at *
  have hb0 := Blk.new_at w 48 #[.int .i64 ax, .int .i64 ay, .int .i64 bx, .int .i64 bz] (n := w.heap.size) (by simp)
  have hb1 := Blk.new_at (w.alloc (.cells #[.int .i64 ax, .int .i64 ay, .int .i64 bx, .int .i64 bz] 48)) 23 #[.int .i64 px, .int .i64 py] (n := w.heap.size + 1) (by simp)
  have hk0 : ∀ p : KeptW ((w.alloc (.cells #[.int .i64 ax, .int .i64 ay, .int .i64 bx, .int .i64 bz] 48)).alloc (.cells #[.int .i64 px, .int .i64 py] 23)), Blk p.wd (w.heap.size) 48 #[.int .i64 ax, .int .i64 ay, .int .i64 bx, .int .i64 bz] := fun p => (hb0.alloc _).kept p
  have q0 := fun p => (hk0 p).cell 0
  have q1 := fun p => (hk0 p).cell 1
  have q2 := fun p => (hk0 p).cell 2
  have q3 := fun p => (hk0 p).cell 3
  have hk1 : ∀ p : KeptW ((w.alloc (.cells #[.int .i64 ax, .int .i64 ay, .int .i64 bx, .int .i64 bz] 48)).alloc (.cells #[.int .i64 px, .int .i64 py] 23)), Blk p.wd (w.heap.size + 1) 23 #[.int .i64 px, .int .i64 py] := fun p => hb1.kept p
  have q4 := fun p => (hk1 p).cell 0
  have q5 := fun p => (hk1 p).cell 1
  skip
  clear hb0 hk0 hb1 hk1
  cases a
  · go_enter Try.func62, Try.ntmps62
    go_wp2_with (first | (go_at_call 56; ((with_reducible refine (Calls.kept_first (c1 _)).mono ?_); rintro e _ ⟨rfl, p, rfl⟩)) | fail)
    go_ret
    exact ⟨by simp, ((nw_alloc _ _).alloc _).tr p.since⟩
  · cases b
    · go_enter Try.func62, Try.ntmps62
      go_wp2_with (first | (go_at_call 56; ((with_reducible refine (Calls.kept_first (c1 _)).mono ?_); rintro e _ ⟨rfl, p, rfl⟩)) | (go_at_call 42; ((with_reducible refine (Calls.kept_of (c2 _)).mono ?_); rintro e _ ⟨rfl, p, rfl⟩)) | (go_at_call 105; ((with_reducible refine (Calls.kept_of (c3 _)).mono ?_); rintro e _ ⟨rfl, p, rfl⟩)) | fail)
      go_ret
      exact ⟨by simp, ((nw_alloc _ _).alloc _).tr p.since⟩
    · go_enter Try.func62, Try.ntmps62
      go_wp2_with (first | (go_at_call 56; ((with_reducible refine (Calls.kept_first (c1 _)).mono ?_); rintro e _ ⟨rfl, p, rfl⟩)) | (go_at_call 42; ((with_reducible refine (Calls.kept_of (c2 _)).mono ?_); rintro e _ ⟨rfl, p, rfl⟩)) | (go_at_call 105; ((with_reducible refine (Calls.kept_of (c3 _)).mono ?_); rintro e _ ⟨rfl, p, rfl⟩)) | fail)
      go_ret
      exact ⟨by simp, ((nw_alloc _ _).alloc _).tr p.since⟩

set_option maxHeartbeats 1600000 in
theorem side_any (ax ay bx bz px py : Int) (w : World) : Calls Try.prog 64 #[sV ax ay bx bz, vV px py] w fun e w' => e = .returned (.int .i64 (sideS ax ay bx bz px py)) ∧ Nw w w' := by
  have c1 := fun w1 => valid_any ax ay bx bz w1
  have c2 := fun w1 => within_any px py 4000 w1
  have c3 := fun w1 => turn_any ax ay bx bz px py w1
  unfold sideS
  generalize validS ax ay bx bz = a at *
  generalize withinV px py 4000 = b at *
  generalize turnV ax ay bx bz px py = c at *
  have hb0 := Blk.new_at w 48 #[.int .i64 ax, .int .i64 ay, .int .i64 bx, .int .i64 bz] (n := w.heap.size) (by simp)
  have hb1 := Blk.new_at (w.alloc (.cells #[.int .i64 ax, .int .i64 ay, .int .i64 bx, .int .i64 bz] 48)) 23 #[.int .i64 px, .int .i64 py] (n := w.heap.size + 1) (by simp)
  have hk0 : ∀ p : KeptW ((w.alloc (.cells #[.int .i64 ax, .int .i64 ay, .int .i64 bx, .int .i64 bz] 48)).alloc (.cells #[.int .i64 px, .int .i64 py] 23)), Blk p.wd (w.heap.size) 48 #[.int .i64 ax, .int .i64 ay, .int .i64 bx, .int .i64 bz] := fun p => (hb0.alloc _).kept p
  have q0 := fun p => (hk0 p).cell 0
  have q1 := fun p => (hk0 p).cell 1
  have q2 := fun p => (hk0 p).cell 2
  have q3 := fun p => (hk0 p).cell 3
  have hk1 : ∀ p : KeptW ((w.alloc (.cells #[.int .i64 ax, .int .i64 ay, .int .i64 bx, .int .i64 bz] 48)).alloc (.cells #[.int .i64 px, .int .i64 py] 23)), Blk p.wd (w.heap.size + 1) 23 #[.int .i64 px, .int .i64 py] := fun p => hb1.kept p
  have q4 := fun p => (hk1 p).cell 0
  have q5 := fun p => (hk1 p).cell 1
  skip
  clear hb0 hk0 hb1 hk1
  cases a
  · go_enter Try.func64, Try.ntmps64
    go_wp2_with (first | (go_at_call 56; ((with_reducible refine (Calls.kept_first (c1 _)).mono ?_); rintro e _ ⟨rfl, p, rfl⟩)) | fail)
    go_ret
    exact ⟨by simp, ((nw_alloc _ _).alloc _).tr p.since⟩
  · cases b
    · go_enter Try.func64, Try.ntmps64
      go_wp2_with (first | (go_at_call 56; ((with_reducible refine (Calls.kept_first (c1 _)).mono ?_); rintro e _ ⟨rfl, p, rfl⟩)) | (go_at_call 42; ((with_reducible refine (Calls.kept_of (c2 _)).mono ?_); rintro e _ ⟨rfl, p, rfl⟩)) | (go_at_call 36; ((with_reducible refine (Calls.kept_of (c3 _)).mono ?_); rintro e _ ⟨rfl, p, rfl⟩)) | fail)
      go_ret
      exact ⟨by simp, ((nw_alloc _ _).alloc _).tr p.since⟩
    · go_enter Try.func64, Try.ntmps64
      go_wp2_with (first | (go_at_call 56; ((with_reducible refine (Calls.kept_first (c1 _)).mono ?_); rintro e _ ⟨rfl, p, rfl⟩)) | (go_at_call 42; ((with_reducible refine (Calls.kept_of (c2 _)).mono ?_); rintro e _ ⟨rfl, p, rfl⟩)) | (go_at_call 36; ((with_reducible refine (Calls.kept_of (c3 _)).mono ?_); rintro e _ ⟨rfl, p, rfl⟩)) | fail)
      go_ret
      exact ⟨by simp, ((nw_alloc _ _).alloc _).tr p.since⟩

set_option maxHeartbeats 1600000 in
theorem rside_any (ax ay bx bz px py : Int) (w : World) : Calls Try.prog 65 #[sV ax ay bx bz, vV px py] w fun e w' => e = .returned (.int .i64 (sideS ax ay bx bz px py)) ∧ Nw w w' := by
  have c1 := fun w1 => rvalid_any ax ay bx bz w1
  have c2 := fun w1 => rwithin_any px py 4000 w1
  have c3 := fun w1 => rturn_any ax ay bx bz px py w1
  unfold sideS
  generalize validS ax ay bx bz = a at *
  generalize withinV px py 4000 = b at *
  generalize turnV ax ay bx bz px py = c at *
  have hb0 := Blk.new_at w 48 #[.int .i64 ax, .int .i64 ay, .int .i64 bx, .int .i64 bz] (n := w.heap.size) (by simp)
  have hb1 := Blk.new_at (w.alloc (.cells #[.int .i64 ax, .int .i64 ay, .int .i64 bx, .int .i64 bz] 48)) 23 #[.int .i64 px, .int .i64 py] (n := w.heap.size + 1) (by simp)
  have hk0 : ∀ p : KeptW ((w.alloc (.cells #[.int .i64 ax, .int .i64 ay, .int .i64 bx, .int .i64 bz] 48)).alloc (.cells #[.int .i64 px, .int .i64 py] 23)), Blk p.wd (w.heap.size) 48 #[.int .i64 ax, .int .i64 ay, .int .i64 bx, .int .i64 bz] := fun p => (hb0.alloc _).kept p
  have q0 := fun p => (hk0 p).cell 0
  have q1 := fun p => (hk0 p).cell 1
  have q2 := fun p => (hk0 p).cell 2
  have q3 := fun p => (hk0 p).cell 3
  have hk1 : ∀ p : KeptW ((w.alloc (.cells #[.int .i64 ax, .int .i64 ay, .int .i64 bx, .int .i64 bz] 48)).alloc (.cells #[.int .i64 px, .int .i64 py] 23)), Blk p.wd (w.heap.size + 1) 23 #[.int .i64 px, .int .i64 py] := fun p => hb1.kept p
  have q4 := fun p => (hk1 p).cell 0
  have q5 := fun p => (hk1 p).cell 1
  skip
  clear hb0 hk0 hb1 hk1
  cases a
  · go_enter Try.func65, Try.ntmps65
    go_wp2_with (first | (go_at_call 57; ((with_reducible refine (Calls.kept_first (c1 _)).mono ?_); rintro e _ ⟨rfl, p, rfl⟩)) | fail)
    go_ret
    exact ⟨by simp, ((nw_alloc _ _).alloc _).tr p.since⟩
  · cases b
    · go_enter Try.func65, Try.ntmps65
      go_wp2_with (first | (go_at_call 57; ((with_reducible refine (Calls.kept_first (c1 _)).mono ?_); rintro e _ ⟨rfl, p, rfl⟩)) | (go_at_call 43; ((with_reducible refine (Calls.kept_of (c2 _)).mono ?_); rintro e _ ⟨rfl, p, rfl⟩)) | (go_at_call 37; ((with_reducible refine (Calls.kept_of (c3 _)).mono ?_); rintro e _ ⟨rfl, p, rfl⟩)) | fail)
      go_ret
      exact ⟨by simp, ((nw_alloc _ _).alloc _).tr p.since⟩
    · go_enter Try.func65, Try.ntmps65
      go_wp2_with (first | (go_at_call 57; ((with_reducible refine (Calls.kept_first (c1 _)).mono ?_); rintro e _ ⟨rfl, p, rfl⟩)) | (go_at_call 43; ((with_reducible refine (Calls.kept_of (c2 _)).mono ?_); rintro e _ ⟨rfl, p, rfl⟩)) | (go_at_call 37; ((with_reducible refine (Calls.kept_of (c3 _)).mono ?_); rintro e _ ⟨rfl, p, rfl⟩)) | fail)
      go_ret
      exact ⟨by simp, ((nw_alloc _ _).alloc _).tr p.since⟩

end Go.Proofs.Ytahamffngmdjfaa.W
