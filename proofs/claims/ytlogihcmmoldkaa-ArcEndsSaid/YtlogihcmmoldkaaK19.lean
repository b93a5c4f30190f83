/-
  seg and its reference: valid segments, points on them and beside them: what each function returns. No condition.
  seg, plain: the ends that lie on both segments, the least and the greatest one of them. No condition.
  What == says of two vectors, boxes, segments and points. No condition.
-/
import Derived.Test.YtlogihcmmoldkaaK05
import Derived.Test.YtlogihcmmoldkaaK13
import Derived.Laws.StructEq
namespace Go.Proofs.Ytlogihcmmoldkaa.W
open Go.RowKit Go.Proofs.Ytlogihcmmoldkaa.V

def validS (ax ay bx bz : Int) : Bool := withinV ax ay 4000 && withinV bx bz 4000
def conS (ax ay bx bz px py : Int) : Bool := (turnV ax ay bx bz px py == 0) && decide (dotV (w64 (ax - px)) (w64 (ay - py)) (w64 (bx - px)) (w64 (bz - py)) ≤ 0)
def partS (ax ay bx bz cx cy dx dy : Int) : Bool := decide (turnV ax ay bx bz cx cy * turnV ax ay bx bz dx dy < 0)
def onS (ax ay bx bz px py : Int) : Bool := validS ax ay bx bz && withinV px py 4000 && conS ax ay bx bz px py
def sideS (ax ay bx bz px py : Int) : Int := if validS ax ay bx bz && withinV px py 4000 then turnV ax ay bx bz px py else 0
theorem mul_turn {t u : Int} (h : -1 ≤ t ∧ t ≤ 1) (g : -1 ≤ u ∧ u ≤ 1) : IntKind.i64.wrap (t * u) = t * u := by
  rcases (show t = -1 ∨ t = 0 ∨ t = 1 by omega) with rfl | rfl | rfl <;> rcases (show u = -1 ∨ u = 0 ∨ u = 1 by omega) with rfl | rfl | rfl <;> decide +kernel

set_option maxHeartbeats 800000 in
theorem valid_any (ax ay bx bz : Int) (w : World) : Calls Try.prog 90 #[sV ax ay bx bz] w fun e w' => e = .returned (.bool (validS ax ay bx bz)) ∧ Nw w w' := by
  have c1 := fun w1 => within_any ax ay 4000 w1
  have c2 := fun w1 => within_any bx bz 4000 w1
  unfold validS
  generalize withinV ax ay 4000 = a at *
  generalize withinV bx bz 4000 = b at *
  have hb0 := Blk.new_at w 76 #[.int .i64 ax, .int .i64 ay, .int .i64 bx, .int .i64 bz] (n := w.heap.size) (by simp)
  have hk0 : ∀ p : KeptW (w.alloc (.cells #[.int .i64 ax, .int .i64 ay, .int .i64 bx, .int .i64 bz] 76)), Blk p.wd (w.heap.size) 76 #[.int .i64 ax, .int .i64 ay, .int .i64 bx, .int .i64 bz] := fun p => hb0.kept p
  have q0 := fun p => (hk0 p).cell 0
  have q1 := fun p => (hk0 p).cell 1
  have q2 := fun p => (hk0 p).cell 2
  have q3 := fun p => (hk0 p).cell 3
  skip
  clear hb0 hk0
  cases a
  · go_enter Try.func90, Try.ntmps90
    go_wp2_with (first | (go_at_call 31; ((with_reducible refine (Calls.kept_first (c1 _)).mono ?_); rintro e _ ⟨rfl, p, rfl⟩)) | (go_at_call 31; ((with_reducible refine (Calls.kept_of (c2 _)).mono ?_); rintro e _ ⟨rfl, p, rfl⟩)) | fail)
    go_ret
    exact ⟨by simp, ((nw_alloc _ _)).tr p.since⟩
  · go_enter Try.func90, Try.ntmps90
    go_wp2_with (first | (go_at_call 31; ((with_reducible refine (Calls.kept_first (c1 _)).mono ?_); rintro e _ ⟨rfl, p, rfl⟩)) | (go_at_call 31; ((with_reducible refine (Calls.kept_of (c2 _)).mono ?_); rintro e _ ⟨rfl, p, rfl⟩)) | fail)
    go_ret
    exact ⟨by simp, ((nw_alloc _ _)).tr p.since⟩

set_option maxHeartbeats 800000 in
theorem rvalid_any (ax ay bx bz : Int) (w : World) : Calls Try.prog 83 #[sV ax ay bx bz] w fun e w' => e = .returned (.bool (validS ax ay bx bz)) ∧ Nw w w' := by
  have c1 := fun w1 => rwithin_any ax ay 4000 w1
  have c2 := fun w1 => rwithin_any bx bz 4000 w1
  unfold validS
  generalize withinV ax ay 4000 = a at *
  generalize withinV bx bz 4000 = b at *
  have hb0 := Blk.new_at w 76 #[.int .i64 ax, .int .i64 ay, .int .i64 bx, .int .i64 bz] (n := w.heap.size) (by simp)
  have hk0 : ∀ p : KeptW (w.alloc (.cells #[.int .i64 ax, .int .i64 ay, .int .i64 bx, .int .i64 bz] 76)), Blk p.wd (w.heap.size) 76 #[.int .i64 ax, .int .i64 ay, .int .i64 bx, .int .i64 bz] := fun p => hb0.kept p
  have q0 := fun p => (hk0 p).cell 0
  have q1 := fun p => (hk0 p).cell 1
  have q2 := fun p => (hk0 p).cell 2
  have q3 := fun p => (hk0 p).cell 3
  skip
  clear hb0 hk0
  cases a
  · go_enter Try.func83, Try.ntmps83
    go_wp2_with (first | (go_at_call 24; ((with_reducible refine (Calls.kept_first (c1 _)).mono ?_); rintro e _ ⟨rfl, p, rfl⟩)) | (go_at_call 24; ((with_reducible refine (Calls.kept_of (c2 _)).mono ?_); rintro e _ ⟨rfl, p, rfl⟩)) | fail)
    go_ret
    exact ⟨by simp, ((nw_alloc _ _)).tr p.since⟩
  · go_enter Try.func83, Try.ntmps83
    go_wp2_with (first | (go_at_call 24; ((with_reducible refine (Calls.kept_first (c1 _)).mono ?_); rintro e _ ⟨rfl, p, rfl⟩)) | (go_at_call 24; ((with_reducible refine (Calls.kept_of (c2 _)).mono ?_); rintro e _ ⟨rfl, p, rfl⟩)) | fail)
    go_ret
    exact ⟨by simp, ((nw_alloc _ _)).tr p.since⟩

set_option maxHeartbeats 1600000 in
theorem contains_any (ax ay bx bz px py : Int) (w : World) : Calls Try.prog 93 #[sV ax ay bx bz, vV px py] w fun e w' => e = .returned (.bool (conS ax ay bx bz px py)) ∧ Nw w w' := by
  have ct := fun w1 => turn_any ax ay bx bz px py w1
  have c1 := fun w1 => sub_any ax ay px py w1
  have c2 := fun w1 => sub_any bx bz px py w1
  have cd := fun w1 => dot_any (w64 (ax - px)) (w64 (ay - py)) (w64 (bx - px)) (w64 (bz - py)) w1
  unfold conS
  generalize dotV (w64 (ax - px)) (w64 (ay - py)) (w64 (bx - px)) (w64 (bz - py)) = r at *
  generalize w64 (ax - px) = x1 at *
  generalize w64 (ay - py) = x2 at *
  generalize w64 (bx - px) = x3 at *
  generalize w64 (bz - py) = x4 at *
  generalize turnV ax ay bx bz px py = t at *
  have hmix := mixed7
  have hb0 := Blk.new_at w 76 #[.int .i64 ax, .int .i64 ay, .int .i64 bx, .int .i64 bz] (n := w.heap.size) (by simp)
  have hb1 := Blk.new_at (w.alloc (.cells #[.int .i64 ax, .int .i64 ay, .int .i64 bx, .int .i64 bz] 76)) 23 #[.int .i64 px, .int .i64 py] (n := w.heap.size + 1) (by simp)
  have hk0 : ∀ p : KeptW ((w.alloc (.cells #[.int .i64 ax, .int .i64 ay, .int .i64 bx, .int .i64 bz] 76)).alloc (.cells #[.int .i64 px, .int .i64 py] 23)), Blk p.wd (w.heap.size) 76 #[.int .i64 ax, .int .i64 ay, .int .i64 bx, .int .i64 bz] := fun p => (hb0.alloc _).kept p
  have q0 := fun p => (hk0 p).cell 0
  have q1 := fun p => (hk0 p).cell 1
  have q2 := fun p => (hk0 p).cell 2
  have q3 := fun p => (hk0 p).cell 3
  have hk1 : ∀ p : KeptW ((w.alloc (.cells #[.int .i64 ax, .int .i64 ay, .int .i64 bx, .int .i64 bz] 76)).alloc (.cells #[.int .i64 px, .int .i64 py] 23)), Blk p.wd (w.heap.size + 1) 23 #[.int .i64 px, .int .i64 py] := fun p => hb1.kept p
  have q4 := fun p => (hk1 p).cell 0
  have q5 := fun p => (hk1 p).cell 1
  skip
  clear hb0 hk0 hb1 hk1
  obtain ⟨z, hz⟩ : ∃ z, decide (r ≤ 0) = z := ⟨_, rfl⟩
  obtain ⟨y, hy⟩ : ∃ y, (t == 0) = y := ⟨_, rfl⟩
  cases y
  · go_enter Try.func93, Try.ntmps93
    go_wp2_with fail
    refine wp_region_kept (Kp.refl _ _) (by assumption) (by kernel_rfl) ?_
    repeat (with_reducible refine wpQuiet_step (fun K hK => ?_); go_simp; first | ((with_reducible refine hK _ ?_); clear hK K) | (with_reducible apply Exists.intro; (with_reducible refine ⟨fun _ => ?_, hK _ ?_⟩); ((first | (go_at_call 75; with_reducible exact Calls.kept_of (ct _)) | (go_at_call 26; with_reducible exact Calls.kept_of (c1 _)) | (go_at_call 26; with_reducible exact Calls.kept_of (c2 _)) | (go_at_call 32; with_reducible exact Calls.kept_of (cd _)) | fail)); clear hK K))
    with_reducible refine wpQuiet_nil ?_
    rintro _ ⟨p, rfl⟩
    go_wp2
    go_ret
    exact ⟨by simp [hy, hz], ((nw_alloc _ _).alloc _).tr p.since⟩
  · go_enter Try.func93, Try.ntmps93
    go_wp2_with fail
    refine wp_region_kept (Kp.refl _ _) (by assumption) (by kernel_rfl) ?_
    repeat (with_reducible refine wpQuiet_step (fun K hK => ?_); go_simp; first | ((with_reducible refine hK _ ?_); clear hK K) | (with_reducible apply Exists.intro; (with_reducible refine ⟨fun _ => ?_, hK _ ?_⟩); ((first | (go_at_call 75; with_reducible exact Calls.kept_of (ct _)) | (go_at_call 26; with_reducible exact Calls.kept_of (c1 _)) | (go_at_call 26; with_reducible exact Calls.kept_of (c2 _)) | (go_at_call 32; with_reducible exact Calls.kept_of (cd _)) | fail)); clear hK K))
    with_reducible refine wpQuiet_nil ?_
    rintro _ ⟨p, rfl⟩
    go_wp2
    go_ret
    exact ⟨by simp [hy, hz], ((nw_alloc _ _).alloc _).tr p.since⟩

set_option maxHeartbeats 1600000 in
theorem parts_any (ax ay bx bz cx cy dx dy : Int) (w : World) : Calls Try.prog 92 #[sV ax ay bx bz, sV cx cy dx dy] w fun e w' => e = .returned (.bool (partS ax ay bx bz cx cy dx dy)) ∧ Nw w w' := by
  have c1 := fun w1 => turn_any ax ay bx bz cx cy w1
  have c2 := fun w1 => turn_any ax ay bx bz dx dy w1
  have hm := mul_turn (turn_range ax ay bx bz cx cy) (turn_range ax ay bx bz dx dy)
  unfold partS
  generalize turnV ax ay bx bz cx cy = t at *
  generalize turnV ax ay bx bz dx dy = u at *
  have hmix := mixed7
  have hb0 := Blk.new_at w 76 #[.int .i64 ax, .int .i64 ay, .int .i64 bx, .int .i64 bz] (n := w.heap.size) (by simp)
  have hb1 := Blk.new_at (w.alloc (.cells #[.int .i64 ax, .int .i64 ay, .int .i64 bx, .int .i64 bz] 76)) 76 #[.int .i64 cx, .int .i64 cy, .int .i64 dx, .int .i64 dy] (n := w.heap.size + 1) (by simp)
  have hk0 : ∀ p : KeptW ((w.alloc (.cells #[.int .i64 ax, .int .i64 ay, .int .i64 bx, .int .i64 bz] 76)).alloc (.cells #[.int .i64 cx, .int .i64 cy, .int .i64 dx, .int .i64 dy] 76)), Blk p.wd (w.heap.size) 76 #[.int .i64 ax, .int .i64 ay, .int .i64 bx, .int .i64 bz] := fun p => (hb0.alloc _).kept p
  have q0 := fun p => (hk0 p).cell 0
  have q1 := fun p => (hk0 p).cell 1
  have q2 := fun p => (hk0 p).cell 2
  have q3 := fun p => (hk0 p).cell 3
  have hk1 : ∀ p : KeptW ((w.alloc (.cells #[.int .i64 ax, .int .i64 ay, .int .i64 bx, .int .i64 bz] 76)).alloc (.cells #[.int .i64 cx, .int .i64 cy, .int .i64 dx, .int .i64 dy] 76)), Blk p.wd (w.heap.size + 1) 76 #[.int .i64 cx, .int .i64 cy, .int .i64 dx, .int .i64 dy] := fun p => hb1.kept p
  have q4 := fun p => (hk1 p).cell 0
  have q5 := fun p => (hk1 p).cell 1
  have q6 := fun p => (hk1 p).cell 2
  have q7 := fun p => (hk1 p).cell 3
  skip
  clear hb0 hk0 hb1 hk1
  go_enter Try.func92, Try.ntmps92
  go_wp2_with fail
  refine wp_region_kept (Kp.refl _ _) (by assumption) (by kernel_rfl) ?_
  repeat (with_reducible refine wpQuiet_step (fun K hK => ?_); go_simp; first | ((with_reducible refine hK _ ?_); clear hK K) | (with_reducible apply Exists.intro; (with_reducible refine ⟨fun _ => ?_, hK _ ?_⟩); ((first | (go_at_call 75; with_reducible exact Calls.kept_of (c1 _)) | (go_at_call 75; with_reducible exact Calls.kept_of (c2 _)) | fail)); clear hK K))
  with_reducible refine wpQuiet_nil ?_
  rintro _ ⟨p, rfl⟩
  go_wp2
  go_ret
  exact ⟨rfl, ((nw_alloc _ _).alloc _).tr p.since⟩

set_option maxHeartbeats 1600000 in
theorem rside_any (ax ay bx bz px py : Int) (w : World) : Calls Try.prog 85 #[sV ax ay bx bz, vV px py] w fun e w' => e = .returned (.int .i64 (sideS ax ay bx bz px py)) ∧ Nw w w' := by
  have c1 := fun w1 => rvalid_any ax ay bx bz w1
  have c2 := fun w1 => rwithin_any px py 4000 w1
  have c3 := fun w1 => rturn_any ax ay bx bz px py w1
  unfold sideS
  generalize validS ax ay bx bz = a at *
  generalize withinV px py 4000 = b at *
  generalize turnV ax ay bx bz px py = c at *
  have hb0 := Blk.new_at w 76 #[.int .i64 ax, .int .i64 ay, .int .i64 bx, .int .i64 bz] (n := w.heap.size) (by simp)
  have hb1 := Blk.new_at (w.alloc (.cells #[.int .i64 ax, .int .i64 ay, .int .i64 bx, .int .i64 bz] 76)) 23 #[.int .i64 px, .int .i64 py] (n := w.heap.size + 1) (by simp)
  have hk0 : ∀ p : KeptW ((w.alloc (.cells #[.int .i64 ax, .int .i64 ay, .int .i64 bx, .int .i64 bz] 76)).alloc (.cells #[.int .i64 px, .int .i64 py] 23)), Blk p.wd (w.heap.size) 76 #[.int .i64 ax, .int .i64 ay, .int .i64 bx, .int .i64 bz] := fun p => (hb0.alloc _).kept p
  have q0 := fun p => (hk0 p).cell 0
  have q1 := fun p => (hk0 p).cell 1
  have q2 := fun p => (hk0 p).cell 2
  have q3 := fun p => (hk0 p).cell 3
  have hk1 : ∀ p : KeptW ((w.alloc (.cells #[.int .i64 ax, .int .i64 ay, .int .i64 bx, .int .i64 bz] 76)).alloc (.cells #[.int .i64 px, .int .i64 py] 23)), Blk p.wd (w.heap.size + 1) 23 #[.int .i64 px, .int .i64 py] := fun p => hb1.kept p
  have q4 := fun p => (hk1 p).cell 0
  have q5 := fun p => (hk1 p).cell 1
  skip
  clear hb0 hk0 hb1 hk1
  cases a
  · go_enter Try.func85, Try.ntmps85
    go_wp2_with (first | (go_at_call 83; ((with_reducible refine (Calls.kept_first (c1 _)).mono ?_); rintro e _ ⟨rfl, p, rfl⟩)) | fail)
    go_ret
    exact ⟨by simp, ((nw_alloc _ _).alloc _).tr p.since⟩
  · cases b
    · go_enter Try.func85, Try.ntmps85
      go_wp2_with (first | (go_at_call 83; ((with_reducible refine (Calls.kept_first (c1 _)).mono ?_); rintro e _ ⟨rfl, p, rfl⟩)) | (go_at_call 24; ((with_reducible refine (Calls.kept_of (c2 _)).mono ?_); rintro e _ ⟨rfl, p, rfl⟩)) | (go_at_call 70; ((with_reducible refine (Calls.kept_of (c3 _)).mono ?_); rintro e _ ⟨rfl, p, rfl⟩)) | fail)
      go_ret
      exact ⟨by simp, ((nw_alloc _ _).alloc _).tr p.since⟩
    · go_enter Try.func85, Try.ntmps85
      go_wp2_with (first | (go_at_call 83; ((with_reducible refine (Calls.kept_first (c1 _)).mono ?_); rintro e _ ⟨rfl, p, rfl⟩)) | (go_at_call 24; ((with_reducible refine (Calls.kept_of (c2 _)).mono ?_); rintro e _ ⟨rfl, p, rfl⟩)) | (go_at_call 70; ((with_reducible refine (Calls.kept_of (c3 _)).mono ?_); rintro e _ ⟨rfl, p, rfl⟩)) | fail)
      go_ret
      exact ⟨by simp, ((nw_alloc _ _).alloc _).tr p.since⟩

end Go.Proofs.Ytlogihcmmoldkaa.W

namespace Go.Proofs.Ytlogihcmmoldkaa.W
open Go.RowKit Go.Proofs.Ytlogihcmmoldkaa.V

def firstV : List (Int × Int) → Int × Int
  | [] => (0, 0)
  | x :: _ => x
def lastV (L : List (Int × Int)) : Int × Int := L.getLast?.getD (0, 0)
theorem lastV_is : ∀ {L : List (Int × Int)}, Asc L → L ≠ [] → lastV L ∈ L ∧ ∀ z ∈ L, z = lastV L ∨ ltV z (lastV L)
  | [], _, h => absurd rfl h
  | [x], _, _ => ⟨by simp [lastV], fun z hz => .inl (by simpa [lastV] using hz)⟩
  | x :: y :: r, h, _ => by
    obtain ⟨h1, h2⟩ := List.pairwise_cons.1 h
    obtain ⟨i1, i2⟩ := lastV_is h2 (by simp)
    have e : lastV (x :: y :: r) = lastV (y :: r) := by simp [lastV, List.getLast?_cons_cons]
    rw [e]
    refine ⟨List.mem_cons_of_mem _ i1, fun z hz => ?_⟩
    rcases List.mem_cons.1 hz with rfl | hz
    · exact .inr (h1 _ i1)
    · exact i2 z hz
theorem last_unique {L : List (Int × Int)} {m n : Int × Int} (hm : m ∈ L ∧ ∀ z ∈ L, z = m ∨ ltV z m) (hn : n ∈ L ∧ ∀ z ∈ L, z = n ∨ ltV z n) : m = n := by
  rcases hm.2 n hn.1 with h | h
  · exact h.symm
  · rcases hn.2 m hm.1 with g | g
    · exact g
    · exact absurd (ltV_trans h g) (ltV_irrefl _)
theorem insU_ne (L : List (Int × Int)) (x : Int × Int) : insU L x ≠ [] := by
  intro h
  have := (insU_mem L x x).2 (.inl rfl)
  rw [h] at this
  cases this
theorem first_ins (L : List (Int × Int)) (x : Int × Int) : firstV (insU L x) = if L = [] ∨ ltV x (firstV L) then x else firstV L := by
  cases L with
  | nil => simp [insU, place, firstV]
  | cons y r =>
    rw [insU_cons]
    show firstV _ = if (y :: r = []) ∨ ltV x y then x else y
    rcases ltV_tri x y with h | h | h
    · rw [if_neg (fun k => ltV_irrefl x (ltV_trans h k)), if_neg (fun e => ltV_irrefl x (by rw [e] at h; exact h)), if_pos (.inr h)]
      rfl
    · subst h
      rw [if_neg (ltV_irrefl x), if_pos rfl]
      simp [firstV]
    · rw [if_pos h, if_neg (by rintro (k | k); cases k; exact ltV_irrefl x (ltV_trans k h))]
      rfl
theorem last_ins {L : List (Int × Int)} (hL : Asc L) (x : Int × Int) : lastV (insU L x) = if L = [] ∨ ltV (lastV L) x then x else lastV L := by
  have h := lastV_is (insU_asc L x hL) (insU_ne L x)
  by_cases h0 : L = []
  · subst h0
    simp [insU, place, lastV]
  · have g := lastV_is hL h0
    by_cases h1 : ltV (lastV L) x
    · rw [if_pos (.inr h1)]
      refine last_unique h ⟨(insU_mem L x x).2 (.inl rfl), fun z hz => ?_⟩
      rcases (insU_mem L x z).1 hz with e | e
      · exact .inl e
      · rcases g.2 z e with f | f
        · rw [f]; exact .inr h1
        · exact .inr (ltV_trans f h1)
    · rw [if_neg (by rintro (k | k); exact h0 k; exact h1 k)]
      refine last_unique h ⟨(insU_mem L x _).2 (.inr g.1), fun z hz => ?_⟩
      rcases (insU_mem L x z).1 hz with e | e
      · subst e
        rcases ltV_tri z (lastV L) with k | k | k
        · exact .inr k
        · exact .inl k
        · exact absurd k h1
      · exact g.2 z e
/-- the least one, the greatest one, and whether there is one -/
def shStep (s : (Int × Int) × (Int × Int) × Bool) (x : Int × Int) : (Int × Int) × (Int × Int) × Bool :=
  (if s.2.2 = false ∨ ltV x s.1 then x else s.1, if s.2.2 = false ∨ ltV s.2.1 x then x else s.2.1, true)
theorem sh_fold (xs : List (Int × Int)) : ∀ L, Asc L → xs.foldl shStep (firstV L, lastV L, !L.isEmpty) = (firstV (xs.foldl insU L), lastV (xs.foldl insU L), !(xs.foldl insU L).isEmpty) := by
  induction xs with
  | nil => intro L _; rfl
  | cons x r ih =>
    intro L hL
    rw [List.foldl_cons, List.foldl_cons, ← ih (insU L x) (insU_asc L x hL)]
    congr 1
    unfold shStep
    have e : (!(insU L x).isEmpty) = true := by
      have := insU_ne L x
      cases hx : insU L x with
      | nil => exact absurd hx this
      | cons => rfl
    have e' : (!L.isEmpty) = false ↔ L = [] := by cases L <;> simp
    rw [e, first_ins, last_ins hL]
    simp only [e']
def endsL (ax ay bx bz cx cy dx dy : Int) : List (Int × Int) := [(ax, ay), (bx, bz), (cx, cy), (dx, dy)]
def bothS (ax ay bx bz cx cy dx dy : Int) (p : Int × Int) : Bool := conS ax ay bx bz p.1 p.2 && conS cx cy dx dy p.1 p.2
def comS (ax ay bx bz cx cy dx dy : Int) : List (Int × Int) := insAll ((endsL ax ay bx bz cx cy dx dy).filter (bothS ax ay bx bz cx cy dx dy))
def sharedS (ax ay bx bz cx cy dx dy : Int) (k : Nat) : (Int × Int) × (Int × Int) × Bool := (((endsL ax ay bx bz cx cy dx dy).take k).filter (bothS ax ay bx bz cx cy dx dy)).foldl shStep ((0, 0), (0, 0), false)
theorem shared_end (ax ay bx bz cx cy dx dy : Int) : sharedS ax ay bx bz cx cy dx dy 4 = (firstV (comS ax ay bx bz cx cy dx dy), lastV (comS ax ay bx bz cx cy dx dy), !(comS ax ay bx bz cx cy dx dy).isEmpty) := sh_fold _ [] List.Pairwise.nil
theorem com_asc (ax ay bx bz cx cy dx dy : Int) : Asc (comS ax ay bx bz cx cy dx dy) := (fold_ins _ [] List.Pairwise.nil).1
theorem com_mem (ax ay bx bz cx cy dx dy : Int) (z : Int × Int) : z ∈ comS ax ay bx bz cx cy dx dy ↔ z ∈ endsL ax ay bx bz cx cy dx dy ∧ bothS ax ay bx bz cx cy dx dy z = true := by
  have := (fold_ins ((endsL ax ay bx bz cx cy dx dy).filter (bothS ax ay bx bz cx cy dx dy)) [] List.Pairwise.nil).2 z
  rw [List.mem_filter] at this
  unfold comS insAll
  simpa using this
theorem shared_step (ax ay bx bz cx cy dx dy : Int) (k : Nat) (x : Int × Int) (h : (endsL ax ay bx bz cx cy dx dy)[k]? = some x) : sharedS ax ay bx bz cx cy dx dy (k + 1) = if bothS ax ay bx bz cx cy dx dy x then shStep (sharedS ax ay bx bz cx cy dx dy k) x else sharedS ax ay bx bz cx cy dx dy k := by
  unfold sharedS
  rw [List.take_add_one, h, Option.toList_some, List.filter_append, List.foldl_append]
  cases hb : bothS ax ay bx bz cx cy dx dy x <;> simp [hb]
end Go.Proofs.Ytlogihcmmoldkaa.W

namespace Go.Proofs.Ytlogihcmmoldkaa.W
open Go.RowKit Go.Proofs.Ytlogihcmmoldkaa.V

theorem eql_seg (x1 x2 x3 x4 y1 y2 y3 y4 : Int) (w : World) : (binOp .eql 76 (.agg #[.int .i64 x1, .int .i64 x2, .int .i64 x3, .int .i64 x4]) (.agg #[.int .i64 y1, .int .i64 y2, .int .i64 y3, .int .i64 y4])).run Try.prog w = .ok (.bool ((x1 == y1 && x2 == y2) && (x3 == y3 && x4 == y4))) w := by
  have hS : Try.prog.underlying 76 = some (.struct (Try.prog.fieldsOf 76)) := by kernel_rfl
  have hp : Try.prog.stoodInHeld 76 = false := by kernel_rfl
  have s3 : Try.prog.cellsOf 23 = 2 := by kernel_rfl
  have s4 := Try.isAgg23
  rw [run_eql_struct, show (10000 : Nat) = 9999 + 1 from rfl, run_equalIn_agg w 9999 76 _ _ hS hp]
  simp only [Program.fieldsOf, Try.underlying76]
  go_simp
  by_cases h1 : x1 = y1 <;> by_cases h2 : x2 = y2 <;> by_cases h3 : x3 = y3 <;> by_cases h4 : x4 = y4 <;> simp [h1, h2, h3, h4]
theorem eql_vecg (x1 x2 y1 y2 : Int) (w : World) : (binOp .eql 23 (.agg #[.int .i64 x1, .int .i64 x2]) (.agg #[.int .i64 y1, .int .i64 y2])).run Try.prog w = .ok (.bool (x1 == y1 && x2 == y2)) w := by
  have u3 := Try.underlying3
  have a3 := Try.isAgg3
  have z3 := Try.sizeOf3
  have hS : Try.prog.underlying 23 = some (.struct (Try.prog.fieldsOf 23)) := by kernel_rfl
  have hp : Try.prog.stoodInHeld 23 = false := by kernel_rfl
  rw [run_eql_struct, show (10000 : Nat) = 9999 + 1 from rfl, run_equalIn_agg w 9999 23 _ _ hS hp]
  simp only [Program.fieldsOf, Try.underlying23]
  go_simp
  by_cases h1 : x1 = y1 <;> by_cases h2 : x2 = y2 <;> simp [h1, h2]
end Go.Proofs.Ytlogihcmmoldkaa.W
