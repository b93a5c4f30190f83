/-
  seg: At: the only point that two segments have in common. No condition.
  awake: the examples of layer 7 hold. No condition.
  The reference's On: what it returns; what contains says of small points. No condition for the call.
  SegCross: the call returns true. No condition.
-/
import Derived.Test.YtlogihcmmoldkaaK25
namespace Go.Proofs.Ytlogihcmmoldkaa.W
open Go.RowKit Go.Proofs.Ytlogihcmmoldkaa.V Go.Proofs.Ytlogihcmmoldkaa.G

theorem valid_lm {ax ay bx bz : Int} (h : validS ax ay bx bz = true) : Lm ax ay ∧ Lm bx bz := by
  unfold validS withinV at h
  rw [show w64 (-4000) = -4000 from w64_id ⟨by omega, by omega⟩] at h
  simp at h
  unfold Lm
  omega
theorem turn_lm {ax ay bx bz cx cy : Int} (ha : Lm ax ay) (hb : Lm bx bz) (hc : Lm cx cy) : turnV ax ay bx bz cx cy = sgn (crs ax ay bx bz cx cy) := by
  unfold Lm at ha hb hc
  unfold turnV crs
  have h1 := abs_le_mul (x := bx - ax) (y := cy - ay) (A := 8000) (B := 8000) (by omega) (by omega)
  have h2 := abs_le_mul (x := bz - ay) (y := cx - ax) (A := 8000) (B := 8000) (by omega) (by omega)
  rw [w64_id ⟨by omega, by omega⟩]
theorem part_lm {ax ay bx bz cx cy dx dy : Int} (ha : Lm ax ay) (hb : Lm bx bz) (hc : Lm cx cy) (hd : Lm dx dy) : partS ax ay bx bz cx cy dx dy = true ↔ Prt ax ay bx bz cx cy dx dy := by
  unfold partS Prt
  rw [turn_lm ha hb hc, turn_lm ha hb hd, decide_eq_true_eq]
  generalize crs ax ay bx bz cx cy = x
  generalize crs ax ay bx bz dx dy = y
  rcases sgn_cases x with ⟨h, e⟩ | ⟨h, e⟩ | ⟨h, e⟩ <;> rcases sgn_cases y with ⟨g, k⟩ | ⟨g, k⟩ | ⟨g, k⟩ <;> rw [e, k]
  · exact ⟨fun h' => absurd h' (by decide), fun h' => by have := Int.mul_pos_of_neg_of_neg h g; omega⟩
  · subst g; simp
  · exact ⟨fun _ => Int.mul_neg_of_neg_of_pos h g, fun _ => by decide⟩
  · subst h; simp
  · subst h; simp
  · subst h; simp
  · exact ⟨fun _ => Int.mul_neg_of_pos_of_neg h g, fun _ => by decide⟩
  · subst g; simp
  · exact ⟨fun h' => absurd h' (by decide), fun h' => by have := Int.mul_pos h g; omega⟩
theorem kind_two {ax ay bx bz cx cy dx dy : Int} (h : kindS ax ay bx bz cx cy dx dy = 2) : (Lm ax ay ∧ Lm bx bz) ∧ (Lm cx cy ∧ Lm dx dy) ∧ Prt ax ay bx bz cx cy dx dy ∧ Prt cx cy dx dy ax ay bx bz ∧ comS ax ay bx bz cx cy dx dy = [] := by
  unfold kindS at h
  split at h
  · rename_i hv
    simp only [Bool.and_eq_true] at hv
    have v1 := valid_lm hv.1
    have v2 := valid_lm hv.2
    split at h
    · rename_i he
      split at h
      · rename_i hp
        simp only [Bool.and_eq_true] at hp
        exact ⟨v1, v2, (part_lm v1.1 v1.2 v2.1 v2.2).1 hp.1, (part_lm v2.1 v2.2 v1.1 v1.2).1 hp.2, by simpa using he⟩
      · omega
    · split at h <;> omega
  · omega
def atS (ax ay bx bz cx cy dx dy : Int) : Int × Int × Int := if kindS ax ay bx bz cx cy dx dy = 1 then ((partsS ax ay bx bz cx cy dx dy).1.1, (partsS ax ay bx bz cx cy dx dy).1.2, 1) else if kindS ax ay bx bz cx cy dx dy = 2 then crossS ax ay bx bz cx cy dx dy else (0, 0, 0)
def atV (ax ay bx bz cx cy dx dy : Int) : Value := .tuple #[pV (atS ax ay bx bz cx cy dx dy).1 (atS ax ay bx bz cx cy dx dy).2.1 (atS ax ay bx bz cx cy dx dy).2.2, .bool (kindS ax ay bx bz cx cy dx dy == 1 || kindS ax ay bx bz cx cy dx dy == 2)]

end Go.Proofs.Ytlogihcmmoldkaa.W

namespace Go.Proofs.Ytlogihcmmoldkaa.W
open Go.RowKit Go.Proofs.Ytlogihcmmoldkaa.V Go.Proofs.Ytlogihcmmoldkaa.G

theorem aw_at : atV 0 0 2 2 0 1 1 0 = .tuple #[pV 1 1 2, .bool true] := by
  have h1 : kindS 0 0 2 2 0 1 1 0 = 2 := by decide +kernel
  have h2 : crossS 0 0 2 2 0 1 1 0 = (1, 1, 2) := by decide +kernel
  unfold atV atS
  rw [h1, h2]
  rfl
theorem aw_share : shareV 0 0 4 0 6 0 2 0 = .tuple #[sV 2 0 4 0, .bool true] := by
  have h1 : kindS 0 0 4 0 6 0 2 0 = 3 := by decide +kernel
  have h2 : partsS 0 0 4 0 6 0 2 0 = ((2, 0), (4, 0)) := by decide +kernel
  unfold shareV shareS
  rw [h1, h2]
  rfl
theorem aw_valid : validP 1 1 2 = true := by decide +kernel
end Go.Proofs.Ytlogihcmmoldkaa.W

namespace Go.Proofs.Ytlogihcmmoldkaa.W
open Go.RowKit Go.Proofs.Ytlogihcmmoldkaa.V Go.Proofs.Ytlogihcmmoldkaa.G

theorem con_lm {ax ay bx bz px py : Int} (ha : Lm ax ay) (hb : Lm bx bz) (hp : Lm px py) : conS ax ay bx bz px py = true ↔ On ax ay bx bz px py := by
  unfold conS On
  rw [turn_lm ha hb hp, Bool.and_eq_true, decide_eq_true_eq, beq_iff_eq, sgn_zero_iff]
  refine and_congr_right fun _ => ?_
  unfold dotV dotP
  unfold Lm at ha hb hp
  rw [w64_id (n := ax - px) ⟨by omega, by omega⟩, w64_id (n := ay - py) ⟨by omega, by omega⟩, w64_id (n := bx - px) ⟨by omega, by omega⟩, w64_id (n := bz - py) ⟨by omega, by omega⟩]
  have h1 := abs_le_mul (x := ax - px) (y := bx - px) (A := 8000) (B := 8000) (by omega) (by omega)
  have h2 := abs_le_mul (x := ay - py) (y := bz - py) (A := 8000) (B := 8000) (by omega) (by omega)
  rw [w64_id ⟨by omega, by omega⟩]
theorem within_lm {px py : Int} : withinV px py 4000 = true ↔ Lm px py := by
  unfold withinV
  rw [show w64 (-4000) = -4000 from w64_id ⟨by omega, by omega⟩]
  unfold Lm
  simp [and_assoc]
theorem on_valid {ax ay bx bz px py : Int} (h : validS ax ay bx bz = true) : onS ax ay bx bz px py = true ↔ Lm px py ∧ On ax ay bx bz px py := by
  obtain ⟨ha, hb⟩ := valid_lm h
  unfold onS
  rw [h, Bool.and_eq_true, Bool.true_and, within_lm]
  exact and_congr_right fun hp => con_lm ha hb hp
theorem on_boxS {ax ay bx bz px py : Int} (h : validS ax ay bx bz = true) : onS ax ay bx bz px py = (decide (min ax bx ≤ px) && decide (px ≤ max ax bx) && decide (min ay bz ≤ py) && decide (py ≤ max ay bz) && (turnV ax ay bx bz px py == 0)) := by
  obtain ⟨ha, hb⟩ := valid_lm h
  apply Bool.eq_iff_iff.2
  rw [on_valid h, on_box]
  simp only [Bool.and_eq_true, decide_eq_true_eq, beq_iff_eq]
  constructor
  · rintro ⟨hp, ⟨h1, h2, h3, h4⟩, h5⟩
    exact ⟨⟨⟨⟨h1, h2⟩, h3⟩, h4⟩, by rw [turn_lm ha hb hp, h5]; rfl⟩
  · rintro ⟨⟨⟨⟨h1, h2⟩, h3⟩, h4⟩, h5⟩
    have hp : Lm px py := by unfold Lm at *; omega
    rw [turn_lm ha hb hp, sgn_zero_iff] at h5
    exact ⟨hp, ⟨h1, h2, h3, h4⟩, h5⟩

set_option maxHeartbeats 3200000 in
theorem ron_any (ax ay bx bz px py : Int) (w : World) : Calls Try.prog 88 #[sV ax ay bx bz, vV px py] w fun e w' => e = .returned (.bool (onS ax ay bx bz px py)) ∧ Nw w w' := by
  have c1 := fun w1 => rvalid_any ax ay bx bz w1
  have c2 := fun w1 => rturn_any ax ay bx bz px py w1
  have hb0 := Blk.new_at w 76 #[.int .i64 ax, .int .i64 ay, .int .i64 bx, .int .i64 bz] (n := w.heap.size) (by simp)
  have hb1 := Blk.new_at (w.alloc (.cells #[.int .i64 ax, .int .i64 ay, .int .i64 bx, .int .i64 bz] 76)) 23 #[.int .i64 px, .int .i64 py] (n := w.heap.size + 1) (by simp)
  have hk0 : ∀ p : KeptW ((w.alloc (.cells #[.int .i64 ax, .int .i64 ay, .int .i64 bx, .int .i64 bz] 76)).alloc (.cells #[.int .i64 px, .int .i64 py] 23)), Blk p.wd (w.heap.size) 76 #[.int .i64 ax, .int .i64 ay, .int .i64 bx, .int .i64 bz] := fun p => (hb0.alloc _).kept p
  have q0 := fun p => (hk0 p).cell 0
  have q1 := fun p => (hk0 p).cell 1
  have q2 := fun p => (hk0 p).cell 2
  have q3 := fun p => (hk0 p).cell 3
  have hk1 : ∀ p : KeptW ((w.alloc (.cells #[.int .i64 ax, .int .i64 ay, .int .i64 bx, .int .i64 bz] 76)).alloc (.cells #[.int .i64 px, .int .i64 py] 23)), Blk p.wd (w.heap.size + 1) 23 #[.int .i64 px, .int .i64 py] := fun p => hb1.kept p
  have q4 := fun p => (hk1 p).cell 0
  have q5 := fun p => (hk1 p).cell 1
  skip
  clear hb0 hk0 hb1 hk1
  by_cases hv : validS ax ay bx bz = true
  · rw [on_boxS hv]
    rw [hv] at c1
    clear hv
    generalize turnV ax ay bx bz px py = t at *
    obtain ⟨m1, h1⟩ : ∃ m, min ax bx = m := ⟨_, rfl⟩
    obtain ⟨M1, h2⟩ : ∃ m, max ax bx = m := ⟨_, rfl⟩
    obtain ⟨m2, h3⟩ : ∃ m, min ay bz = m := ⟨_, rfl⟩
    obtain ⟨M2, h4⟩ : ∃ m, max ay bz = m := ⟨_, rfl⟩
    rw [h1, h2, h3, h4]
    by_cases g0 : m1 ≤ px
    case neg =>
      have f0 : decide (m1 ≤ px) = false := decide_eq_false g0
      clear g0
      go_enter Try.func88, Try.ntmps88
      go_wp2_with (first | (go_at_call 83; ((with_reducible refine (Calls.kept_first (c1 _)).mono ?_); rintro e _ ⟨rfl, p, rfl⟩)) | fail)
      go_ret
      exact ⟨by simp [f0], ((nw_alloc _ _).alloc _).tr p.since⟩
    by_cases g1 : px ≤ M1
    case neg =>
      have f0 : decide (m1 ≤ px) = true := decide_eq_true g0
      have f1 : decide (px ≤ M1) = false := decide_eq_false g1
      clear g0 g1
      go_enter Try.func88, Try.ntmps88
      go_wp2_with (first | (go_at_call 83; ((with_reducible refine (Calls.kept_first (c1 _)).mono ?_); rintro e _ ⟨rfl, p, rfl⟩)) | fail)
      go_ret
      exact ⟨by simp [f0, f1], ((nw_alloc _ _).alloc _).tr p.since⟩
    by_cases g2 : m2 ≤ py
    case neg =>
      have f0 : decide (m1 ≤ px) = true := decide_eq_true g0
      have f1 : decide (px ≤ M1) = true := decide_eq_true g1
      have f2 : decide (m2 ≤ py) = false := decide_eq_false g2
      clear g0 g1 g2
      go_enter Try.func88, Try.ntmps88
      go_wp2_with (first | (go_at_call 83; ((with_reducible refine (Calls.kept_first (c1 _)).mono ?_); rintro e _ ⟨rfl, p, rfl⟩)) | fail)
      go_ret
      exact ⟨by simp [f0, f1, f2], ((nw_alloc _ _).alloc _).tr p.since⟩
    by_cases g3 : py ≤ M2
    case neg =>
      have f0 : decide (m1 ≤ px) = true := decide_eq_true g0
      have f1 : decide (px ≤ M1) = true := decide_eq_true g1
      have f2 : decide (m2 ≤ py) = true := decide_eq_true g2
      have f3 : decide (py ≤ M2) = false := decide_eq_false g3
      clear g0 g1 g2 g3
      go_enter Try.func88, Try.ntmps88
      go_wp2_with (first | (go_at_call 83; ((with_reducible refine (Calls.kept_first (c1 _)).mono ?_); rintro e _ ⟨rfl, p, rfl⟩)) | fail)
      go_ret
      exact ⟨by simp [f0, f1, f2, f3], ((nw_alloc _ _).alloc _).tr p.since⟩
    have f0 : decide (m1 ≤ px) = true := decide_eq_true g0
    have f1 : decide (px ≤ M1) = true := decide_eq_true g1
    have f2 : decide (m2 ≤ py) = true := decide_eq_true g2
    have f3 : decide (py ≤ M2) = true := decide_eq_true g3
    clear g0 g1 g2 g3
    go_enter Try.func88, Try.ntmps88
    go_wp2_with (first | (go_at_call 83; ((with_reducible refine (Calls.kept_first (c1 _)).mono ?_); rintro e _ ⟨rfl, p, rfl⟩)) | (go_at_call 70; ((with_reducible refine (Calls.kept_of (c2 _)).mono ?_); rintro e _ ⟨rfl, p, rfl⟩)) | fail)
    go_ret
    exact ⟨by simp [f0, f1, f2, f3], ((nw_alloc _ _).alloc _).tr p.since⟩
  · rw [Bool.not_eq_true] at hv
    have ho : onS ax ay bx bz px py = false := by unfold onS; rw [hv]; rfl
    rw [ho]
    rw [hv] at c1
    clear hv ho
    go_enter Try.func88, Try.ntmps88
    go_wp2_with (first | (go_at_call 83; ((with_reducible refine (Calls.kept_first (c1 _)).mono ?_); rintro e _ ⟨rfl, p, rfl⟩)) | fail)
    go_ret
    exact ⟨rfl, ((nw_alloc _ _).alloc _).tr p.since⟩

end Go.Proofs.Ytlogihcmmoldkaa.W

namespace Go.Proofs.Ytlogihcmmoldkaa.W
open Go.RowKit Go.Proofs.Ytlogihcmmoldkaa.V Go.Proofs.Ytlogihcmmoldkaa.G

theorem kind_inv {ax ay bx bz cx cy dx dy : Int} (h : ¬ (validS ax ay bx bz = true ∧ validS cx cy dx dy = true)) : kindS ax ay bx bz cx cy dx dy = 0 := by
  unfold kindS
  rw [if_neg (by simpa using h)]
theorem com_lm {ax ay bx bz cx cy dx dy : Int} (h1 : validS ax ay bx bz = true) (h2 : validS cx cy dx dy = true) {x y : Int} (h : (x, y) ∈ comS ax ay bx bz cx cy dx dy) : ((x = ax ∧ y = ay) ∨ (x = bx ∧ y = bz) ∨ (x = cx ∧ y = cy) ∨ (x = dx ∧ y = dy)) ∧ Lm x y ∧ On ax ay bx bz x y ∧ On cx cy dx dy x y := by
  obtain ⟨ha, hb⟩ := valid_lm h1
  obtain ⟨hc, hd⟩ := valid_lm h2
  obtain ⟨he, hs⟩ := (com_mem ax ay bx bz cx cy dx dy (x, y)).1 h
  have e : (x = ax ∧ y = ay) ∨ (x = bx ∧ y = bz) ∨ (x = cx ∧ y = cy) ∨ (x = dx ∧ y = dy) := by simpa [endsL] using he
  have hl : Lm x y := by rcases e with ⟨rfl, rfl⟩ | ⟨rfl, rfl⟩ | ⟨rfl, rfl⟩ | ⟨rfl, rfl⟩ <;> assumption
  unfold bothS at hs
  rw [Bool.and_eq_true] at hs
  exact ⟨e, hl, (con_lm ha hb hl).1 hs.1, (con_lm hc hd hl).1 hs.2⟩
theorem kind_cross {ax ay bx bz cx cy dx dy : Int} (h1 : validS ax ay bx bz = true) (h2 : validS cx cy dx dy = true) : (kindS ax ay bx bz cx cy dx dy == 2) = (partS ax ay bx bz cx cy dx dy && partS cx cy dx dy ax ay bx bz) := by
  obtain ⟨ha, hb⟩ := valid_lm h1
  obtain ⟨hc, hd⟩ := valid_lm h2
  unfold kindS
  rw [h1, h2, Bool.and_self, if_pos rfl]
  cases hL : (comS ax ay bx bz cx cy dx dy).isEmpty
  · rw [if_neg (by simp)]
    have hn : (partS ax ay bx bz cx cy dx dy && partS cx cy dx dy ax ay bx bz) = false := by
      apply Bool.eq_false_iff.2
      rw [Ne, Bool.and_eq_true, part_lm ha hb hc hd, part_lm hc hd ha hb]
      match hm : comS ax ay bx bz cx cy dx dy, hL with
      | (x, y) :: r, _ =>
        obtain ⟨e, hl, h3, h4⟩ := com_lm h1 h2 (show (x, y) ∈ comS ax ay bx bz cx cy dx dy by rw [hm]; exact List.mem_cons_self)
        exact end_not_cross e h3 h4
    rw [hn]
    split <;> decide
  · rw [if_pos rfl]
    cases partS ax ay bx bz cx cy dx dy && partS cx cy dx dy ax ay bx bz <;> decide
theorem side_in {ax ay bx bz px py : Int} (h1 : validS ax ay bx bz = true) (hp : Lm px py) : sideS ax ay bx bz px py = turnV ax ay bx bz px py := by
  unfold sideS
  rw [h1, within_lm.2 hp, Bool.and_self, if_pos rfl]
end Go.Proofs.Ytlogihcmmoldkaa.W
