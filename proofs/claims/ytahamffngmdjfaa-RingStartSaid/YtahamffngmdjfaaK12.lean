/-
  SegCross: the call returns true. No condition.
  seg, plain: which points two valid segments have in common, for each way in which they meet. Condition: the segments are valid, the point is within 4000.
  ring, plain: lists of points by index, turns, areas, edges; no program. No condition.
  ring, plain: which points cleaning removes. No condition.
  ring, plain: what the program's functions of layer 8 return, over lists of integer points; no program. No condition.
  ring, plain: the reference's way to say which rings are valid is the program's. No condition.
-/
import Derived.Test.YtahamffngmdjfaaK10
import Derived.Test.YtahamffngmdjfaaK11
import Derived.Test.YtahamffngmdjfaaK07
import Derived.Test.YtahamffngmdjfaaK04
namespace Go.Proofs.Ytahamffngmdjfaa.W
open Go.RowKit Go.Proofs.Ytahamffngmdjfaa.V Go.Proofs.Ytahamffngmdjfaa.G

theorem kind_inv {ax ay bx bz cx cy dx dy : Int} (h : ¬ (validS ax ay bx bz = true ∧ validS cx cy dx dy = true)) : kindS ax ay bx bz cx cy dx dy = 0 := by
  unfold kindS
  rw [if_neg (by simpa using h)]
theorem com_lm {ax ay bx bz cx cy dx dy : Int} (h1 : validS ax ay bx bz = true) (h2 : validS cx cy dx dy = true) {x y : Int} (h : (x, y) ∈ comS ax ay bx bz cx cy dx dy) : ((x = ax ∧ y = ay) ∨ (x = bx ∧ y = bz) ∨ (x = cx ∧ y = cy) ∨ (x = dx ∧ y = dy)) ∧ Lm x y ∧ On ax ay bx bz x y ∧ On cx cy dx dy x y := by
  obtain ⟨ha, hb⟩ := valid_lm h1
  obtain ⟨hc, hd⟩ := valid_lm h2
  obtain ⟨he, hs⟩ := (com_mem ax ay bx bz cx cy dx dy (x, y)).1 h
  have e : (x = ax ∧ y = ay) ∨ (x = bx ∧ y = bz) ∨ (x = cx ∧ y = cy) ∨ (x = dx ∧ y = dy) := by simpa [endsL] using he
  have hl : Lm x y := by rcases e with ⟨rfl, rfl⟩ | ⟨rfl, rfl⟩ | ⟨rfl, rfl⟩ | ⟨rfl, rfl⟩ <;> assumption
  unfold bothS at hs
  rw [Bool.and_eq_true] at hs
  exact ⟨e, hl, (con_lm ha hb hl).1 hs.1, (con_lm hc hd hl).1 hs.2⟩
theorem kind_cross {ax ay bx bz cx cy dx dy : Int} (h1 : validS ax ay bx bz = true) (h2 : validS cx cy dx dy = true) : (kindS ax ay bx bz cx cy dx dy == 2) = (partS ax ay bx bz cx cy dx dy && partS cx cy dx dy ax ay bx bz) := by
  obtain ⟨ha, hb⟩ := valid_lm h1
  obtain ⟨hc, hd⟩ := valid_lm h2
  unfold kindS
  rw [h1, h2, Bool.and_self, if_pos rfl]
  cases hL : (comS ax ay bx bz cx cy dx dy).isEmpty
  · rw [if_neg (by simp)]
    have hn : (partS ax ay bx bz cx cy dx dy && partS cx cy dx dy ax ay bx bz) = false := by
      apply Bool.eq_false_iff.2
      rw [Ne, Bool.and_eq_true, part_lm ha hb hc hd, part_lm hc hd ha hb]
      match hm : comS ax ay bx bz cx cy dx dy, hL with
      | (x, y) :: r, _ =>
        obtain ⟨e, hl, h3, h4⟩ := com_lm h1 h2 (show (x, y) ∈ comS ax ay bx bz cx cy dx dy by rw [hm]; exact List.mem_cons_self)
        exact end_not_cross e h3 h4
    rw [hn]
    split <;> decide
  · rw [if_pos rfl]
    cases partS ax ay bx bz cx cy dx dy && partS cx cy dx dy ax ay bx bz <;> decide
theorem side_in {ax ay bx bz px py : Int} (h1 : validS ax ay bx bz = true) (hp : Lm px py) : sideS ax ay bx bz px py = turnV ax ay bx bz px py := by
  unfold sideS
  rw [h1, within_lm.2 hp, Bool.and_self, if_pos rfl]
set_option maxRecDepth 100000 in
set_option maxHeartbeats 3200000 in
theorem segCross_any (ax ay bx bz cx cy dx dy : Int) (w : World) : Calls Try.prog 11 #[sV ax ay bx bz, sV cx cy dx dy] w fun e w' => e = .returned (.bool true) ∧ Nw w w' := by
  have hmix := mixed7
  have c0 := fun w1 => awake7_any w1
  have c1 := fun w1 => valid_any ax ay bx bz w1
  have c2 := fun w1 => valid_any cx cy dx dy w1
  have c3 := fun w1 => meetK_any ax ay bx bz cx cy dx dy w1
  have hb0 := Blk.new_at w 48 #[.int .i64 ax, .int .i64 ay, .int .i64 bx, .int .i64 bz] (n := w.heap.size) (by simp)
  have hb1 := Blk.new_at (w.alloc (.cells #[.int .i64 ax, .int .i64 ay, .int .i64 bx, .int .i64 bz] 48)) 48 #[.int .i64 cx, .int .i64 cy, .int .i64 dx, .int .i64 dy] (n := w.heap.size + 1) (by simp)
  have hk0 : ∀ p : KeptW ((w.alloc (.cells #[.int .i64 ax, .int .i64 ay, .int .i64 bx, .int .i64 bz] 48)).alloc (.cells #[.int .i64 cx, .int .i64 cy, .int .i64 dx, .int .i64 dy] 48)), Blk p.wd (w.heap.size) 48 #[.int .i64 ax, .int .i64 ay, .int .i64 bx, .int .i64 bz] := fun p => (hb0.alloc _).kept p
  have q0 := fun p => (hk0 p).cell 0
  have q1 := fun p => (hk0 p).cell 1
  have q2 := fun p => (hk0 p).cell 2
  have q3 := fun p => (hk0 p).cell 3
  have hk1 : ∀ p : KeptW ((w.alloc (.cells #[.int .i64 ax, .int .i64 ay, .int .i64 bx, .int .i64 bz] 48)).alloc (.cells #[.int .i64 cx, .int .i64 cy, .int .i64 dx, .int .i64 dy] 48)), Blk p.wd (w.heap.size + 1) 48 #[.int .i64 cx, .int .i64 cy, .int .i64 dx, .int .i64 dy] := fun p => hb1.kept p
  have q4 := fun p => (hk1 p).cell 0
  have q5 := fun p => (hk1 p).cell 1
  have q6 := fun p => (hk1 p).cell 2
  have q7 := fun p => (hk1 p).cell 3
  skip
  clear hb0 hk0 hb1 hk1
  by_cases h1 : validS ax ay bx bz = true
  · by_cases h2 : validS cx cy dx dy = true
    · obtain ⟨ha, hb⟩ := valid_lm h1
      obtain ⟨hc, hd⟩ := valid_lm h2
      have s1 := fun w1 => side_any ax ay bx bz cx cy w1
      have s2 := fun w1 => side_any ax ay bx bz dx dy w1
      have s3 := fun w1 => side_any cx cy dx dy ax ay w1
      have s4 := fun w1 => side_any cx cy dx dy bx bz w1
      rw [side_in h1 hc] at s1
      rw [side_in h1 hd] at s2
      rw [side_in h2 ha] at s3
      rw [side_in h2 hb] at s4
      have hk := kind_cross h1 h2
      unfold partS at hk
      have m1 := mul_turn (turn_range ax ay bx bz cx cy) (turn_range ax ay bx bz dx dy)
      have m2 := mul_turn (turn_range cx cy dx dy ax ay) (turn_range cx cy dx dy bx bz)
      rw [h1] at c1
      rw [h2] at c2
      clear h1 h2 ha hb hc hd
      generalize kindS ax ay bx bz cx cy dx dy = k at *
      generalize turnV ax ay bx bz cx cy = t1 at *
      generalize turnV ax ay bx bz dx dy = t2 at *
      generalize turnV cx cy dx dy ax ay = t3 at *
      generalize turnV cx cy dx dy bx bz = t4 at *
      obtain ⟨u1, hu1⟩ : ∃ u, t1 * t2 = u := ⟨_, rfl⟩
      obtain ⟨u2, hu2⟩ : ∃ u, t3 * t4 = u := ⟨_, rfl⟩
      replace m1 := m1.trans hu1
      replace m2 := m2.trans hu2
      rw [hu1, hu2] at hk
      clear hu1 hu2
      obtain ⟨v1, hv1⟩ : ∃ v, decide (u1 < 0) = v := ⟨_, rfl⟩
      obtain ⟨v2, hv2⟩ : ∃ v, decide (u2 < 0) = v := ⟨_, rfl⟩
      rw [hv1, hv2] at hk
      cases v1
      · go_enter Try.func11, Try.ntmps11
        go_upto_region 5 with (first | (go_at_call 51; ((with_reducible refine (Calls.kept_first (c0 _)).mono ?_); rintro e _ ⟨rfl, p, rfl⟩)) | (go_at_call 56; ((with_reducible refine (Calls.kept_of (c1 _)).mono ?_); rintro e _ ⟨rfl, p, rfl⟩)) | (go_at_call 56; ((with_reducible refine (Calls.kept_of (c2 _)).mono ?_); rintro e _ ⟨rfl, p, rfl⟩)) | fail)
        refine wp_region_kept (p.since) (by assumption) (by kernel_rfl) ?_
        repeat (with_reducible refine wpQuiet_step (fun K hK => ?_); go_simp; first | ((with_reducible refine hK _ ?_); clear hK K) | (with_reducible apply Exists.intro; (with_reducible refine ⟨fun _ => ?_, hK _ ?_⟩); ((first | (go_at_call 58; with_reducible exact Calls.kept_of (c3 _)) | (go_at_call 64; with_reducible exact Calls.kept_of (s1 _)) | (go_at_call 64; with_reducible exact Calls.kept_of (s2 _)) | (go_at_call 64; with_reducible exact Calls.kept_of (s3 _)) | (go_at_call 64; with_reducible exact Calls.kept_of (s4 _)) | fail)); clear hK K))
        with_reducible refine wpQuiet_nil ?_
        rintro _ ⟨p, rfl⟩
        go_wp2_with fail
        go_ret
        exact ⟨by simp, ((nw_alloc _ _).alloc _).tr p.since⟩
      · go_enter Try.func11, Try.ntmps11
        go_upto_region 5 with (first | (go_at_call 51; ((with_reducible refine (Calls.kept_first (c0 _)).mono ?_); rintro e _ ⟨rfl, p, rfl⟩)) | (go_at_call 56; ((with_reducible refine (Calls.kept_of (c1 _)).mono ?_); rintro e _ ⟨rfl, p, rfl⟩)) | (go_at_call 56; ((with_reducible refine (Calls.kept_of (c2 _)).mono ?_); rintro e _ ⟨rfl, p, rfl⟩)) | fail)
        refine wp_region_kept (p.since) (by assumption) (by kernel_rfl) ?_
        repeat (with_reducible refine wpQuiet_step (fun K hK => ?_); go_simp; first | ((with_reducible refine hK _ ?_); clear hK K) | (with_reducible apply Exists.intro; (with_reducible refine ⟨fun _ => ?_, hK _ ?_⟩); ((first | (go_at_call 58; with_reducible exact Calls.kept_of (c3 _)) | (go_at_call 64; with_reducible exact Calls.kept_of (s1 _)) | (go_at_call 64; with_reducible exact Calls.kept_of (s2 _)) | (go_at_call 64; with_reducible exact Calls.kept_of (s3 _)) | (go_at_call 64; with_reducible exact Calls.kept_of (s4 _)) | fail)); clear hK K))
        with_reducible refine wpQuiet_nil ?_
        rintro _ ⟨p, rfl⟩
        go_wp2_with fail
        go_ret
        exact ⟨by simp, ((nw_alloc _ _).alloc _).tr p.since⟩
    · rw [Bool.not_eq_true] at h2
      rw [kind_inv (by rw [h2]; simp)] at c3
      rw [h1] at c1
      rw [h2] at c2
      clear h1 h2
      go_enter Try.func11, Try.ntmps11
      go_wp2_with (first | (go_at_call 51; ((with_reducible refine (Calls.kept_first (c0 _)).mono ?_); rintro e _ ⟨rfl, p, rfl⟩)) | (go_at_call 56; ((with_reducible refine (Calls.kept_of (c1 _)).mono ?_); rintro e _ ⟨rfl, p, rfl⟩)) | (go_at_call 56; ((with_reducible refine (Calls.kept_of (c2 _)).mono ?_); rintro e _ ⟨rfl, p, rfl⟩)) | (go_at_call 58; ((with_reducible refine (Calls.kept_of (c3 _)).mono ?_); rintro e _ ⟨rfl, p, rfl⟩)) | fail)
      go_ret
      exact ⟨rfl, ((nw_alloc _ _).alloc _).tr p.since⟩
  · rw [Bool.not_eq_true] at h1
    rw [kind_inv (by rw [h1]; simp)] at c3
    rw [h1] at c1
    clear h1
    go_enter Try.func11, Try.ntmps11
    go_wp2_with (first | (go_at_call 51; ((with_reducible refine (Calls.kept_first (c0 _)).mono ?_); rintro e _ ⟨rfl, p, rfl⟩)) | (go_at_call 56; ((with_reducible refine (Calls.kept_of (c1 _)).mono ?_); rintro e _ ⟨rfl, p, rfl⟩)) | (go_at_call 56; ((with_reducible refine (Calls.kept_of (c2 _)).mono ?_); rintro e _ ⟨rfl, p, rfl⟩)) | (go_at_call 58; ((with_reducible refine (Calls.kept_of (c3 _)).mono ?_); rintro e _ ⟨rfl, p, rfl⟩)) | fail)
    go_ret
    exact ⟨rfl, ((nw_alloc _ _).alloc _).tr p.since⟩
end Go.Proofs.Ytahamffngmdjfaa.W

namespace Go.Proofs.Ytahamffngmdjfaa.W
open Go.RowKit Go.Proofs.Ytahamffngmdjfaa.V Go.Proofs.Ytahamffngmdjfaa.G

theorem first_le {L : List (Int × Int)} (h : Asc L) {z : Int × Int} (hz : z ∈ L) : z = firstV L ∨ ltV (firstV L) z := by
  cases L with
  | nil => cases hz
  | cons x r =>
    rcases List.mem_cons.1 hz with e | e
    · exact .inl e
    · exact .inr ((List.pairwise_cons.1 h).1 z e)
theorem first_mem {L : List (Int × Int)} (h : L ≠ []) : firstV L ∈ L := by
  cases L with
  | nil => exact absurd rfl h
  | cons x r => exact List.mem_cons_self
theorem lt_key {x y z t : Int} (h : Lm x y) (g : Lm z t) : ltV (x, y) (z, t) ↔ key x y < key z t := by
  rw [key_lt h g, ltV_iff]
section
variable {ax ay bx bz cx cy dx dy : Int} (h1 : validS ax ay bx bz = true) (h2 : validS cx cy dx dy = true)
include h1 h2
theorem com_of {x y : Int} (e : (x = ax ∧ y = ay) ∨ (x = bx ∧ y = bz) ∨ (x = cx ∧ y = cy) ∨ (x = dx ∧ y = dy)) (hs : On ax ay bx bz x y) (ht : On cx cy dx dy x y) : (x, y) ∈ comS ax ay bx bz cx cy dx dy ∧ Lm x y := by
  obtain ⟨ha, hb⟩ := valid_lm h1
  obtain ⟨hc, hd⟩ := valid_lm h2
  have hl : Lm x y := by rcases e with ⟨rfl, rfl⟩ | ⟨rfl, rfl⟩ | ⟨rfl, rfl⟩ | ⟨rfl, rfl⟩ <;> assumption
  refine ⟨(com_mem ax ay bx bz cx cy dx dy (x, y)).2 ⟨by simpa [endsL] using e, ?_⟩, hl⟩
  unfold bothS
  rw [Bool.and_eq_true]
  exact ⟨(con_lm ha hb hl).2 hs, (con_lm hc hd hl).2 ht⟩
theorem split_com {px py : Int} (hp : Lm px py) (hs : On ax ay bx bz px py) (ht : On cx cy dx dy px py) :
    ((∃ x y, (x, y) ∈ comS ax ay bx bz cx cy dx dy ∧ Lm x y ∧ key x y ≤ key px py) ∧ (∃ x y, (x, y) ∈ comS ax ay bx bz cx cy dx dy ∧ Lm x y ∧ key px py ≤ key x y)) ∨ comS ax ay bx bz cx cy dx dy = [] ∧ Prt ax ay bx bz cx cy dx dy ∧ Prt cx cy dx dy ax ay bx bz := by
  obtain ⟨ha, hb⟩ := valid_lm h1
  obtain ⟨hc, hd⟩ := valid_lm h2
  rcases common_split ha hb hc hd hp hs ht with ⟨⟨x, y, e, o1, o2, k⟩, ⟨x', y', e', o1', o2', k'⟩⟩ | ⟨g1, g2⟩
  · exact .inl ⟨⟨x, y, (com_of h1 h2 e o1 o2).1, (com_of h1 h2 e o1 o2).2, k⟩, ⟨x', y', (com_of h1 h2 e' o1' o2').1, (com_of h1 h2 e' o1' o2').2, k'⟩⟩
  · refine .inr ⟨?_, g1, g2⟩
    match hm : comS ax ay bx bz cx cy dx dy with
    | [] => rfl
    | (x, y) :: r =>
      obtain ⟨e, _, h3, h4⟩ := com_lm h1 h2 (show (x, y) ∈ comS ax ay bx bz cx cy dx dy by rw [hm]; exact List.mem_cons_self)
      exact absurd ⟨g1, g2⟩ (end_not_cross e h3 h4)
theorem both_iff {px py : Int} (hp : Lm px py) : (onS ax ay bx bz px py && onS cx cy dx dy px py) = true ↔ On ax ay bx bz px py ∧ On cx cy dx dy px py := by
  rw [Bool.and_eq_true, on_valid h1, on_valid h2]
  exact ⟨fun h => ⟨h.1.2, h.2.2⟩, fun h => ⟨⟨hp, h.1⟩, ⟨hp, h.2⟩⟩⟩
theorem kind_is : kindS ax ay bx bz cx cy dx dy = if (comS ax ay bx bz cx cy dx dy).isEmpty then (if partS ax ay bx bz cx cy dx dy && partS cx cy dx dy ax ay bx bz then 2 else 0) else if firstV (comS ax ay bx bz cx cy dx dy) = lastV (comS ax ay bx bz cx cy dx dy) then 1 else 3 := by
  unfold kindS
  rw [h1, h2, Bool.and_self, if_pos rfl]
theorem parts_is (hne : comS ax ay bx bz cx cy dx dy ≠ []) : partsS ax ay bx bz cx cy dx dy = (firstV (comS ax ay bx bz cx cy dx dy), lastV (comS ax ay bx bz cx cy dx dy)) := by
  unfold partsS
  rw [h1, h2, Bool.and_self, Bool.true_and]
  cases hL : comS ax ay bx bz cx cy dx dy with
  | nil => exact absurd hL hne
  | cons x r => rfl
theorem common0 {px py : Int} (hp : Lm px py) (hk : kindS ax ay bx bz cx cy dx dy = 0) : (onS ax ay bx bz px py && onS cx cy dx dy px py) = false := by
  apply Bool.eq_false_iff.2
  rw [Ne, both_iff h1 h2 hp]
  rintro ⟨o1, o2⟩
  obtain ⟨ha, hb⟩ := valid_lm h1
  obtain ⟨hc, hd⟩ := valid_lm h2
  rw [kind_is h1 h2] at hk
  rcases split_com h1 h2 hp o1 o2 with ⟨⟨x, y, hm, _⟩, _⟩ | ⟨he, g1, g2⟩
  · cases hL : comS ax ay bx bz cx cy dx dy with
    | nil => rw [hL] at hm; cases hm
    | cons z r =>
      rw [hL, if_neg (by simp)] at hk
      split at hk <;> omega
  · rw [he, if_pos (show ([] : List (Int × Int)).isEmpty = true from rfl), (part_lm ha hb hc hd).2 g1, (part_lm hc hd ha hb).2 g2] at hk
    exact absurd hk (by decide)
theorem kind_ne {k : Int} (hk : kindS ax ay bx bz cx cy dx dy = k) (h : k = 1 ∨ k = 3) : comS ax ay bx bz cx cy dx dy ≠ [] ∧ (firstV (comS ax ay bx bz cx cy dx dy) = lastV (comS ax ay bx bz cx cy dx dy) ↔ k = 1) := by
  rw [kind_is h1 h2] at hk
  cases hL : comS ax ay bx bz cx cy dx dy with
  | nil =>
    rw [hL, if_pos (show ([] : List (Int × Int)).isEmpty = true from rfl)] at hk
    split at hk <;> omega
  | cons z r =>
    rw [hL, if_neg (by simp)] at hk
    refine ⟨by simp, ?_⟩
    split at hk
    · rename_i h'; exact ⟨fun _ => hk.symm, fun _ => h'⟩
    · rename_i h'; exact ⟨fun e => absurd e h', fun e => by omega⟩
theorem common1 {px py : Int} (hp : Lm px py) (hk : kindS ax ay bx bz cx cy dx dy = 1) : (onS ax ay bx bz px py && onS cx cy dx dy px py) = ((partsS ax ay bx bz cx cy dx dy).1.1 == px && (partsS ax ay bx bz cx cy dx dy).1.2 == py) ∧ Lm (partsS ax ay bx bz cx cy dx dy).1.1 (partsS ax ay bx bz cx cy dx dy).1.2 := by
  obtain ⟨hne, hfl⟩ := kind_ne h1 h2 hk (.inl rfl)
  have hfl := hfl.2 rfl
  rw [parts_is h1 h2 hne]
  have hasc := com_asc ax ay bx bz cx cy dx dy
  have hfm := first_mem hne
  have hall : ∀ z ∈ comS ax ay bx bz cx cy dx dy, z = firstV (comS ax ay bx bz cx cy dx dy) := fun z hz => by
    rcases first_le hasc hz with e | e
    · exact e
    · rcases (lastV_is hasc hne).2 z hz with g | g
      · rw [g, hfl]
      · rw [← hfl] at g
        exact absurd (ltV_trans e g) (ltV_irrefl _)
  obtain ⟨⟨fx, fy⟩, hf⟩ : ∃ f, firstV (comS ax ay bx bz cx cy dx dy) = f := ⟨_, rfl⟩
  rw [hf] at hfm hall ⊢
  obtain ⟨_, hl, o1, o2⟩ := com_lm h1 h2 hfm
  refine ⟨?_, hl⟩
  apply Bool.eq_iff_iff.2
  rw [both_iff h1 h2 hp]
  simp only [Bool.and_eq_true, beq_iff_eq]
  constructor
  · rintro ⟨p1, p2⟩
    rcases split_com h1 h2 hp p1 p2 with ⟨⟨x, y, hm, hxl, k⟩, ⟨x', y', hm', hxl', k'⟩⟩ | ⟨he, _⟩
    · have e := hall _ hm
      have e' := hall _ hm'
      injection e with e1 e2
      injection e' with e1' e2'
      subst e1 e2 e1' e2'
      exact key_inj hxl hp (by omega)
    · exact absurd he hne
  · rintro ⟨rfl, rfl⟩
    exact ⟨o1, o2⟩
theorem common3 {px py : Int} (hp : Lm px py) (hk : kindS ax ay bx bz cx cy dx dy = 3) :
    (onS ax ay bx bz px py && onS cx cy dx dy px py) = onS (partsS ax ay bx bz cx cy dx dy).1.1 (partsS ax ay bx bz cx cy dx dy).1.2 (partsS ax ay bx bz cx cy dx dy).2.1 (partsS ax ay bx bz cx cy dx dy).2.2 px py ∧
    onS ax ay bx bz (partsS ax ay bx bz cx cy dx dy).1.1 (partsS ax ay bx bz cx cy dx dy).1.2 = true ∧ onS ax ay bx bz (partsS ax ay bx bz cx cy dx dy).2.1 (partsS ax ay bx bz cx cy dx dy).2.2 = true ∧
    onS cx cy dx dy (partsS ax ay bx bz cx cy dx dy).1.1 (partsS ax ay bx bz cx cy dx dy).1.2 = true ∧ onS cx cy dx dy (partsS ax ay bx bz cx cy dx dy).2.1 (partsS ax ay bx bz cx cy dx dy).2.2 = true ∧
    lessV (partsS ax ay bx bz cx cy dx dy).1.1 (partsS ax ay bx bz cx cy dx dy).1.2 (partsS ax ay bx bz cx cy dx dy).2.1 (partsS ax ay bx bz cx cy dx dy).2.2 = true := by
  obtain ⟨ha, hb⟩ := valid_lm h1
  obtain ⟨hc, hd⟩ := valid_lm h2
  obtain ⟨hne, hfl⟩ := kind_ne h1 h2 hk (.inr rfl)
  have hfl : ¬ firstV (comS ax ay bx bz cx cy dx dy) = lastV (comS ax ay bx bz cx cy dx dy) := fun e => absurd (hfl.1 e) (by decide)
  rw [parts_is h1 h2 hne]
  have hasc := com_asc ax ay bx bz cx cy dx dy
  have hfm := first_mem hne
  have hlm := (lastV_is hasc hne).1
  have hle := fun z hz => first_le hasc (z := z) hz
  have hge := (lastV_is hasc hne).2
  obtain ⟨⟨fx, fy⟩, hf⟩ : ∃ f, firstV (comS ax ay bx bz cx cy dx dy) = f := ⟨_, rfl⟩
  obtain ⟨⟨gx, gy⟩, hg⟩ : ∃ f, lastV (comS ax ay bx bz cx cy dx dy) = f := ⟨_, rfl⟩
  rw [hf] at hfm hle hfl ⊢
  rw [hg] at hlm hge hfl ⊢
  obtain ⟨_, hl, o1, o2⟩ := com_lm h1 h2 hfm
  obtain ⟨_, hl', o1', o2'⟩ := com_lm h1 h2 hlm
  have hlt : ltV (fx, fy) (gx, gy) := by
    rcases hle _ hlm with e | e
    · exact absurd e.symm hfl
    · exact e
  have hkl := (lt_key hl hl').1 hlt
  have hne' : ¬ (fx = gx ∧ fy = gy) := fun e => hfl (by rw [e.1, e.2])
  have hv : validS fx fy gx gy = true := by
    unfold validS
    rw [within_lm.2 hl, within_lm.2 hl']
    rfl
  refine ⟨?_, (on_valid h1).2 ⟨hl, o1⟩, (on_valid h1).2 ⟨hl', o1'⟩, (on_valid h2).2 ⟨hl, o2⟩, (on_valid h2).2 ⟨hl', o2'⟩, hlt⟩
  apply Bool.eq_iff_iff.2
  rw [both_iff h1 h2 hp, on_valid hv]
  constructor
  · rintro ⟨p1, p2⟩
    refine ⟨hp, (on_btw hl hp).2 ⟨on_line o1 o1' p1 hne', ?_⟩⟩
    rcases split_com h1 h2 hp p1 p2 with ⟨⟨x, y, hm, hxl, k⟩, ⟨x', y', hm', hxl', k'⟩⟩ | ⟨he, _⟩
    · have e : key fx fy ≤ key x y := by
        rcases hle _ hm with e | e
        · injection e with e1 e2
          rw [e1, e2]
          exact Int.le_refl _
        · exact Int.le_of_lt ((lt_key hl hxl).1 e)
      have e' : key x' y' ≤ key gx gy := by
        rcases hge _ hm' with e | e
        · injection e with e1 e2
          rw [e1, e2]
          exact Int.le_refl _
        · exact Int.le_of_lt ((lt_key hxl' hl').1 e)
      exact .inl ⟨by omega, by omega⟩
    · exact absurd he hne
  · rintro ⟨_, o⟩
    exact ⟨on_mid ha hl hl' hp o1 o1' o hne', on_mid hc hl hl' hp o2 o2' o hne'⟩
end
theorem cross_way {ax ay bx bz cx cy dx dy : Int} (hk : kindS ax ay bx bz cx cy dx dy = 2) : ∃ D N : Int, 0 < D ∧ D ≤ 128000000 ∧ 0 < N ∧ N < D ∧ crossS ax ay bx bz cx cy dx dy = lowV (ax * D + (bx - ax) * N) (ay * D + (bz - ay) * N) D ∧
    ((denX ax ay bx bz cx cy dx dy = D ∧ numX ax ay cx cy dx dy = N) ∨ (denX ax ay bx bz cx cy dx dy = -D ∧ numX ax ay cx cy dx dy = -N)) := by
  obtain ⟨⟨ha, hb⟩, ⟨hc, hd⟩, g1, g2, _⟩ := kind_two hk
  obtain ⟨hD, hN⟩ := den_le ha hb hc hd
  have hb' := num_between g2
  unfold crossS crossX crossY
  obtain ⟨D, hDD⟩ : ∃ D, denX ax ay bx bz cx cy dx dy = D := ⟨_, rfl⟩
  obtain ⟨N, hNN⟩ : ∃ N, numX ax ay cx cy dx dy = N := ⟨_, rfl⟩
  rw [hDD] at hD hb'
  rw [hNN] at hN hb'
  rw [hDD, hNN]
  by_cases h : D < 0
  · rw [if_pos h]
    refine ⟨-D, -N, by omega, by omega, by omega, by omega, ?_, .inr ⟨by omega, by omega⟩⟩
    rw [Int.mul_neg, Int.mul_neg, Int.mul_neg, Int.mul_neg, ← Int.neg_add, ← Int.neg_add]
  · rw [if_neg h]
    exact ⟨D, N, by omega, by omega, by omega, by omega, rfl, .inl ⟨rfl, rfl⟩⟩
theorem common2 {ax ay bx bz cx cy dx dy : Int} (h1 : validS ax ay bx bz = true) (h2 : validS cx cy dx dy = true) {px py : Int} (hp : Lm px py) (hk : kindS ax ay bx bz cx cy dx dy = 2) :
    (onS ax ay bx bz px py && onS cx cy dx dy px py) = ((crossS ax ay bx bz cx cy dx dy).1 == px && (crossS ax ay bx bz cx cy dx dy).2.1 == py && (crossS ax ay bx bz cx cy dx dy).2.2 == 1) ∧ validP (crossS ax ay bx bz cx cy dx dy).1 (crossS ax ay bx bz cx cy dx dy).2.1 (crossS ax ay bx bz cx cy dx dy).2.2 = true := by
  obtain ⟨⟨ha, hb⟩, ⟨hc, hd⟩, g1, g2, _⟩ := kind_two hk
  obtain ⟨D, N, hD, hD2, hN, hND, hcr, hs⟩ := cross_way hk
  have hco := cross_on (px := px) (py := py) g1 g2
  rw [hcr]
  constructor
  · apply Bool.eq_iff_iff.2
    rw [both_iff h1 h2 hp, hco]
    have hli := low_int (x := ax * D + (bx - ax) * N) (y := ay * D + (bz - ay) * N) (px := px) (py := py) hD
    have e : (((lowV (ax * D + (bx - ax) * N) (ay * D + (bz - ay) * N) D).1 == px && (lowV (ax * D + (bx - ax) * N) (ay * D + (bz - ay) * N) D).2.1 == py && (lowV (ax * D + (bx - ax) * N) (ay * D + (bz - ay) * N) D).2.2 == 1) = true) ↔ lowV (ax * D + (bx - ax) * N) (ay * D + (bz - ay) * N) D = (px, py, 1) := by
      generalize lowV (ax * D + (bx - ax) * N) (ay * D + (bz - ay) * N) D = l
      obtain ⟨l1, l2, l3⟩ := l
      simp [and_assoc]
    rw [e, hli]
    rcases hs with ⟨e1, e2⟩ | ⟨e1, e2⟩ <;> rw [e1, e2]
    rw [Int.mul_neg, Int.mul_neg, Int.mul_neg, Int.mul_neg, Int.mul_neg, Int.mul_neg]
    constructor <;> rintro ⟨q1, q2⟩ <;> exact ⟨by omega, by omega⟩
  · obtain ⟨l1, l2⟩ := low_den (x := ax * D + (bx - ax) * N) (y := ay * D + (bz - ay) * N) hD
    have lv := low_valid (x := ax * D + (bx - ax) * N) (y := ay * D + (bz - ay) * N) hD
    unfold Lm at ha hb
    have lw := low_within (M := 4000) hD (mix_le (a := ax) (b := bx) (n := N) (d := D) (M := 4000) (by omega) (by omega) (by omega) (by omega)) (mix_le (a := ay) (b := bz) (n := N) (d := D) (M := 4000) (by omega) (by omega) (by omega) (by omega))
    generalize lowV (ax * D + (bx - ax) * N) (ay * D + (bz - ay) * N) D = l at *
    obtain ⟨x, y, d⟩ := l
    simp only at *
    unfold validP inPt withinV
    rw [(den_iff d).2 ⟨by omega, by omega⟩, lv, w64_id (n := 4000 * d) ⟨by omega, by omega⟩, w64_id (n := -(4000 * d)) ⟨by omega, by omega⟩]
    simp
    omega
theorem valid_int {x y : Int} (h : Lm x y) : validP x y 1 = true := by
  unfold validP inPt withinV isDen gcd3
  unfold Lm at h
  rw [show w64 (4000 * 1) = 4000 from w64_id ⟨by omega, by omega⟩, show w64 (-4000) = -4000 from w64_id ⟨by omega, by omega⟩]
  simp
  omega
end Go.Proofs.Ytahamffngmdjfaa.W

namespace Go.Proofs.Ytahamffngmdjfaa.G
open Go.RowKit Go.Proofs.Ytahamffngmdjfaa.V Go.Proofs.Ytahamffngmdjfaa.W

abbrev Pt := Int × Int
abbrev Ed := Pt × Pt
def at_ (l : List Pt) (i : Nat) : Pt := l.getD i (0, 0)
theorem at_of {l : List Pt} {i : Nat} {p : Pt} (h : l[i]? = some p) : at_ l i = p := by unfold at_; rw [List.getD_eq_getElem?_getD, h]; rfl
theorem at_some {l : List Pt} {i : Nat} (h : i < l.length) : l[i]? = some (at_ l i) := by
  unfold at_
  rw [List.getD_eq_getElem?_getD, List.getElem?_eq_getElem h]
  rfl
theorem at_mem {l : List Pt} {i : Nat} (h : i < l.length) : at_ l i ∈ l := List.mem_of_getElem? (at_some h)
def turnP (a b c : Pt) : Int := turnV a.1 a.2 b.1 b.2 c.1 c.2
def crossP (a b : Pt) : Int := crossV a.1 a.2 b.1 b.2
def allTo (n : Nat) (p : Nat → Bool) : Bool := (List.range n).all p
theorem allTo_iff {n : Nat} {p : Nat → Bool} : allTo n p = true ↔ ∀ i, i < n → p i = true := by simp [allTo]
theorem allTo_not {n i : Nat} {p : Nat → Bool} (hi : i < n) (h : p i = false) : allTo n p = false := by
  rw [← Bool.not_eq_true, allTo_iff]
  intro hh
  rw [hh i hi] at h
  cases h
def turnI (l : List Pt) (i : Nat) : Int := turnP (at_ l ((i + l.length - 1) % l.length)) (at_ l i) (at_ l ((i + 1) % l.length))
def wOk (p : Pt) : Bool := withinV p.1 p.2 2000
def allW (l : List Pt) : Bool := allTo l.length fun i => wOk (at_ l i)
def turnsP (l : List Pt) : Bool := allTo l.length fun i => !(turnI l i == 0)
def areaTo (l : List Pt) : Nat → Int
  | 0 => 0
  | k + 1 => w64 (areaTo l k + crossP (at_ l k) (at_ l ((k + 1) % l.length)))
def areaP (l : List Pt) : Int := areaTo l l.length
def edgeP (l : List Pt) (i : Nat) : Ed := (at_ l i, at_ l ((i + 1) % l.length))
def edgesP (l : List Pt) : List Ed := if l.length < 2 then [] else (List.range l.length).map (edgeP l)
def apartE (e f : Ed) : Bool := decide (max e.1.1 e.2.1 < min f.1.1 f.2.1) || decide (max f.1.1 f.2.1 < min e.1.1 e.2.1) || decide (max e.1.2 e.2.2 < min f.1.2 f.2.2) || decide (max f.1.2 f.2.2 < min e.1.2 e.2.2)
theorem edges_len {l : List Pt} : (edgesP l).length = if l.length < 2 then 0 else l.length := by unfold edgesP; split <;> simp
theorem edges_at {l : List Pt} {i : Nat} (h2 : ¬ l.length < 2) (hi : i < l.length) : (edgesP l)[i]? = some (edgeP l i) := by
  unfold edgesP
  rw [if_neg h2, List.getElem?_map, List.getElem?_range hi]
  rfl
end Go.Proofs.Ytahamffngmdjfaa.G

namespace Go.Proofs.Ytahamffngmdjfaa.G
open Go.RowKit Go.Proofs.Ytahamffngmdjfaa.V Go.Proofs.Ytahamffngmdjfaa.W

/-- the first point that cleaning removes; the length if there is none -/
def spare (l : List Pt) (i : Nat) : Bool := (at_ l i == at_ l ((i + 1) % l.length)) || (turnI l i == 0)
def needIn (l : List Pt) : Nat → Nat → Nat
  | 0, i => i
  | f + 1, i => if spare l i then i else needIn l f (i + 1)
def need (l : List Pt) : Nat := needIn l l.length 0
theorem needIn_is {l : List Pt} : ∀ (f i : Nat), i ≤ needIn l f i ∧ needIn l f i ≤ i + f ∧ (∀ j, i ≤ j → j < needIn l f i → spare l j = false) ∧ (needIn l f i < i + f → spare l (needIn l f i) = true)
  | 0, i => by
    unfold needIn
    exact ⟨Nat.le_refl _, Nat.le_refl _, fun j h h' => absurd h' (Nat.not_lt.2 h), fun h => absurd h (Nat.lt_irrefl _)⟩
  | f + 1, i => by
    unfold needIn
    split
    · rename_i h
      exact ⟨Nat.le_refl _, by omega, fun j h h' => absurd h' (Nat.not_lt.2 h), fun _ => h⟩
    · rename_i h
      have := needIn_is (l := l) f (i + 1)
      refine ⟨by omega, by omega, fun j h1 h2 => ?_, fun hh => this.2.2.2 (by omega)⟩
      rcases Nat.lt_or_ge i j with hj | hj
      · exact this.2.2.1 j hj h2
      · obtain rfl : j = i := by omega
        simpa using h
theorem need_is {l : List Pt} : need l ≤ l.length ∧ (∀ j, j < need l → spare l j = false) ∧ (need l < l.length → spare l (need l) = true) := by
  have := needIn_is (l := l) l.length 0
  unfold need
  exact ⟨by omega, fun j h => this.2.2.1 j (Nat.zero_le _) h, fun h => this.2.2.2 (by omega)⟩
theorem need_of {l : List Pt} {k : Nat} (hk : k ≤ l.length) (h1 : ∀ j, j < k → spare l j = false) (h2 : k < l.length → spare l k = true) : need l = k := by
  obtain ⟨a, b, c⟩ := need_is (l := l)
  rcases Nat.lt_trichotomy (need l) k with h | h | h
  · have := h1 _ h
    rw [c (by omega)] at this
    cases this
  · exact h
  · have := b _ h
    rw [h2 (by omega)] at this
    cases this
def cleanTo : Nat → List Pt → List Pt
  | 0, l => l
  | f + 1, l => if need l < l.length then cleanTo f (l.eraseIdx (need l)) else l
def cleanL (l : List Pt) : List Pt := cleanTo l.length l
theorem cleanTo_more : ∀ (f : Nat) (l : List Pt), l.length ≤ f → cleanTo f l = cleanL l
  | 0, l, h => by
    obtain rfl : l = [] := List.eq_nil_of_length_eq_zero (by omega)
    rfl
  | f + 1, l, h => by
    unfold cleanL cleanTo
    split
    · rename_i hn
      have hlen : (l.eraseIdx (need l)).length = l.length - 1 := List.length_eraseIdx_of_lt hn
      rw [cleanTo_more f _ (by omega)]
      split
      · omega
      · rename_i n hl
        rw [if_pos hn, cleanTo_more n _ (by omega)]
    · rename_i hn
      split
      · rfl
      · rw [if_neg hn]
theorem clean_step {l : List Pt} (h : need l < l.length) : cleanL (l.eraseIdx (need l)) = cleanL l := by
  have hlen : (l.eraseIdx (need l)).length = l.length - 1 := List.length_eraseIdx_of_lt h
  rw [show cleanL l = cleanTo (l.length - 1 + 1) l from (cleanTo_more _ _ (by omega)).symm]
  unfold cleanTo
  rw [if_pos h]
  exact (cleanTo_more _ _ (by omega)).symm
theorem clean_end {l : List Pt} (h : ¬ need l < l.length) : cleanL l = l := by
  rw [← cleanTo_more (l.length + 1) l (by omega)]
  unfold cleanTo
  rw [if_neg h]
end Go.Proofs.Ytahamffngmdjfaa.G

namespace Go.Proofs.Ytahamffngmdjfaa.G
open Go.RowKit Go.Proofs.Ytahamffngmdjfaa.V Go.Proofs.Ytahamffngmdjfaa.W

def kindE (e f : Ed) : Int := kindS e.1.1 e.1.2 e.2.1 e.2.2 f.1.1 f.1.2 f.2.1 f.2.2
def pairOk (l : List Pt) (i j : Nat) : Bool := decide (j < i + 2) || decide ((j + 1) % l.length = i) || apartE (edgeP l i) (edgeP l j) || (kindE (edgeP l i) (edgeP l j) == 0)
def simpleP (l : List Pt) : Bool := allTo l.length fun i => allTo l.length fun j => pairOk l i j
def validR (l : List Pt) : Bool := decide (3 ≤ l.length) && decide (l.length ≤ 40) && allW l && turnsP l && decide (0 < areaP l) && simpleP l
def area2R (l : List Pt) : Int := if validR l then areaP l else 0
def convexR (l : List Pt) : Bool := validR l && allTo l.length fun i => !decide (turnI l i < 0)
/-- the index of the first least point among the first k -/
def lowTo (l : List Pt) : Nat → Nat
  | 0 => 0
  | k + 1 => if lessV (at_ l k).1 (at_ l k).2 (at_ l (lowTo l k)).1 (at_ l (lowTo l k)).2 then k else lowTo l k
def low (l : List Pt) : Nat := lowTo l l.length
def rotL (l : List Pt) (k : Nat) : List Pt := l.drop k ++ l.take k
def beginL (l : List Pt) : List Pt := rotL l (low l)
def canonR (l : List Pt) : List Pt := if validR l then beginL l else []
theorem lowTo_lt {l : List Pt} : ∀ {k : Nat}, 0 < k → lowTo l k < k
  | 1, _ => by unfold lowTo; split <;> simp [lowTo]
  | k + 2, _ => by
    have := lowTo_lt (l := l) (k := k + 1) (by omega)
    unfold lowTo
    split <;> omega
theorem lowTo_one {l : List Pt} : lowTo l 1 = 0 := by have := lowTo_lt (l := l) (k := 1) (by omega); omega
theorem lowTo_is {l : List Pt} : ∀ {k : Nat}, ∀ j, j < k → ¬ ltV (at_ l j) (at_ l (lowTo l k)) ∧ (j < lowTo l k → ltV (at_ l (lowTo l k)) (at_ l j))
  | 0, j, h => absurd h (Nat.not_lt_zero _)
  | k + 1, j, h => by
    unfold lowTo
    split
    · rename_i hl
      rcases Nat.lt_or_ge j k with hj | hj
      · have := lowTo_is (l := l) (k := k) j hj
        have hlt : ltV (at_ l k) (at_ l j) := by
          rcases ltV_tri (at_ l j) (at_ l (lowTo l k)) with h1 | h1 | h1
          · exact absurd h1 this.1
          · rw [h1]; exact hl
          · exact ltV_trans hl h1
        exact ⟨fun hc => ltV_irrefl _ (ltV_trans hc hlt), fun _ => hlt⟩
      · obtain rfl : j = k := by omega
        exact ⟨ltV_irrefl _, fun hc => absurd hc (Nat.lt_irrefl _)⟩
    · rename_i hl
      rcases Nat.lt_or_ge j k with hj | hj
      · exact lowTo_is (l := l) (k := k) j hj
      · obtain rfl : j = k := by omega
        refine ⟨hl, fun hc => ?_⟩
        rcases Nat.eq_zero_or_pos j with h0 | h0
        · subst h0
          simp [lowTo] at hc
        · have := lowTo_lt (l := l) h0
          omega

def turnedL (l : List Pt) : List Pt := if areaP l < 0 then l.reverse else l
/-- the cleaned ring, and the error's number -/
def cleanR (l : List Pt) : List Pt × Int :=
  if 200 < l.length then ([], 9) else if !allW l then ([], 2) else if !validR (turnedL (cleanL l)) then ([], 11) else (beginL (turnedL (cleanL l)), 0)
def moveR (l : List Pt) (v : Pt) : List Pt × Int :=
  if !validR l then ([], 11) else if !allW (l.map fun p => (w64 (p.1 + v.1), w64 (p.2 + v.2))) then ([], 2) else (l.map fun p => (w64 (p.1 + v.1), w64 (p.2 + v.2)), 0)

/-- where a rational point lies -/
def sideP (e : Ed) (x y d : Int) : Int := (e.2.1 - e.1.1) * (y - e.1.2 * d) - (e.2.2 - e.1.2) * (x - e.1.1 * d)
def onP (e : Ed) (x y d : Int) : Bool := decide (min e.1.1 e.2.1 * d ≤ x) && decide (x ≤ max e.1.1 e.2.1 * d) && decide (min e.1.2 e.2.2 * d ≤ y) && decide (y ≤ max e.1.2 e.2.2 * d) && (sideP e x y d == 0)
def upP (e : Ed) (y d : Int) : Bool := decide (e.1.2 * d ≤ y) && decide (y < e.2.2 * d)
def downP (e : Ed) (y d : Int) : Bool := decide (e.2.2 * d ≤ y) && decide (y < e.1.2 * d)
def crossesP (e : Ed) (x y d : Int) : Bool := (upP e y d && decide (0 < sideP e x y d)) || (downP e y d && decide (sideP e x y d < 0))
def countP (l : List Ed) (x y d : Int) : Nat := (l.filter fun e => crossesP e x y d).length
def anyOn (l : List Ed) (x y d : Int) : Bool := l.any fun e => onP e x y d
def whereR (l : List Pt) (x y d : Int) : Int :=
  if validR l && validP x y d then (if anyOn (edgesP l) x y d then 1 else if countP (edgesP l) x y d % 2 = 1 then 2 else 0) else 0
end Go.Proofs.Ytahamffngmdjfaa.G

namespace Go.Proofs.Ytahamffngmdjfaa.G
open Go.RowKit Go.Proofs.Ytahamffngmdjfaa.V Go.Proofs.Ytahamffngmdjfaa.W

theorem apart_sum {a b c d al be ga de : Int} (h : a * be - b * al = -(c * de - d * ga)) (h2 : be - al = -(de - ga)) (h3 : al * be < 0) (h4 : ga * de < 0) (g1 : a < c) (g2 : a < d) (g3 : b < c) (g4 : b < d) : False := by
  obtain ⟨M, hM⟩ : ∃ M, max a b = M := ⟨_, rfl⟩
  obtain ⟨a1, ha⟩ : ∃ a1, a = M - a1 := ⟨M - a, by omega⟩
  obtain ⟨b1, hb⟩ : ∃ b1, b = M - b1 := ⟨M - b, by omega⟩
  obtain ⟨c1, hc⟩ : ∃ c1, c = M + c1 := ⟨c - M, by omega⟩
  obtain ⟨d1, hd⟩ : ∃ d1, d = M + d1 := ⟨d - M, by omega⟩
  have k1 : 0 ≤ a1 := by omega
  have k2 : 0 ≤ b1 := by omega
  have k3 : 0 < c1 := by omega
  have k4 : 0 < d1 := by omega
  subst ha hb hc hd
  have e : -(a1 * be) + b1 * al + c1 * de - d1 * ga = M * (be - al + (de - ga)) - ((M - a1) * be - (M - b1) * al + ((M + c1) * de - (M + d1) * ga)) + 2 * (-(a1 * be) + b1 * al + c1 * de - d1 * ga) := by grind
  rw [show be - al + (de - ga) = 0 by omega, Int.mul_zero] at e
  have e' : -(a1 * be) + b1 * al + c1 * de - d1 * ga = 0 := by omega
  clear e h hM g1 g2 g3 g4
  rcases Int.lt_trichotomy al 0 with s | s | s
  · have t : 0 < be := by
      rcases Int.lt_or_le 0 be with t | t
      · exact t
      · have := Int.mul_nonneg_of_nonpos_of_nonpos (Int.le_of_lt s) t; omega
    have u : 0 < ga ∧ de < 0 := by
      rcases Int.lt_or_le 0 ga with u | u
      · refine ⟨u, ?_⟩
        rcases Int.lt_or_le de 0 with v | v
        · exact v
        · have := Int.mul_nonneg (Int.le_of_lt u) v; omega
      · have : 0 ≤ ga * de := Int.mul_nonneg_of_nonpos_of_nonpos u (by omega)
        omega
    have p1 := Int.mul_nonneg k1 (Int.le_of_lt t)
    have p2 := Int.mul_nonpos_of_nonneg_of_nonpos k2 (Int.le_of_lt s)
    have p3 := Int.mul_neg_of_pos_of_neg k3 u.2
    have p4 := Int.mul_pos k4 u.1
    omega
  · rw [s, Int.zero_mul] at h3
    omega
  · have t : be < 0 := by
      rcases Int.lt_or_le be 0 with t | t
      · exact t
      · have := Int.mul_nonneg (Int.le_of_lt s) t; omega
    have u : ga < 0 ∧ 0 < de := by
      rcases Int.lt_or_le ga 0 with u | u
      · refine ⟨u, ?_⟩
        rcases Int.lt_or_le 0 de with v | v
        · exact v
        · have := Int.mul_nonneg_of_nonpos_of_nonpos (Int.le_of_lt u) v; omega
      · have : 0 ≤ ga * de := Int.mul_nonneg u (by omega)
        omega
    have p1 := Int.mul_nonpos_of_nonneg_of_nonpos k1 (Int.le_of_lt t)
    have p2 := Int.mul_nonneg k2 (Int.le_of_lt s)
    have p3 := Int.mul_pos k3 u.2
    have p4 := Int.mul_neg_of_pos_of_neg k4 u.1
    omega
theorem cross_x (ax ay bx bz cx cy dx dy : Int) : ax * crs cx cy dx dy bx bz - bx * crs cx cy dx dy ax ay = -(cx * crs ax ay bx bz dx dy - dx * crs ax ay bx bz cx cy) := by unfold crs; grind
theorem cross_y (ax ay bx bz cx cy dx dy : Int) : ay * crs cx cy dx dy bx bz - bz * crs cx cy dx dy ax ay = -(cy * crs ax ay bx bz dx dy - dy * crs ax ay bx bz cx cy) := by unfold crs; grind
theorem cross_d (ax ay bx bz cx cy dx dy : Int) : crs cx cy dx dy bx bz - crs cx cy dx dy ax ay = -(crs ax ay bx bz dx dy - crs ax ay bx bz cx cy) := by unfold crs; grind
def validE (e : Ed) : Bool := validS e.1.1 e.1.2 e.2.1 e.2.2
theorem kind_apart {e f : Ed} (h : apartE e f = true) (h1 : validE e = true) (h2 : validE f = true) : kindE e f = 0 := by
  obtain ⟨⟨ax, ay⟩, ⟨bx, bz⟩⟩ := e
  obtain ⟨⟨cx, cy⟩, ⟨dx, dy⟩⟩ := f
  unfold kindE
  simp only [validE] at h1 h2 ⊢
  simp only [apartE, Bool.or_eq_true, decide_eq_true_eq] at h
  obtain ⟨ha, hb⟩ := valid_lm h1
  obtain ⟨hc, hd⟩ := valid_lm h2
  rw [kind_is h1 h2]
  have hno : comS ax ay bx bz cx cy dx dy = [] := by
    match hm : comS ax ay bx bz cx cy dx dy with
    | [] => rfl
    | (x, y) :: r =>
      obtain ⟨_, _, o1, o2⟩ := com_lm h1 h2 (show (x, y) ∈ comS ax ay bx bz cx cy dx dy by rw [hm]; exact List.mem_cons_self)
      have g1 := ((on_box ..).1 o1).1
      have g2 := ((on_box ..).1 o2).1
      omega
  rw [hno, List.isEmpty_nil, if_pos rfl]
  refine if_neg fun hh => ?_
  rw [Bool.and_eq_true, part_lm ha hb hc hd, part_lm hc hd ha hb] at hh
  obtain ⟨p1, p2⟩ := hh
  unfold Prt at p1 p2
  have x1 := cross_x ax ay bx bz cx cy dx dy
  have y1 := cross_y ax ay bx bz cx cy dx dy
  have d1 := cross_d ax ay bx bz cx cy dx dy
  have x2 := cross_x cx cy dx dy ax ay bx bz
  have y2 := cross_y cx cy dx dy ax ay bx bz
  have d2 := cross_d cx cy dx dy ax ay bx bz
  rcases h with ((h | h) | h) | h
  · exact apart_sum x1 d1 p2 p1 (by omega) (by omega) (by omega) (by omega)
  · exact apart_sum x2 d2 p1 p2 (by omega) (by omega) (by omega) (by omega)
  · exact apart_sum y1 d1 p2 p1 (by omega) (by omega) (by omega) (by omega)
  · exact apart_sum y2 d2 p1 p2 (by omega) (by omega) (by omega) (by omega)
theorem kind_one {ax ay bx bz cx cy dx dy : Int} (h1 : validS ax ay bx bz = true) (h2 : validS cx cy dx dy = true) {q : Pt} (hq : q ∈ comS ax ay bx bz cx cy dx dy) (hall : ∀ z ∈ comS ax ay bx bz cx cy dx dy, z = q) : kindS ax ay bx bz cx cy dx dy = 1 := by
  rw [kind_is h1 h2]
  have hne : comS ax ay bx bz cx cy dx dy ≠ [] := by intro e; rw [e] at hq; cases hq
  rw [if_neg (by rw [List.isEmpty_iff]; exact hne), if_pos]
  rw [hall _ (first_mem hne), hall _ (lastV_is (com_asc ..) hne).1]
theorem kind_touch {a b c : Pt} (h1 : validE (a, b) = true) (h2 : validE (b, c) = true) (ht : crs a.1 a.2 b.1 b.2 c.1 c.2 ≠ 0) : kindE (a, b) (b, c) = 1 ∧ kindE (b, c) (a, b) = 1 := by
  obtain ⟨ax, ay⟩ := a
  obtain ⟨bx, bz⟩ := b
  obtain ⟨cx, cy⟩ := c
  unfold kindE
  simp only [validE] at h1 h2 ht ⊢
  have hu : ∀ x y, On ax ay bx bz x y → On bx bz cx cy x y → (x, y) = (bx, bz) := fun x y o1 o2 => by
    have hz := only_one (dx := bx - ax) (dy := bz - ay) (ex := cx - bx) (ey := cy - bz) (wx := x - bx) (wy := y - bz) (by intro e; apply ht; unfold crs; grind) (by have := o1.1; unfold crs at this; grind) (by have := o2.1; unfold crs at this; grind)
    rw [show x = bx by omega, show y = bz by omega]
  constructor
  · refine kind_one h1 h2 (q := (bx, bz)) (com_of h1 h2 (by simp) on_end_r on_end_l).1 fun z hz => ?_
    obtain ⟨_, _, o1, o2⟩ := com_lm h1 h2 (show (z.1, z.2) ∈ _ from hz)
    exact hu _ _ o1 o2
  · refine kind_one h2 h1 (q := (bx, bz)) (com_of h2 h1 (by simp) on_end_l on_end_r).1 fun z hz => ?_
    obtain ⟨_, _, o1, o2⟩ := com_lm h2 h1 (show (z.1, z.2) ∈ _ from hz)
    exact hu _ _ o2 o1

def rturnI (l : List Pt) (i : Nat) : Int := turnP (at_ l i) (at_ l ((i + 1) % l.length)) (at_ l ((i + 2) % l.length))
def nextP (n i k : Nat) : Bool := decide (k = i + 1) || (decide (i = 0) && decide (k = n - 1))
def rpairOk (l : List Pt) (i k : Nat) : Bool := decide (k < i + 1) || (if nextP l.length i k then kindE (edgeP l i) (edgeP l k) == 1 else kindE (edgeP l i) (edgeP l k) == 0)
def rturnsP (l : List Pt) : Bool := allTo l.length fun i => !(rturnI l i == 0)
def rsimpleP (l : List Pt) : Bool := allTo l.length fun i => allTo l.length fun k => rpairOk l i k
def rvalidR (l : List Pt) : Bool := decide (3 ≤ l.length) && decide (l.length ≤ 40) && allW l && rturnsP l && rsimpleP l && decide (0 < areaP l)
theorem rturn_is {l : List Pt} {i : Nat} (hi : i < l.length) : rturnI l i = turnI l ((i + 1) % l.length) := by
  unfold rturnI turnI
  have hn : 0 < l.length := by omega
  congr 2
  · rcases Nat.lt_or_ge (i + 1) l.length with h | h
    · rw [Nat.mod_eq_of_lt h, show i + 1 + l.length - 1 = i + l.length by omega, Nat.add_mod_right, Nat.mod_eq_of_lt hi]
    · rw [show i + 1 = l.length by omega, Nat.mod_self, Nat.zero_add, Nat.mod_eq_of_lt (by omega)]
      omega
  · rw [Nat.mod_add_mod]
theorem rturns_eq (l : List Pt) : rturnsP l = turnsP l := by
  apply Bool.eq_iff_iff.2
  unfold rturnsP turnsP
  rw [allTo_iff, allTo_iff]
  constructor
  · intro h i hi
    have := h ((i + l.length - 1) % l.length) (Nat.mod_lt _ (by omega))
    rw [rturn_is (Nat.mod_lt _ (by omega)), Nat.mod_add_mod, show i + l.length - 1 + 1 = i + l.length by omega, Nat.add_mod_right, Nat.mod_eq_of_lt hi] at this
    exact this
  · intro h i hi
    rw [rturn_is hi]
    exact h _ (Nat.mod_lt _ (by omega))
theorem w_lm {p : Pt} (h : wOk p = true) : (-2000 ≤ p.1 ∧ p.1 ≤ 2000 ∧ -2000 ≤ p.2 ∧ p.2 ≤ 2000) ∧ Lm p.1 p.2 := by
  unfold wOk withinV at h
  rw [show w64 (-2000) = -2000 from w64_id ⟨by omega, by omega⟩] at h
  simp only [Bool.and_eq_true, decide_eq_true_eq] at h
  unfold Lm
  omega
theorem w_iff {p : Pt} : wOk p = true ↔ (-2000 ≤ p.1 ∧ p.1 ≤ 2000 ∧ -2000 ≤ p.2 ∧ p.2 ≤ 2000) := by
  refine ⟨fun h => (w_lm h).1, fun h => ?_⟩
  unfold wOk withinV
  rw [show w64 (-2000) = -2000 from w64_id ⟨by omega, by omega⟩]
  simp only [Bool.and_eq_true, decide_eq_true_eq]
  omega
theorem lm_valid {e : Ed} (h1 : Lm e.1.1 e.1.2) (h2 : Lm e.2.1 e.2.2) : validE e = true := by
  unfold validE validS
  rw [Bool.and_eq_true, within_lm, within_lm]
  exact ⟨h1, h2⟩
theorem edge_valid {l : List Pt} (hw : allW l = true) {i : Nat} (hi : i < l.length) : validE (edgeP l i) = true :=
  lm_valid (w_lm (allTo_iff.1 hw i hi)).2 (w_lm (allTo_iff.1 hw _ (Nat.mod_lt _ (by omega)))).2
theorem edge_next {l : List Pt} (hw : allW l = true) (ht : turnsP l = true) {i : Nat} (hi : i < l.length) : kindE (edgeP l i) (edgeP l ((i + 1) % l.length)) = 1 ∧ kindE (edgeP l ((i + 1) % l.length)) (edgeP l i) = 1 := by
  have hn : 0 < l.length := by omega
  have h := allTo_iff.1 ht ((i + 1) % l.length) (Nat.mod_lt _ hn)
  rw [← rturn_is hi] at h
  unfold rturnI at h
  have e : edgeP l ((i + 1) % l.length) = (at_ l ((i + 1) % l.length), at_ l ((i + 2) % l.length)) := by
    unfold edgeP
    rw [Nat.mod_add_mod]
  have v1 := edge_valid hw hi
  have v2 := edge_valid hw (i := (i + 1) % l.length) (Nat.mod_lt _ hn)
  rw [e] at v2 ⊢
  unfold edgeP at v1 ⊢
  refine kind_touch v1 v2 fun hc => ?_
  unfold turnP at h
  rw [turn_lm (w_lm (allTo_iff.1 hw _ hi)).2 (w_lm (allTo_iff.1 hw _ (Nat.mod_lt _ hn))).2 (w_lm (allTo_iff.1 hw _ (Nat.mod_lt _ hn))).2, hc] at h
  simp [sgn] at h
theorem rvalid_eq (l : List Pt) : rvalidR l = validR l := by
  apply Bool.eq_iff_iff.2
  unfold rvalidR validR
  simp only [Bool.and_eq_true, decide_eq_true_eq, rturns_eq]
  constructor
  · rintro ⟨⟨⟨⟨⟨h1, h2⟩, h3⟩, h4⟩, h5⟩, h6⟩
    refine ⟨⟨⟨⟨⟨h1, h2⟩, h3⟩, h4⟩, h6⟩, allTo_iff.2 fun i hi => allTo_iff.2 fun j hj => ?_⟩
    unfold pairOk
    have h := allTo_iff.1 (allTo_iff.1 h5 i hi) j hj
    unfold rpairOk nextP at h
    by_cases c1 : j < i + 2
    · simp [c1]
    · by_cases c2 : (j + 1) % l.length = i
      · simp [c2]
      · have c3 : ¬ (i = 0 ∧ j = l.length - 1) := by
          rintro ⟨rfl, rfl⟩
          apply c2
          rw [show l.length - 1 + 1 = l.length by omega, Nat.mod_self]
        have c4 : ¬ j < i + 1 := by omega
        have c5 : ¬ j = i + 1 := by omega
        simp [c4, c5] at h
        split at h
        · rename_i c6; exact absurd c6 c3
        · simp [h]
  · rintro ⟨⟨⟨⟨⟨h1, h2⟩, h3⟩, h4⟩, h6⟩, h5⟩
    refine ⟨⟨⟨⟨⟨h1, h2⟩, h3⟩, h4⟩, allTo_iff.2 fun i hi => allTo_iff.2 fun j hj => ?_⟩, h6⟩
    have h := allTo_iff.1 (allTo_iff.1 h5 i hi) j hj
    unfold pairOk at h
    unfold rpairOk
    by_cases c1 : j < i + 1
    · simp [c1]
    · by_cases c2 : nextP l.length i j = true
      · rw [if_pos c2]
        unfold nextP at c2
        simp only [Bool.or_eq_true, Bool.and_eq_true, decide_eq_true_eq] at c2
        rcases c2 with rfl | ⟨rfl, rfl⟩
        · have := (edge_next h3 h4 hi).1
          rw [Nat.mod_eq_of_lt hj] at this
          simp [this]
        · have := (edge_next h3 h4 hj).2
          rw [show l.length - 1 + 1 = l.length by omega, Nat.mod_self] at this
          simp [this]
      · rw [if_neg c2]
        unfold nextP at c2
        simp only [Bool.or_eq_true, Bool.and_eq_true, decide_eq_true_eq] at c2
        have c3 : ¬ j < i + 2 := by omega
        have c4 : ¬ (j + 1) % l.length = i := by
          intro e
          rcases Nat.lt_or_ge (j + 1) l.length with hh | hh
          · rw [Nat.mod_eq_of_lt hh] at e; omega
          · rw [show j + 1 = l.length by omega, Nat.mod_self] at e
            exact c2 (.inr ⟨e.symm, by omega⟩)
        simp [c3, c4] at h
        rcases h with h | h
        · simp [kind_apart h (edge_valid h3 hi) (edge_valid h3 hj)]
        · simp [h]
end Go.Proofs.Ytahamffngmdjfaa.G
