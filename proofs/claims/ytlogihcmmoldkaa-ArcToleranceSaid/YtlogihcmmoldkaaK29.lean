/-
  ring, plain: the reference's way to say which rings are valid is the program's. No condition.
  ring: areApart. No condition.
-/
import Derived.Test.YtlogihcmmoldkaaK27
import Derived.Test.YtlogihcmmoldkaaK13
import Derived.BigFrame
import Derived.BigGuard
namespace Go.Proofs.Ytlogihcmmoldkaa.G
open Go.RowKit Go.Proofs.Ytlogihcmmoldkaa.V Go.Proofs.Ytlogihcmmoldkaa.W

theorem apart_sum {a b c d al be ga de : Int} (h : a * be - b * al = -(c * de - d * ga)) (h2 : be - al = -(de - ga)) (h3 : al * be < 0) (h4 : ga * de < 0) (g1 : a < c) (g2 : a < d) (g3 : b < c) (g4 : b < d) : False := by
  obtain ⟨M, hM⟩ : ∃ M, max a b = M := ⟨_, rfl⟩
  obtain ⟨a1, ha⟩ : ∃ a1, a = M - a1 := ⟨M - a, by omega⟩
  obtain ⟨b1, hb⟩ : ∃ b1, b = M - b1 := ⟨M - b, by omega⟩
  obtain ⟨c1, hc⟩ : ∃ c1, c = M + c1 := ⟨c - M, by omega⟩
  obtain ⟨d1, hd⟩ : ∃ d1, d = M + d1 := ⟨d - M, by omega⟩
  have k1 : 0 ≤ a1 := by omega
  have k2 : 0 ≤ b1 := by omega
  have k3 : 0 < c1 := by omega
  have k4 : 0 < d1 := by omega
  subst ha hb hc hd
  have e : -(a1 * be) + b1 * al + c1 * de - d1 * ga = M * (be - al + (de - ga)) - ((M - a1) * be - (M - b1) * al + ((M + c1) * de - (M + d1) * ga)) + 2 * (-(a1 * be) + b1 * al + c1 * de - d1 * ga) := by grind
  rw [show be - al + (de - ga) = 0 by omega, Int.mul_zero] at e
  have e' : -(a1 * be) + b1 * al + c1 * de - d1 * ga = 0 := by omega
  clear e h hM g1 g2 g3 g4
  rcases Int.lt_trichotomy al 0 with s | s | s
  · have t : 0 < be := by
      rcases Int.lt_or_le 0 be with t | t
      · exact t
      · have := Int.mul_nonneg_of_nonpos_of_nonpos (Int.le_of_lt s) t; omega
    have u : 0 < ga ∧ de < 0 := by
      rcases Int.lt_or_le 0 ga with u | u
      · refine ⟨u, ?_⟩
        rcases Int.lt_or_le de 0 with v | v
        · exact v
        · have := Int.mul_nonneg (Int.le_of_lt u) v; omega
      · have : 0 ≤ ga * de := Int.mul_nonneg_of_nonpos_of_nonpos u (by omega)
        omega
    have p1 := Int.mul_nonneg k1 (Int.le_of_lt t)
    have p2 := Int.mul_nonpos_of_nonneg_of_nonpos k2 (Int.le_of_lt s)
    have p3 := Int.mul_neg_of_pos_of_neg k3 u.2
    have p4 := Int.mul_pos k4 u.1
    omega
  · rw [s, Int.zero_mul] at h3
    omega
  · have t : be < 0 := by
      rcases Int.lt_or_le be 0 with t | t
      · exact t
      · have := Int.mul_nonneg (Int.le_of_lt s) t; omega
    have u : ga < 0 ∧ 0 < de := by
      rcases Int.lt_or_le ga 0 with u | u
      · refine ⟨u, ?_⟩
        rcases Int.lt_or_le 0 de with v | v
        · exact v
        · have := Int.mul_nonneg_of_nonpos_of_nonpos (Int.le_of_lt u) v; omega
      · have : 0 ≤ ga * de := Int.mul_nonneg u (by omega)
        omega
    have p1 := Int.mul_nonpos_of_nonneg_of_nonpos k1 (Int.le_of_lt t)
    have p2 := Int.mul_nonneg k2 (Int.le_of_lt s)
    have p3 := Int.mul_pos k3 u.2
    have p4 := Int.mul_neg_of_pos_of_neg k4 u.1
    omega
theorem cross_x (ax ay bx bz cx cy dx dy : Int) : ax * crs cx cy dx dy bx bz - bx * crs cx cy dx dy ax ay = -(cx * crs ax ay bx bz dx dy - dx * crs ax ay bx bz cx cy) := by unfold crs; grind
theorem cross_y (ax ay bx bz cx cy dx dy : Int) : ay * crs cx cy dx dy bx bz - bz * crs cx cy dx dy ax ay = -(cy * crs ax ay bx bz dx dy - dy * crs ax ay bx bz cx cy) := by unfold crs; grind
theorem cross_d (ax ay bx bz cx cy dx dy : Int) : crs cx cy dx dy bx bz - crs cx cy dx dy ax ay = -(crs ax ay bx bz dx dy - crs ax ay bx bz cx cy) := by unfold crs; grind
def validE (e : Ed) : Bool := validS e.1.1 e.1.2 e.2.1 e.2.2
theorem kind_apart {e f : Ed} (h : apartE e f = true) (h1 : validE e = true) (h2 : validE f = true) : kindE e f = 0 := by
  obtain ⟨⟨ax, ay⟩, ⟨bx, bz⟩⟩ := e
  obtain ⟨⟨cx, cy⟩, ⟨dx, dy⟩⟩ := f
  unfold kindE
  simp only [validE] at h1 h2 ⊢
  simp only [apartE, Bool.or_eq_true, decide_eq_true_eq] at h
  obtain ⟨ha, hb⟩ := valid_lm h1
  obtain ⟨hc, hd⟩ := valid_lm h2
  rw [kind_is h1 h2]
  have hno : comS ax ay bx bz cx cy dx dy = [] := by
    match hm : comS ax ay bx bz cx cy dx dy with
    | [] => rfl
    | (x, y) :: r =>
      obtain ⟨_, _, o1, o2⟩ := com_lm h1 h2 (show (x, y) ∈ comS ax ay bx bz cx cy dx dy by rw [hm]; exact List.mem_cons_self)
      have g1 := ((on_box ..).1 o1).1
      have g2 := ((on_box ..).1 o2).1
      omega
  rw [hno, List.isEmpty_nil, if_pos rfl]
  refine if_neg fun hh => ?_
  rw [Bool.and_eq_true, part_lm ha hb hc hd, part_lm hc hd ha hb] at hh
  obtain ⟨p1, p2⟩ := hh
  unfold Prt at p1 p2
  have x1 := cross_x ax ay bx bz cx cy dx dy
  have y1 := cross_y ax ay bx bz cx cy dx dy
  have d1 := cross_d ax ay bx bz cx cy dx dy
  have x2 := cross_x cx cy dx dy ax ay bx bz
  have y2 := cross_y cx cy dx dy ax ay bx bz
  have d2 := cross_d cx cy dx dy ax ay bx bz
  rcases h with ((h | h) | h) | h
  · exact apart_sum x1 d1 p2 p1 (by omega) (by omega) (by omega) (by omega)
  · exact apart_sum x2 d2 p1 p2 (by omega) (by omega) (by omega) (by omega)
  · exact apart_sum y1 d1 p2 p1 (by omega) (by omega) (by omega) (by omega)
  · exact apart_sum y2 d2 p1 p2 (by omega) (by omega) (by omega) (by omega)
theorem kind_one {ax ay bx bz cx cy dx dy : Int} (h1 : validS ax ay bx bz = true) (h2 : validS cx cy dx dy = true) {q : Pt} (hq : q ∈ comS ax ay bx bz cx cy dx dy) (hall : ∀ z ∈ comS ax ay bx bz cx cy dx dy, z = q) : kindS ax ay bx bz cx cy dx dy = 1 := by
  rw [kind_is h1 h2]
  have hne : comS ax ay bx bz cx cy dx dy ≠ [] := by intro e; rw [e] at hq; cases hq
  rw [if_neg (by rw [List.isEmpty_iff]; exact hne), if_pos]
  rw [hall _ (first_mem hne), hall _ (lastV_is (com_asc ..) hne).1]
theorem kind_touch {a b c : Pt} (h1 : validE (a, b) = true) (h2 : validE (b, c) = true) (ht : crs a.1 a.2 b.1 b.2 c.1 c.2 ≠ 0) : kindE (a, b) (b, c) = 1 ∧ kindE (b, c) (a, b) = 1 := by
  obtain ⟨ax, ay⟩ := a
  obtain ⟨bx, bz⟩ := b
  obtain ⟨cx, cy⟩ := c
  unfold kindE
  simp only [validE] at h1 h2 ht ⊢
  have hu : ∀ x y, On ax ay bx bz x y → On bx bz cx cy x y → (x, y) = (bx, bz) := fun x y o1 o2 => by
    have hz := only_one (dx := bx - ax) (dy := bz - ay) (ex := cx - bx) (ey := cy - bz) (wx := x - bx) (wy := y - bz) (by intro e; apply ht; unfold crs; grind) (by have := o1.1; unfold crs at this; grind) (by have := o2.1; unfold crs at this; grind)
    rw [show x = bx by omega, show y = bz by omega]
  constructor
  · refine kind_one h1 h2 (q := (bx, bz)) (com_of h1 h2 (by simp) on_end_r on_end_l).1 fun z hz => ?_
    obtain ⟨_, _, o1, o2⟩ := com_lm h1 h2 (show (z.1, z.2) ∈ _ from hz)
    exact hu _ _ o1 o2
  · refine kind_one h2 h1 (q := (bx, bz)) (com_of h2 h1 (by simp) on_end_l on_end_r).1 fun z hz => ?_
    obtain ⟨_, _, o1, o2⟩ := com_lm h2 h1 (show (z.1, z.2) ∈ _ from hz)
    exact hu _ _ o2 o1

def rturnI (l : List Pt) (i : Nat) : Int := turnP (at_ l i) (at_ l ((i + 1) % l.length)) (at_ l ((i + 2) % l.length))
def nextP (n i k : Nat) : Bool := decide (k = i + 1) || (decide (i = 0) && decide (k = n - 1))
def rpairOk (l : List Pt) (i k : Nat) : Bool := decide (k < i + 1) || (if nextP l.length i k then kindE (edgeP l i) (edgeP l k) == 1 else kindE (edgeP l i) (edgeP l k) == 0)
def rturnsP (l : List Pt) : Bool := allTo l.length fun i => !(rturnI l i == 0)
def rsimpleP (l : List Pt) : Bool := allTo l.length fun i => allTo l.length fun k => rpairOk l i k
def rvalidR (l : List Pt) : Bool := decide (3 ≤ l.length) && decide (l.length ≤ 40) && allW l && rturnsP l && rsimpleP l && decide (0 < areaP l)
theorem rturn_is {l : List Pt} {i : Nat} (hi : i < l.length) : rturnI l i = turnI l ((i + 1) % l.length) := by
  unfold rturnI turnI
  have hn : 0 < l.length := by omega
  congr 2
  · rcases Nat.lt_or_ge (i + 1) l.length with h | h
    · rw [Nat.mod_eq_of_lt h, show i + 1 + l.length - 1 = i + l.length by omega, Nat.add_mod_right, Nat.mod_eq_of_lt hi]
    · rw [show i + 1 = l.length by omega, Nat.mod_self, Nat.zero_add, Nat.mod_eq_of_lt (by omega)]
      omega
  · rw [Nat.mod_add_mod]
theorem rturns_eq (l : List Pt) : rturnsP l = turnsP l := by
  apply Bool.eq_iff_iff.2
  unfold rturnsP turnsP
  rw [allTo_iff, allTo_iff]
  constructor
  · intro h i hi
    have := h ((i + l.length - 1) % l.length) (Nat.mod_lt _ (by omega))
    rw [rturn_is (Nat.mod_lt _ (by omega)), Nat.mod_add_mod, show i + l.length - 1 + 1 = i + l.length by omega, Nat.add_mod_right, Nat.mod_eq_of_lt hi] at this
    exact this
  · intro h i hi
    rw [rturn_is hi]
    exact h _ (Nat.mod_lt _ (by omega))
theorem w_lm {p : Pt} (h : wOk p = true) : (-2000 ≤ p.1 ∧ p.1 ≤ 2000 ∧ -2000 ≤ p.2 ∧ p.2 ≤ 2000) ∧ Lm p.1 p.2 := by
  unfold wOk withinV at h
  rw [show w64 (-2000) = -2000 from w64_id ⟨by omega, by omega⟩] at h
  simp only [Bool.and_eq_true, decide_eq_true_eq] at h
  unfold Lm
  omega
theorem w_iff {p : Pt} : wOk p = true ↔ (-2000 ≤ p.1 ∧ p.1 ≤ 2000 ∧ -2000 ≤ p.2 ∧ p.2 ≤ 2000) := by
  refine ⟨fun h => (w_lm h).1, fun h => ?_⟩
  unfold wOk withinV
  rw [show w64 (-2000) = -2000 from w64_id ⟨by omega, by omega⟩]
  simp only [Bool.and_eq_true, decide_eq_true_eq]
  omega
theorem lm_valid {e : Ed} (h1 : Lm e.1.1 e.1.2) (h2 : Lm e.2.1 e.2.2) : validE e = true := by
  unfold validE validS
  rw [Bool.and_eq_true, within_lm, within_lm]
  exact ⟨h1, h2⟩
theorem edge_valid {l : List Pt} (hw : allW l = true) {i : Nat} (hi : i < l.length) : validE (edgeP l i) = true :=
  lm_valid (w_lm (allTo_iff.1 hw i hi)).2 (w_lm (allTo_iff.1 hw _ (Nat.mod_lt _ (by omega)))).2
theorem edge_next {l : List Pt} (hw : allW l = true) (ht : turnsP l = true) {i : Nat} (hi : i < l.length) : kindE (edgeP l i) (edgeP l ((i + 1) % l.length)) = 1 ∧ kindE (edgeP l ((i + 1) % l.length)) (edgeP l i) = 1 := by
  have hn : 0 < l.length := by omega
  have h := allTo_iff.1 ht ((i + 1) % l.length) (Nat.mod_lt _ hn)
  rw [← rturn_is hi] at h
  unfold rturnI at h
  have e : edgeP l ((i + 1) % l.length) = (at_ l ((i + 1) % l.length), at_ l ((i + 2) % l.length)) := by
    unfold edgeP
    rw [Nat.mod_add_mod]
  have v1 := edge_valid hw hi
  have v2 := edge_valid hw (i := (i + 1) % l.length) (Nat.mod_lt _ hn)
  rw [e] at v2 ⊢
  unfold edgeP at v1 ⊢
  refine kind_touch v1 v2 fun hc => ?_
  unfold turnP at h
  rw [turn_lm (w_lm (allTo_iff.1 hw _ hi)).2 (w_lm (allTo_iff.1 hw _ (Nat.mod_lt _ hn))).2 (w_lm (allTo_iff.1 hw _ (Nat.mod_lt _ hn))).2, hc] at h
  simp [sgn] at h
theorem rvalid_eq (l : List Pt) : rvalidR l = validR l := by
  apply Bool.eq_iff_iff.2
  unfold rvalidR validR
  simp only [Bool.and_eq_true, decide_eq_true_eq, rturns_eq]
  constructor
  · rintro ⟨⟨⟨⟨⟨h1, h2⟩, h3⟩, h4⟩, h5⟩, h6⟩
    refine ⟨⟨⟨⟨⟨h1, h2⟩, h3⟩, h4⟩, h6⟩, allTo_iff.2 fun i hi => allTo_iff.2 fun j hj => ?_⟩
    unfold pairOk
    have h := allTo_iff.1 (allTo_iff.1 h5 i hi) j hj
    unfold rpairOk nextP at h
    by_cases c1 : j < i + 2
    · simp [c1]
    · by_cases c2 : (j + 1) % l.length = i
      · simp [c2]
      · have c3 : ¬ (i = 0 ∧ j = l.length - 1) := by
          rintro ⟨rfl, rfl⟩
          apply c2
          rw [show l.length - 1 + 1 = l.length by omega, Nat.mod_self]
        have c4 : ¬ j < i + 1 := by omega
        have c5 : ¬ j = i + 1 := by omega
        simp [c4, c5] at h
        split at h
        · rename_i c6; exact absurd c6 c3
        · simp [h]
  · rintro ⟨⟨⟨⟨⟨h1, h2⟩, h3⟩, h4⟩, h6⟩, h5⟩
    refine ⟨⟨⟨⟨⟨h1, h2⟩, h3⟩, h4⟩, allTo_iff.2 fun i hi => allTo_iff.2 fun j hj => ?_⟩, h6⟩
    have h := allTo_iff.1 (allTo_iff.1 h5 i hi) j hj
    unfold pairOk at h
    unfold rpairOk
    by_cases c1 : j < i + 1
    · simp [c1]
    · by_cases c2 : nextP l.length i j = true
      · rw [if_pos c2]
        unfold nextP at c2
        simp only [Bool.or_eq_true, Bool.and_eq_true, decide_eq_true_eq] at c2
        rcases c2 with rfl | ⟨rfl, rfl⟩
        · have := (edge_next h3 h4 hi).1
          rw [Nat.mod_eq_of_lt hj] at this
          simp [this]
        · have := (edge_next h3 h4 hj).2
          rw [show l.length - 1 + 1 = l.length by omega, Nat.mod_self] at this
          simp [this]
      · rw [if_neg c2]
        unfold nextP at c2
        simp only [Bool.or_eq_true, Bool.and_eq_true, decide_eq_true_eq] at c2
        have c3 : ¬ j < i + 2 := by omega
        have c4 : ¬ (j + 1) % l.length = i := by
          intro e
          rcases Nat.lt_or_ge (j + 1) l.length with hh | hh
          · rw [Nat.mod_eq_of_lt hh] at e; omega
          · rw [show j + 1 = l.length by omega, Nat.mod_self] at e
            exact c2 (.inr ⟨e.symm, by omega⟩)
        simp [c3, c4] at h
        rcases h with h | h
        · simp [kind_apart h (edge_valid h3 hi) (edge_valid h3 hj)]
        · simp [h]
end Go.Proofs.Ytlogihcmmoldkaa.G

namespace Go.Proofs.Ytlogihcmmoldkaa.W
open Go.RowKit Go.Proofs.Ytlogihcmmoldkaa.V Go.Proofs.Ytlogihcmmoldkaa.G


set_option maxRecDepth 100000 in
set_option maxHeartbeats 6400000 in
theorem areApart_any (ax ay bx bz cx cy dx dy : Int) (w : World) : Calls Try.prog 77 #[sV ax ay bx bz, sV cx cy dx dy] w fun e w' => e = .returned (.bool (apartE ((ax, ay), (bx, bz)) ((cx, cy), (dx, dy)))) ∧ Nw w w' := by
  have hmix := mixed7
  have hA : apartE ((ax, ay), (bx, bz)) ((cx, cy), (dx, dy)) = (decide (max ax bx < min cx dx) || decide (max cx dx < min ax bx) || decide (max ay bz < min cy dy) || decide (max cy dy < min ay bz)) := rfl
  rw [hA]
  clear hA
  have hb0 : Blk ((w.alloc (.cells #[.int .i64 ax, .int .i64 ay, .int .i64 bx, .int .i64 bz] 76)).alloc (.cells #[.int .i64 cx, .int .i64 cy, .int .i64 dx, .int .i64 dy] 76)) (w.heap.size) 76 #[.int .i64 ax, .int .i64 ay, .int .i64 bx, .int .i64 bz] := (Blk.new_at w 76 #[.int .i64 ax, .int .i64 ay, .int .i64 bx, .int .i64 bz] (n := w.heap.size) (by simp)).alloc _
  have q0 := hb0.cell 0
  have q1 := hb0.cell 1
  have q2 := hb0.cell 2
  have q3 := hb0.cell 3
  have hb1 : Blk ((w.alloc (.cells #[.int .i64 ax, .int .i64 ay, .int .i64 bx, .int .i64 bz] 76)).alloc (.cells #[.int .i64 cx, .int .i64 cy, .int .i64 dx, .int .i64 dy] 76)) (w.heap.size + 1) 76 #[.int .i64 cx, .int .i64 cy, .int .i64 dx, .int .i64 dy] := Blk.new_at (w.alloc (.cells #[.int .i64 ax, .int .i64 ay, .int .i64 bx, .int .i64 bz] 76)) 76 #[.int .i64 cx, .int .i64 cy, .int .i64 dx, .int .i64 dy] (n := w.heap.size + 1) (by simp)
  have q4 := hb1.cell 0
  have q5 := hb1.cell 1
  have q6 := hb1.cell 2
  have q7 := hb1.cell 3
  obtain ⟨W, hW⟩ : ∃ W, ((w.alloc (.cells #[.int .i64 ax, .int .i64 ay, .int .i64 bx, .int .i64 bz] 76)).alloc (.cells #[.int .i64 cx, .int .i64 cy, .int .i64 dx, .int .i64 dy] 76)) = W := ⟨_, rfl⟩
  rw [hW] at q0 q1 q2 q3 q4 q5 q6 q7
  have HW := Lib.hid (show Nw w W by rw [← hW]; exact (nw_alloc _ _).alloc _)
  clear hb0 hb1
  obtain ⟨M1, hM1⟩ : ∃ m, max ax bx = m := ⟨_, rfl⟩
  obtain ⟨M3, hM3⟩ : ∃ m, max cx dx = m := ⟨_, rfl⟩
  obtain ⟨M2, hM2⟩ : ∃ m, max ay bz = m := ⟨_, rfl⟩
  obtain ⟨M4, hM4⟩ : ∃ m, max cy dy = m := ⟨_, rfl⟩
  obtain ⟨m3, hm3⟩ : ∃ m, min cx dx = m := ⟨_, rfl⟩
  obtain ⟨m1, hm1⟩ : ∃ m, min ax bx = m := ⟨_, rfl⟩
  obtain ⟨m4, hm4⟩ : ∃ m, min cy dy = m := ⟨_, rfl⟩
  obtain ⟨m2, hm2⟩ : ∃ m, min ay bz = m := ⟨_, rfl⟩
  rw [hM1, hm3, hM3, hm1, hM2, hm4, hM4, hm2]
  by_cases g0 : M1 < m3
  · have f0 : decide (M1 < m3) = true := decide_eq_true g0
    clear g0
    go_enter Try.func77, Try.ntmps77
    go_step
    iterate 14 go_step
    simp only [List.append_eq, List.cons_append, List.nil_append]
    go_wp2_with fail
    go_ret
    exact ⟨by simp [f0], HW.out⟩
  have f0 : decide (M1 < m3) = false := decide_eq_false g0
  by_cases g1 : M3 < m1
  · have f1 : decide (M3 < m1) = true := decide_eq_true g1
    clear g0 g1
    go_enter Try.func77, Try.ntmps77
    go_step
    iterate 14 go_step
    simp only [List.append_eq, List.cons_append, List.nil_append]
    go_wp2_with fail
    go_ret
    exact ⟨by simp [f0, f1], HW.out⟩
  have f1 : decide (M3 < m1) = false := decide_eq_false g1
  by_cases g2 : M2 < m4
  · have f2 : decide (M2 < m4) = true := decide_eq_true g2
    clear g0 g1 g2
    go_enter Try.func77, Try.ntmps77
    go_step
    iterate 14 go_step
    simp only [List.append_eq, List.cons_append, List.nil_append]
    go_wp2_with fail
    go_ret
    exact ⟨by simp [f0, f1, f2], HW.out⟩
  have f2 : decide (M2 < m4) = false := decide_eq_false g2
  by_cases g3 : M4 < m2
  · have f3 : decide (M4 < m2) = true := decide_eq_true g3
    clear g0 g1 g2 g3
    go_enter Try.func77, Try.ntmps77
    go_step
    iterate 14 go_step
    simp only [List.append_eq, List.cons_append, List.nil_append]
    go_wp2_with fail
    go_ret
    exact ⟨by simp [f0, f1, f2, f3], HW.out⟩
  have f3 : decide (M4 < m2) = false := decide_eq_false g3
  clear g0 g1 g2 g3
  go_enter Try.func77, Try.ntmps77
  go_step
  iterate 14 go_step
  simp only [List.append_eq, List.cons_append, List.nil_append]
  go_wp2_with fail
  go_ret
  exact ⟨by simp [f0, f1, f2, f3], HW.out⟩

end Go.Proofs.Ytlogihcmmoldkaa.W
