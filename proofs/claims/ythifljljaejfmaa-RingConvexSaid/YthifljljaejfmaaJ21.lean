/-
  ring, plain: the reference's way to say which rings are valid is the program's. No condition.
  seg, plain: how two segments meet does not depend on their order, nor on that of their ends, and is moved with them. Conditions stand at each lemma.
-/
import Derived.Test.YthifljljaejfmaaJ20
namespace Go.Proofs.Ythifljljaejfmaa.G
open Go.RowKit Go.Proofs.Ythifljljaejfmaa.V Go.Proofs.Ythifljljaejfmaa.W

theorem apart_sum {a b c d al be ga de : Int} (h : a * be - b * al = -(c * de - d * ga)) (h2 : be - al = -(de - ga)) (h3 : al * be < 0) (h4 : ga * de < 0) (g1 : a < c) (g2 : a < d) (g3 : b < c) (g4 : b < d) : False := by
  obtain ⟨M, hM⟩ : ∃ M, max a b = M := ⟨_, rfl⟩
  obtain ⟨a1, ha⟩ : ∃ a1, a = M - a1 := ⟨M - a, by omega⟩
  obtain ⟨b1, hb⟩ : ∃ b1, b = M - b1 := ⟨M - b, by omega⟩
  obtain ⟨c1, hc⟩ : ∃ c1, c = M + c1 := ⟨c - M, by omega⟩
  obtain ⟨d1, hd⟩ : ∃ d1, d = M + d1 := ⟨d - M, by omega⟩
  have k1 : 0 ≤ a1 := by omega
  have k2 : 0 ≤ b1 := by omega
  have k3 : 0 < c1 := by omega
  have k4 : 0 < d1 := by omega
  subst ha hb hc hd
  have e : -(a1 * be) + b1 * al + c1 * de - d1 * ga = M * (be - al + (de - ga)) - ((M - a1) * be - (M - b1) * al + ((M + c1) * de - (M + d1) * ga)) + 2 * (-(a1 * be) + b1 * al + c1 * de - d1 * ga) := by grind
  rw [show be - al + (de - ga) = 0 by omega, Int.mul_zero] at e
  have e' : -(a1 * be) + b1 * al + c1 * de - d1 * ga = 0 := by omega
  clear e h hM g1 g2 g3 g4
  rcases Int.lt_trichotomy al 0 with s | s | s
  · have t : 0 < be := by
      rcases Int.lt_or_le 0 be with t | t
      · exact t
      · have := Int.mul_nonneg_of_nonpos_of_nonpos (Int.le_of_lt s) t; omega
    have u : 0 < ga ∧ de < 0 := by
      rcases Int.lt_or_le 0 ga with u | u
      · refine ⟨u, ?_⟩
        rcases Int.lt_or_le de 0 with v | v
        · exact v
        · have := Int.mul_nonneg (Int.le_of_lt u) v; omega
      · have : 0 ≤ ga * de := Int.mul_nonneg_of_nonpos_of_nonpos u (by omega)
        omega
    have p1 := Int.mul_nonneg k1 (Int.le_of_lt t)
    have p2 := Int.mul_nonpos_of_nonneg_of_nonpos k2 (Int.le_of_lt s)
    have p3 := Int.mul_neg_of_pos_of_neg k3 u.2
    have p4 := Int.mul_pos k4 u.1
    omega
  · rw [s, Int.zero_mul] at h3
    omega
  · have t : be < 0 := by
      rcases Int.lt_or_le be 0 with t | t
      · exact t
      · have := Int.mul_nonneg (Int.le_of_lt s) t; omega
    have u : ga < 0 ∧ 0 < de := by
      rcases Int.lt_or_le ga 0 with u | u
      · refine ⟨u, ?_⟩
        rcases Int.lt_or_le 0 de with v | v
        · exact v
        · have := Int.mul_nonneg_of_nonpos_of_nonpos (Int.le_of_lt u) v; omega
      · have : 0 ≤ ga * de := Int.mul_nonneg u (by omega)
        omega
    have p1 := Int.mul_nonpos_of_nonneg_of_nonpos k1 (Int.le_of_lt t)
    have p2 := Int.mul_nonneg k2 (Int.le_of_lt s)
    have p3 := Int.mul_pos k3 u.2
    have p4 := Int.mul_neg_of_pos_of_neg k4 u.1
    omega
theorem cross_x (ax ay bx bz cx cy dx dy : Int) : ax * crs cx cy dx dy bx bz - bx * crs cx cy dx dy ax ay = -(cx * crs ax ay bx bz dx dy - dx * crs ax ay bx bz cx cy) := by unfold crs; grind
theorem cross_y (ax ay bx bz cx cy dx dy : Int) : ay * crs cx cy dx dy bx bz - bz * crs cx cy dx dy ax ay = -(cy * crs ax ay bx bz dx dy - dy * crs ax ay bx bz cx cy) := by unfold crs; grind
theorem cross_d (ax ay bx bz cx cy dx dy : Int) : crs cx cy dx dy bx bz - crs cx cy dx dy ax ay = -(crs ax ay bx bz dx dy - crs ax ay bx bz cx cy) := by unfold crs; grind
def validE (e : Ed) : Bool := validS e.1.1 e.1.2 e.2.1 e.2.2
theorem kind_apart {e f : Ed} (h : apartE e f = true) (h1 : validE e = true) (h2 : validE f = true) : kindE e f = 0 := by
  obtain ⟨⟨ax, ay⟩, ⟨bx, bz⟩⟩ := e
  obtain ⟨⟨cx, cy⟩, ⟨dx, dy⟩⟩ := f
  unfold kindE
  simp only [validE] at h1 h2 ⊢
  simp only [apartE, Bool.or_eq_true, decide_eq_true_eq] at h
  obtain ⟨ha, hb⟩ := valid_lm h1
  obtain ⟨hc, hd⟩ := valid_lm h2
  rw [kind_is h1 h2]
  have hno : comS ax ay bx bz cx cy dx dy = [] := by
    match hm : comS ax ay bx bz cx cy dx dy with
    | [] => rfl
    | (x, y) :: r =>
      obtain ⟨_, _, o1, o2⟩ := com_lm h1 h2 (show (x, y) ∈ comS ax ay bx bz cx cy dx dy by rw [hm]; exact List.mem_cons_self)
      have g1 := ((on_box ..).1 o1).1
      have g2 := ((on_box ..).1 o2).1
      omega
  rw [hno, List.isEmpty_nil, if_pos rfl]
  refine if_neg fun hh => ?_
  rw [Bool.and_eq_true, part_lm ha hb hc hd, part_lm hc hd ha hb] at hh
  obtain ⟨p1, p2⟩ := hh
  unfold Prt at p1 p2
  have x1 := cross_x ax ay bx bz cx cy dx dy
  have y1 := cross_y ax ay bx bz cx cy dx dy
  have d1 := cross_d ax ay bx bz cx cy dx dy
  have x2 := cross_x cx cy dx dy ax ay bx bz
  have y2 := cross_y cx cy dx dy ax ay bx bz
  have d2 := cross_d cx cy dx dy ax ay bx bz
  rcases h with ((h | h) | h) | h
  · exact apart_sum x1 d1 p2 p1 (by omega) (by omega) (by omega) (by omega)
  · exact apart_sum x2 d2 p1 p2 (by omega) (by omega) (by omega) (by omega)
  · exact apart_sum y1 d1 p2 p1 (by omega) (by omega) (by omega) (by omega)
  · exact apart_sum y2 d2 p1 p2 (by omega) (by omega) (by omega) (by omega)
theorem kind_one {ax ay bx bz cx cy dx dy : Int} (h1 : validS ax ay bx bz = true) (h2 : validS cx cy dx dy = true) {q : Pt} (hq : q ∈ comS ax ay bx bz cx cy dx dy) (hall : ∀ z ∈ comS ax ay bx bz cx cy dx dy, z = q) : kindS ax ay bx bz cx cy dx dy = 1 := by
  rw [kind_is h1 h2]
  have hne : comS ax ay bx bz cx cy dx dy ≠ [] := by intro e; rw [e] at hq; cases hq
  rw [if_neg (by rw [List.isEmpty_iff]; exact hne), if_pos]
  rw [hall _ (first_mem hne), hall _ (lastV_is (com_asc ..) hne).1]
theorem kind_touch {a b c : Pt} (h1 : validE (a, b) = true) (h2 : validE (b, c) = true) (ht : crs a.1 a.2 b.1 b.2 c.1 c.2 ≠ 0) : kindE (a, b) (b, c) = 1 ∧ kindE (b, c) (a, b) = 1 := by
  obtain ⟨ax, ay⟩ := a
  obtain ⟨bx, bz⟩ := b
  obtain ⟨cx, cy⟩ := c
  unfold kindE
  simp only [validE] at h1 h2 ht ⊢
  have hu : ∀ x y, On ax ay bx bz x y → On bx bz cx cy x y → (x, y) = (bx, bz) := fun x y o1 o2 => by
    have hz := only_one (dx := bx - ax) (dy := bz - ay) (ex := cx - bx) (ey := cy - bz) (wx := x - bx) (wy := y - bz) (by intro e; apply ht; unfold crs; grind) (by have := o1.1; unfold crs at this; grind) (by have := o2.1; unfold crs at this; grind)
    rw [show x = bx by omega, show y = bz by omega]
  constructor
  · refine kind_one h1 h2 (q := (bx, bz)) (com_of h1 h2 (by simp) on_end_r on_end_l).1 fun z hz => ?_
    obtain ⟨_, _, o1, o2⟩ := com_lm h1 h2 (show (z.1, z.2) ∈ _ from hz)
    exact hu _ _ o1 o2
  · refine kind_one h2 h1 (q := (bx, bz)) (com_of h2 h1 (by simp) on_end_l on_end_r).1 fun z hz => ?_
    obtain ⟨_, _, o1, o2⟩ := com_lm h2 h1 (show (z.1, z.2) ∈ _ from hz)
    exact hu _ _ o2 o1

def rturnI (l : List Pt) (i : Nat) : Int := turnP (at_ l i) (at_ l ((i + 1) % l.length)) (at_ l ((i + 2) % l.length))
def nextP (n i k : Nat) : Bool := decide (k = i + 1) || (decide (i = 0) && decide (k = n - 1))
def rpairOk (l : List Pt) (i k : Nat) : Bool := decide (k < i + 1) || (if nextP l.length i k then kindE (edgeP l i) (edgeP l k) == 1 else kindE (edgeP l i) (edgeP l k) == 0)
def rturnsP (l : List Pt) : Bool := allTo l.length fun i => !(rturnI l i == 0)
def rsimpleP (l : List Pt) : Bool := allTo l.length fun i => allTo l.length fun k => rpairOk l i k
def rvalidR (l : List Pt) : Bool := decide (3 ≤ l.length) && decide (l.length ≤ 40) && allW l && rturnsP l && rsimpleP l && decide (0 < areaP l)
theorem rturn_is {l : List Pt} {i : Nat} (hi : i < l.length) : rturnI l i = turnI l ((i + 1) % l.length) := by
  unfold rturnI turnI
  have hn : 0 < l.length := by omega
  congr 2
  · rcases Nat.lt_or_ge (i + 1) l.length with h | h
    · rw [Nat.mod_eq_of_lt h, show i + 1 + l.length - 1 = i + l.length by omega, Nat.add_mod_right, Nat.mod_eq_of_lt hi]
    · rw [show i + 1 = l.length by omega, Nat.mod_self, Nat.zero_add, Nat.mod_eq_of_lt (by omega)]
      omega
  · rw [Nat.mod_add_mod]
theorem rturns_eq (l : List Pt) : rturnsP l = turnsP l := by
  apply Bool.eq_iff_iff.2
  unfold rturnsP turnsP
  rw [allTo_iff, allTo_iff]
  constructor
  · intro h i hi
    have := h ((i + l.length - 1) % l.length) (Nat.mod_lt _ (by omega))
    rw [rturn_is (Nat.mod_lt _ (by omega)), Nat.mod_add_mod, show i + l.length - 1 + 1 = i + l.length by omega, Nat.add_mod_right, Nat.mod_eq_of_lt hi] at this
    exact this
  · intro h i hi
    rw [rturn_is hi]
    exact h _ (Nat.mod_lt _ (by omega))
theorem w_lm {p : Pt} (h : wOk p = true) : (-2000 ≤ p.1 ∧ p.1 ≤ 2000 ∧ -2000 ≤ p.2 ∧ p.2 ≤ 2000) ∧ Lm p.1 p.2 := by
  unfold wOk withinV at h
  rw [show w64 (-2000) = -2000 from w64_id ⟨by omega, by omega⟩] at h
  simp only [Bool.and_eq_true, decide_eq_true_eq] at h
  unfold Lm
  omega
theorem w_iff {p : Pt} : wOk p = true ↔ (-2000 ≤ p.1 ∧ p.1 ≤ 2000 ∧ -2000 ≤ p.2 ∧ p.2 ≤ 2000) := by
  refine ⟨fun h => (w_lm h).1, fun h => ?_⟩
  unfold wOk withinV
  rw [show w64 (-2000) = -2000 from w64_id ⟨by omega, by omega⟩]
  simp only [Bool.and_eq_true, decide_eq_true_eq]
  omega
theorem lm_valid {e : Ed} (h1 : Lm e.1.1 e.1.2) (h2 : Lm e.2.1 e.2.2) : validE e = true := by
  unfold validE validS
  rw [Bool.and_eq_true, within_lm, within_lm]
  exact ⟨h1, h2⟩
theorem edge_valid {l : List Pt} (hw : allW l = true) {i : Nat} (hi : i < l.length) : validE (edgeP l i) = true :=
  lm_valid (w_lm (allTo_iff.1 hw i hi)).2 (w_lm (allTo_iff.1 hw _ (Nat.mod_lt _ (by omega)))).2
theorem edge_next {l : List Pt} (hw : allW l = true) (ht : turnsP l = true) {i : Nat} (hi : i < l.length) : kindE (edgeP l i) (edgeP l ((i + 1) % l.length)) = 1 ∧ kindE (edgeP l ((i + 1) % l.length)) (edgeP l i) = 1 := by
  have hn : 0 < l.length := by omega
  have h := allTo_iff.1 ht ((i + 1) % l.length) (Nat.mod_lt _ hn)
  rw [← rturn_is hi] at h
  unfold rturnI at h
  have e : edgeP l ((i + 1) % l.length) = (at_ l ((i + 1) % l.length), at_ l ((i + 2) % l.length)) := by
    unfold edgeP
    rw [Nat.mod_add_mod]
  have v1 := edge_valid hw hi
  have v2 := edge_valid hw (i := (i + 1) % l.length) (Nat.mod_lt _ hn)
  rw [e] at v2 ⊢
  unfold edgeP at v1 ⊢
  refine kind_touch v1 v2 fun hc => ?_
  unfold turnP at h
  rw [turn_lm (w_lm (allTo_iff.1 hw _ hi)).2 (w_lm (allTo_iff.1 hw _ (Nat.mod_lt _ hn))).2 (w_lm (allTo_iff.1 hw _ (Nat.mod_lt _ hn))).2, hc] at h
  simp [sgn] at h
theorem rvalid_eq (l : List Pt) : rvalidR l = validR l := by
  apply Bool.eq_iff_iff.2
  unfold rvalidR validR
  simp only [Bool.and_eq_true, decide_eq_true_eq, rturns_eq]
  constructor
  · rintro ⟨⟨⟨⟨⟨h1, h2⟩, h3⟩, h4⟩, h5⟩, h6⟩
    refine ⟨⟨⟨⟨⟨h1, h2⟩, h3⟩, h4⟩, h6⟩, allTo_iff.2 fun i hi => allTo_iff.2 fun j hj => ?_⟩
    unfold pairOk
    have h := allTo_iff.1 (allTo_iff.1 h5 i hi) j hj
    unfold rpairOk nextP at h
    by_cases c1 : j < i + 2
    · simp [c1]
    · by_cases c2 : (j + 1) % l.length = i
      · simp [c2]
      · have c3 : ¬ (i = 0 ∧ j = l.length - 1) := by
          rintro ⟨rfl, rfl⟩
          apply c2
          rw [show l.length - 1 + 1 = l.length by omega, Nat.mod_self]
        have c4 : ¬ j < i + 1 := by omega
        have c5 : ¬ j = i + 1 := by omega
        simp [c4, c5] at h
        split at h
        · rename_i c6; exact absurd c6 c3
        · simp [h]
  · rintro ⟨⟨⟨⟨⟨h1, h2⟩, h3⟩, h4⟩, h6⟩, h5⟩
    refine ⟨⟨⟨⟨⟨h1, h2⟩, h3⟩, h4⟩, allTo_iff.2 fun i hi => allTo_iff.2 fun j hj => ?_⟩, h6⟩
    have h := allTo_iff.1 (allTo_iff.1 h5 i hi) j hj
    unfold pairOk at h
    unfold rpairOk
    by_cases c1 : j < i + 1
    · simp [c1]
    · by_cases c2 : nextP l.length i j = true
      · rw [if_pos c2]
        unfold nextP at c2
        simp only [Bool.or_eq_true, Bool.and_eq_true, decide_eq_true_eq] at c2
        rcases c2 with rfl | ⟨rfl, rfl⟩
        · have := (edge_next h3 h4 hi).1
          rw [Nat.mod_eq_of_lt hj] at this
          simp [this]
        · have := (edge_next h3 h4 hj).2
          rw [show l.length - 1 + 1 = l.length by omega, Nat.mod_self] at this
          simp [this]
      · rw [if_neg c2]
        unfold nextP at c2
        simp only [Bool.or_eq_true, Bool.and_eq_true, decide_eq_true_eq] at c2
        have c3 : ¬ j < i + 2 := by omega
        have c4 : ¬ (j + 1) % l.length = i := by
          intro e
          rcases Nat.lt_or_ge (j + 1) l.length with hh | hh
          · rw [Nat.mod_eq_of_lt hh] at e; omega
          · rw [show j + 1 = l.length by omega, Nat.mod_self] at e
            exact c2 (.inr ⟨e.symm, by omega⟩)
        simp [c3, c4] at h
        rcases h with h | h
        · simp [kind_apart h (edge_valid h3 hi) (edge_valid h3 hj)]
        · simp [h]
end Go.Proofs.Ythifljljaejfmaa.G

namespace Go.Proofs.Ythifljljaejfmaa.W
open Go.RowKit Go.Proofs.Ythifljljaejfmaa.V Go.Proofs.Ythifljljaejfmaa.G

theorem valid_turned (ax ay bx bz : Int) : validS bx bz ax ay = validS ax ay bx bz := by
  unfold validS
  rw [Bool.and_comm]
theorem crs_turned (ax ay bx bz px py : Int) : crs bx bz ax ay px py = -crs ax ay bx bz px py := by
  unfold crs
  grind
theorem on_turned (ax ay bx bz px py : Int) : On bx bz ax ay px py ↔ On ax ay bx bz px py := by
  unfold On dotP
  rw [crs_turned, Int.mul_comm (bx - px), Int.mul_comm (bz - py)]
  constructor <;> rintro ⟨h1, h2⟩ <;> exact ⟨by omega, h2⟩
theorem prt_turned_l (ax ay bx bz cx cy dx dy : Int) : Prt bx bz ax ay cx cy dx dy ↔ Prt ax ay bx bz cx cy dx dy := by
  unfold Prt
  rw [crs_turned ax ay bx bz cx cy, crs_turned ax ay bx bz dx dy, Int.neg_mul_neg]
theorem prt_turned_r (ax ay bx bz cx cy dx dy : Int) : Prt ax ay bx bz dx dy cx cy ↔ Prt ax ay bx bz cx cy dx dy := by
  unfold Prt
  rw [Int.mul_comm]

theorem end_lm2 {ax ay bx bz cx cy dx dy : Int} (h1 : validS ax ay bx bz = true) (h2 : validS cx cy dx dy = true) {x y : Int} (hz : (x, y) ∈ endsL ax ay bx bz cx cy dx dy) : Lm x y := by
  obtain ⟨ha, hb⟩ := valid_lm h1
  obtain ⟨hc, hd⟩ := valid_lm h2
  have : (x, y) = (ax, ay) ∨ (x, y) = (bx, bz) ∨ (x, y) = (cx, cy) ∨ (x, y) = (dx, dy) := by simpa [endsL] using hz
  rcases this with e | e | e | e <;> (injection e with e1 e2; subst e1 e2; assumption)
/-- when two pairs of segments meet in the same way -/
theorem same_way {ax ay bx bz cx cy dx dy ax' ay' bx' bz' cx' cy' dx' dy' : Int}
    (hv : (validS ax' ay' bx' bz' = true ∧ validS cx' cy' dx' dy' = true) ↔ (validS ax ay bx bz = true ∧ validS cx cy dx dy = true))
    (he : ∀ z, z ∈ endsL ax' ay' bx' bz' cx' cy' dx' dy' ↔ z ∈ endsL ax ay bx bz cx cy dx dy)
    (ho : ∀ px py, (On ax' ay' bx' bz' px py ∧ On cx' cy' dx' dy' px py) ↔ (On ax ay bx bz px py ∧ On cx cy dx dy px py))
    (hp : (Prt ax' ay' bx' bz' cx' cy' dx' dy' ∧ Prt cx' cy' dx' dy' ax' ay' bx' bz') ↔ (Prt ax ay bx bz cx cy dx dy ∧ Prt cx cy dx dy ax ay bx bz))
    (hc : denX ax' ay' bx' bz' cx' cy' dx' dy' = -denX ax ay bx bz cx cy dx dy ∧ crossX ax' ay' bx' bz' cx' cy' dx' dy' = -crossX ax ay bx bz cx cy dx dy ∧ crossY ax' ay' bx' bz' cx' cy' dx' dy' = -crossY ax ay bx bz cx cy dx dy) :
    kindS ax' ay' bx' bz' cx' cy' dx' dy' = kindS ax ay bx bz cx cy dx dy ∧ atS ax' ay' bx' bz' cx' cy' dx' dy' = atS ax ay bx bz cx cy dx dy ∧ shareS ax' ay' bx' bz' cx' cy' dx' dy' = shareS ax ay bx bz cx cy dx dy := by
  by_cases h : validS ax ay bx bz = true ∧ validS cx cy dx dy = true
  · have h' := hv.2 h
    obtain ⟨h1, h2⟩ := h
    obtain ⟨h1', h2'⟩ := h'
    have hcom : comS ax' ay' bx' bz' cx' cy' dx' dy' = comS ax ay bx bz cx cy dx dy := by
      refine asc_unique (com_asc ..) (com_asc ..) fun z => ?_
      obtain ⟨x, y⟩ := z
      rw [com_mem, com_mem, he]
      refine and_congr_right fun hz => ?_
      have hl : Lm x y := end_lm2 h1 h2 hz
      obtain ⟨ha, hb⟩ := valid_lm h1
      obtain ⟨hc, hd⟩ := valid_lm h2
      obtain ⟨ha', hb'⟩ := valid_lm h1'
      obtain ⟨hc', hd'⟩ := valid_lm h2'
      unfold bothS
      rw [Bool.and_eq_true, Bool.and_eq_true]
      show conS _ _ _ _ x y = true ∧ conS _ _ _ _ x y = true ↔ conS _ _ _ _ x y = true ∧ conS _ _ _ _ x y = true
      rw [con_lm ha hb hl, con_lm hc hd hl, con_lm ha' hb' hl, con_lm hc' hd' hl]
      exact ho x y
    obtain ⟨ha, hb⟩ := valid_lm h1
    obtain ⟨hcc, hd⟩ := valid_lm h2
    obtain ⟨ha', hb'⟩ := valid_lm h1'
    obtain ⟨hc', hd'⟩ := valid_lm h2'
    have hps : (partS ax' ay' bx' bz' cx' cy' dx' dy' && partS cx' cy' dx' dy' ax' ay' bx' bz') = (partS ax ay bx bz cx cy dx dy && partS cx cy dx dy ax ay bx bz) := by
      apply Bool.eq_iff_iff.2
      rw [Bool.and_eq_true, Bool.and_eq_true, part_lm ha hb hcc hd, part_lm hcc hd ha hb, part_lm ha' hb' hc' hd', part_lm hc' hd' ha' hb']
      exact hp
    have hk : kindS ax' ay' bx' bz' cx' cy' dx' dy' = kindS ax ay bx bz cx cy dx dy := by
      rw [kind_is h1' h2', kind_is h1 h2, hcom, hps]
    have hpp : partsS ax' ay' bx' bz' cx' cy' dx' dy' = partsS ax ay bx bz cx cy dx dy := by
      unfold partsS
      rw [h1, h2, h1', h2', hcom]
    refine ⟨hk, ?_, ?_⟩
    · unfold atS
      rw [hk, hpp]
      split
      · rfl
      · split
        · rename_i hk2
          have h0 := prt_den (kind_two hk2).2.2.1
          unfold crossS
          rw [hc.1, hc.2.1, hc.2.2]
          by_cases hn : denX ax ay bx bz cx cy dx dy < 0
          · rw [if_neg (by omega), if_pos hn]
          · rw [if_pos (by omega), if_neg hn, Int.neg_neg, Int.neg_neg, Int.neg_neg]
        · rfl
    · unfold shareS
      rw [hk, hpp]
  · have h' := fun e => h (hv.1 e)
    rw [kind_inv h, kind_inv h']
    unfold atS shareS
    rw [kind_inv h, kind_inv h']
    exact ⟨rfl, rfl, rfl⟩
theorem way_swap (ax ay bx bz cx cy dx dy : Int) : kindS cx cy dx dy ax ay bx bz = kindS ax ay bx bz cx cy dx dy ∧ atS cx cy dx dy ax ay bx bz = atS ax ay bx bz cx cy dx dy ∧ shareS cx cy dx dy ax ay bx bz = shareS ax ay bx bz cx cy dx dy := by
  refine same_way ⟨fun h => ⟨h.2, h.1⟩, fun h => ⟨h.2, h.1⟩⟩ (fun z => ?_) (fun px py => ⟨fun h => ⟨h.2, h.1⟩, fun h => ⟨h.2, h.1⟩⟩) ⟨fun h => ⟨h.2, h.1⟩, fun h => ⟨h.2, h.1⟩⟩ ⟨?_, ?_, ?_⟩
  · simp only [endsL, List.mem_cons, List.not_mem_nil, or_false]
    constructor <;> (rintro (h | h | h | h) <;> simp [h])
  · unfold denX; grind
  · unfold crossX denX numX; grind
  · unfold crossY denX numX; grind
theorem way_left (ax ay bx bz cx cy dx dy : Int) : kindS bx bz ax ay cx cy dx dy = kindS ax ay bx bz cx cy dx dy ∧ atS bx bz ax ay cx cy dx dy = atS ax ay bx bz cx cy dx dy ∧ shareS bx bz ax ay cx cy dx dy = shareS ax ay bx bz cx cy dx dy := by
  refine same_way (by rw [valid_turned]) (fun z => ?_) (fun px py => by rw [on_turned]) (by rw [prt_turned_l ax ay bx bz cx cy dx dy, prt_turned_r cx cy dx dy ax ay bx bz]) ⟨?_, ?_, ?_⟩
  · simp only [endsL, List.mem_cons, List.not_mem_nil, or_false]
    constructor <;> (rintro (h | h | h | h) <;> simp [h])
  · unfold denX; grind
  · unfold crossX denX numX; grind
  · unfold crossY denX numX; grind
theorem way_right (ax ay bx bz cx cy dx dy : Int) : kindS ax ay bx bz dx dy cx cy = kindS ax ay bx bz cx cy dx dy ∧ atS ax ay bx bz dx dy cx cy = atS ax ay bx bz cx cy dx dy ∧ shareS ax ay bx bz dx dy cx cy = shareS ax ay bx bz cx cy dx dy := by
  refine same_way (by rw [valid_turned cx cy dx dy]) (fun z => ?_) (fun px py => by rw [on_turned cx]) (by rw [prt_turned_r ax ay bx bz cx cy dx dy, prt_turned_l cx cy dx dy ax ay bx bz]) ⟨?_, ?_, ?_⟩
  · simp only [endsL, List.mem_cons, List.not_mem_nil, or_false]
    constructor <;> (rintro (h | h | h | h) <;> simp [h])
  · unfold denX; grind
  · unfold crossX denX numX; grind
  · unfold crossY denX numX; grind
theorem crs_moved (ax ay bx bz px py vx vy : Int) : crs (ax + vx) (ay + vy) (bx + vx) (bz + vy) (px + vx) (py + vy) = crs ax ay bx bz px py := by
  unfold crs
  rw [show bx + vx - (ax + vx) = bx - ax by omega, show py + vy - (ay + vy) = py - ay by omega, show bz + vy - (ay + vy) = bz - ay by omega, show px + vx - (ax + vx) = px - ax by omega]
theorem on_moved (ax ay bx bz px py vx vy : Int) : On (ax + vx) (ay + vy) (bx + vx) (bz + vy) (px + vx) (py + vy) ↔ On ax ay bx bz px py := by
  unfold On dotP
  rw [crs_moved, show ax + vx - (px + vx) = ax - px by omega, show ay + vy - (py + vy) = ay - py by omega, show bx + vx - (px + vx) = bx - px by omega, show bz + vy - (py + vy) = bz - py by omega]
def mv (vx vy : Int) (z : Int × Int) : Int × Int := (z.1 + vx, z.2 + vy)
theorem lt_mv (vx vy : Int) (x y : Int × Int) : ltV (mv vx vy x) (mv vx vy y) ↔ ltV x y := by
  rw [ltV_iff, ltV_iff]
  unfold mv
  simp only
  omega
theorem asc_mv (vx vy : Int) {L : List (Int × Int)} (h : Asc L) : Asc (L.map (mv vx vy)) := by
  refine List.pairwise_map.2 (h.imp fun {a b} hab => (lt_mv vx vy a b).2 hab)
theorem first_mv (vx vy : Int) {L : List (Int × Int)} (h : L ≠ []) : firstV (L.map (mv vx vy)) = mv vx vy (firstV L) := by
  cases L with
  | nil => exact absurd rfl h
  | cons x r => rfl
theorem last_mv (vx vy : Int) {L : List (Int × Int)} (h : L ≠ []) : lastV (L.map (mv vx vy)) = mv vx vy (lastV L) := by
  unfold lastV
  rw [List.getLast?_map, List.getLast?_eq_some_getLast h]
  rfl
theorem way_moved {ax ay bx bz cx cy dx dy : Int} (vx vy : Int) (h1 : validS ax ay bx bz = true) (h2 : validS cx cy dx dy = true) (h1' : validS (ax + vx) (ay + vy) (bx + vx) (bz + vy) = true) (h2' : validS (cx + vx) (cy + vy) (dx + vx) (dy + vy) = true) :
    kindS (ax + vx) (ay + vy) (bx + vx) (bz + vy) (cx + vx) (cy + vy) (dx + vx) (dy + vy) = kindS ax ay bx bz cx cy dx dy ∧
    ((kindS ax ay bx bz cx cy dx dy = 1 ∨ kindS ax ay bx bz cx cy dx dy = 2) → atS (ax + vx) (ay + vy) (bx + vx) (bz + vy) (cx + vx) (cy + vy) (dx + vx) (dy + vy) = ((atS ax ay bx bz cx cy dx dy).1 + vx * (atS ax ay bx bz cx cy dx dy).2.2, (atS ax ay bx bz cx cy dx dy).2.1 + vy * (atS ax ay bx bz cx cy dx dy).2.2, (atS ax ay bx bz cx cy dx dy).2.2)) ∧
    (kindS ax ay bx bz cx cy dx dy = 3 → shareS (ax + vx) (ay + vy) (bx + vx) (bz + vy) (cx + vx) (cy + vy) (dx + vx) (dy + vy) = (mv vx vy (shareS ax ay bx bz cx cy dx dy).1, mv vx vy (shareS ax ay bx bz cx cy dx dy).2)) := by
  obtain ⟨ha, hb⟩ := valid_lm h1
  obtain ⟨hc, hd⟩ := valid_lm h2
  obtain ⟨ha', hb'⟩ := valid_lm h1'
  obtain ⟨hc', hd'⟩ := valid_lm h2'
  have hcom : comS (ax + vx) (ay + vy) (bx + vx) (bz + vy) (cx + vx) (cy + vy) (dx + vx) (dy + vy) = (comS ax ay bx bz cx cy dx dy).map (mv vx vy) := by
    refine asc_unique (com_asc ..) (asc_mv vx vy (com_asc ..)) fun z => ?_
    rw [List.mem_map]
    constructor
    · intro hz
      obtain ⟨x, y⟩ := z
      obtain ⟨he, hl, o1, o2⟩ := com_lm h1' h2' hz
      have e1 : x = (x - vx) + vx := by omega
      have e2 : y = (y - vy) + vy := by omega
      rw [e1, e2, on_moved] at o1 o2
      refine ⟨(x - vx, y - vy), (com_of h1 h2 ?_ o1 o2).1, by unfold mv; simp only; rw [← e1, ← e2]⟩
      rcases he with ⟨e, e'⟩ | ⟨e, e'⟩ | ⟨e, e'⟩ | ⟨e, e'⟩
      · exact .inl ⟨by omega, by omega⟩
      · exact .inr (.inl ⟨by omega, by omega⟩)
      · exact .inr (.inr (.inl ⟨by omega, by omega⟩))
      · exact .inr (.inr (.inr ⟨by omega, by omega⟩))
    · rintro ⟨⟨x, y⟩, hz, rfl⟩
      obtain ⟨he, hl, o1, o2⟩ := com_lm h1 h2 hz
      refine (com_of h1' h2' ?_ ((on_moved ..).2 o1) ((on_moved ..).2 o2)).1
      rcases he with ⟨rfl, rfl⟩ | ⟨rfl, rfl⟩ | ⟨rfl, rfl⟩ | ⟨rfl, rfl⟩
      · exact .inl ⟨rfl, rfl⟩
      · exact .inr (.inl ⟨rfl, rfl⟩)
      · exact .inr (.inr (.inl ⟨rfl, rfl⟩))
      · exact .inr (.inr (.inr ⟨rfl, rfl⟩))
  have hps : (partS (ax + vx) (ay + vy) (bx + vx) (bz + vy) (cx + vx) (cy + vy) (dx + vx) (dy + vy) && partS (cx + vx) (cy + vy) (dx + vx) (dy + vy) (ax + vx) (ay + vy) (bx + vx) (bz + vy)) = (partS ax ay bx bz cx cy dx dy && partS cx cy dx dy ax ay bx bz) := by
    apply Bool.eq_iff_iff.2
    rw [Bool.and_eq_true, Bool.and_eq_true, part_lm ha hb hc hd, part_lm hc hd ha hb, part_lm ha' hb' hc' hd', part_lm hc' hd' ha' hb']
    unfold Prt
    rw [crs_moved, crs_moved, crs_moved, crs_moved]
  have hk : kindS (ax + vx) (ay + vy) (bx + vx) (bz + vy) (cx + vx) (cy + vy) (dx + vx) (dy + vy) = kindS ax ay bx bz cx cy dx dy := by
    rw [kind_is h1' h2', kind_is h1 h2, hcom, hps]
    cases hL : comS ax ay bx bz cx cy dx dy with
    | nil => rfl
    | cons x r =>
      rw [← hL, first_mv vx vy (by rw [hL]; simp), last_mv vx vy (by rw [hL]; simp)]
      have e : (mv vx vy (firstV (comS ax ay bx bz cx cy dx dy)) = mv vx vy (lastV (comS ax ay bx bz cx cy dx dy))) = (firstV (comS ax ay bx bz cx cy dx dy) = lastV (comS ax ay bx bz cx cy dx dy)) := by
        apply propext
        constructor
        · intro h
          unfold mv at h
          injection h with h3 h4
          exact Prod.ext (by omega) (by omega)
        · intro h; rw [h]
      simp only [e, List.isEmpty_map]
  have hpp : comS ax ay bx bz cx cy dx dy ≠ [] → partsS (ax + vx) (ay + vy) (bx + vx) (bz + vy) (cx + vx) (cy + vy) (dx + vx) (dy + vy) = (mv vx vy (partsS ax ay bx bz cx cy dx dy).1, mv vx vy (partsS ax ay bx bz cx cy dx dy).2) := fun hne => by
    rw [parts_is h1 h2 hne, parts_is h1' h2' (by rw [hcom]; simpa using hne), hcom, first_mv vx vy hne, last_mv vx vy hne]
  refine ⟨hk, fun h => ?_, fun h => ?_⟩
  · unfold atS
    rw [hk]
    rcases h with h | h
    · rw [if_pos h, if_pos h, hpp (kind_ne h1 h2 h (.inl rfl)).1]
      unfold mv
      simp
    · have h0 := prt_den (kind_two h).2.2.1
      rw [if_neg (by omega), if_pos h, if_neg (by omega), if_pos h]
      have eD : denX (ax + vx) (ay + vy) (bx + vx) (bz + vy) (cx + vx) (cy + vy) (dx + vx) (dy + vy) = denX ax ay bx bz cx cy dx dy := by unfold denX; grind
      have eX : crossX (ax + vx) (ay + vy) (bx + vx) (bz + vy) (cx + vx) (cy + vy) (dx + vx) (dy + vy) = crossX ax ay bx bz cx cy dx dy + vx * denX ax ay bx bz cx cy dx dy := by unfold crossX denX numX; grind
      have eY : crossY (ax + vx) (ay + vy) (bx + vx) (bz + vy) (cx + vx) (cy + vy) (dx + vx) (dy + vy) = crossY ax ay bx bz cx cy dx dy + vy * denX ax ay bx bz cx cy dx dy := by unfold crossY denX numX; grind
      unfold crossS
      rw [eD, eX, eY]
      by_cases hn : denX ax ay bx bz cx cy dx dy < 0
      · rw [if_pos hn, if_pos hn, show -(crossX ax ay bx bz cx cy dx dy + vx * denX ax ay bx bz cx cy dx dy) = -crossX ax ay bx bz cx cy dx dy + vx * -denX ax ay bx bz cx cy dx dy by rw [Int.mul_neg]; omega, show -(crossY ax ay bx bz cx cy dx dy + vy * denX ax ay bx bz cx cy dx dy) = -crossY ax ay bx bz cx cy dx dy + vy * -denX ax ay bx bz cx cy dx dy by rw [Int.mul_neg]; omega]
        exact low_move vx vy (by omega)
      · rw [if_neg hn, if_neg hn]
        exact low_move vx vy h0
  · unfold shareS
    rw [hk, if_pos h, if_pos h]
    exact hpp (kind_ne h1 h2 h (.inr rfl)).1
end Go.Proofs.Ythifljljaejfmaa.W
