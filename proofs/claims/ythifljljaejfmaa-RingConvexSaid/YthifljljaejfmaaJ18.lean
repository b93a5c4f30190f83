/-
  ring, plain: chains that ascend and do not meet keep their order (sweep), and a chain that goes up, down and up again, turning to one side, and ends above its first top, meets itself (hook). No condition.
-/
import Derived.Test.YthifljljaejfmaaJ17
namespace Go.Proofs.Ythifljljaejfmaa.G
open Go.RowKit Go.Proofs.Ythifljljaejfmaa.V Go.Proofs.Ythifljljaejfmaa.W

def hgt (p : Pt) : Int := key p.1 p.2
theorem hgt_ng (p : Pt) : hgt (ngP p) = -hgt p := by unfold hgt ngP key; grind
/-- between in height -/
def Bt (a b p : Pt) : Prop := hgt a ≤ hgt p ∧ hgt p ≤ hgt b ∨ hgt b ≤ hgt p ∧ hgt p ≤ hgt a
/-- the segments ab and cd have no point in common -/
def NoMeet (a b c d : Pt) : Prop :=
  (crsP c d a = 0 → ¬ Bt c d a) ∧ (crsP c d b = 0 → ¬ Bt c d b) ∧ (crsP a b c = 0 → ¬ Bt a b c) ∧ (crsP a b d = 0 → ¬ Bt a b d) ∧ ¬ (crsP a b c * crsP a b d < 0 ∧ crsP c d a * crsP c d b < 0)
theorem NoMeet.symm {a b c d : Pt} (h : NoMeet a b c d) : NoMeet c d a b := by
  obtain ⟨h1, h2, h3, h4, h5⟩ := h
  exact ⟨h3, h4, h1, h2, fun ⟨x, y⟩ => h5 ⟨y, x⟩⟩
theorem Bt.flip {a b p : Pt} (h : Bt a b p) : Bt b a p := h.symm
theorem crs_flip (a b c : Pt) : crsP b a c = -crsP a b c := by unfold crsP crs; grind
theorem NoMeet.flip {a b c d : Pt} (h : NoMeet a b c d) : NoMeet b a c d := by
  obtain ⟨h1, h2, h3, h4, h5⟩ := h
  refine ⟨h2, h1, fun e g => h3 (by rw [crs_flip] at e; omega) g.flip, fun e g => h4 (by rw [crs_flip] at e; omega) g.flip, fun ⟨x, y⟩ => h5 ⟨?_, by rw [Int.mul_comm]; exact y⟩⟩
  rw [crs_flip a b c, crs_flip a b d, Int.neg_mul_neg] at x
  exact x
theorem NoMeet.flip2 {a b c d : Pt} (h : NoMeet a b c d) : NoMeet a b d c := h.symm.flip.symm
theorem NoMeet.ng {a b c d : Pt} (h : NoMeet a b c d) : NoMeet (ngP a) (ngP b) (ngP c) (ngP d) := by
  obtain ⟨h1, h2, h3, h4, h5⟩ := h
  have bt : ∀ a b p, Bt (ngP a) (ngP b) (ngP p) → Bt a b p := fun a b p g => by
    unfold Bt at *
    simp only [hgt_ng] at g
    omega
  unfold NoMeet
  simp only [crsP_ng]
  exact ⟨fun e g => h1 e (bt _ _ _ g), fun e g => h2 e (bt _ _ _ g), fun e g => h3 e (bt _ _ _ g), fun e g => h4 e (bt _ _ _ g), h5⟩

theorem carry_num {P W A hu hw hz : Int} (u0 : 0 < hu) (w0 : 0 < hw) (z0 : 0 ≤ hz) (z1 : hz < hw) (hP : 0 < P) (rel : hw * A = -(hu * P) + hz * W) :
    (hz + hu ≤ hw → P + W ≤ 0 → A < 0 ∧ (P + W = 0 ∨ 0 < A - W)) ∧ (hw ≤ hz + hu → 0 ≤ A - W → P + W ≤ 0 ∧ A < 0 ∧ (P + W = 0 → hz + hu = hw)) := by
  have uP := Int.mul_pos u0 hP
  have neg : W < 0 → A < 0 := fun hW => by
    have := Int.mul_nonneg z0 (show 0 ≤ -W by omega)
    rw [Int.mul_neg] at this
    exact neg_of_mul w0 (by omega)
  have e : hw * (A - W) = -(hu * P) + (hw - hz) * -W := by grind
  constructor
  · intro h1 h2
    refine ⟨neg (by omega), ?_⟩
    by_cases h3 : P + W = 0
    · exact .inl h3
    · refine .inr ?_
      have a1 := Int.mul_pos (show 0 < hw - hz by omega) (show 0 < -W - P by omega)
      have a2 := Int.mul_nonneg (show 0 ≤ hw - hz - hu by omega) (Int.le_of_lt hP)
      have a3 : 0 < hw * (A - W) := by grind
      rcases Int.lt_or_le 0 (A - W) with g | g
      · exact g
      · have := Int.mul_nonneg (Int.le_of_lt w0) (show 0 ≤ -(A - W) by omega)
        rw [Int.mul_neg] at this
        omega
  · intro h1 h2
    have b1 := Int.mul_nonneg (Int.le_of_lt w0) h2
    have b2 : hu * P ≤ (hw - hz) * -W := by omega
    have hW : W < 0 := by
      rcases Int.lt_or_le W 0 with g | g
      · exact g
      · have := Int.mul_nonneg (show 0 ≤ hw - hz by omega) g
        rw [Int.mul_neg] at b2
        omega
    refine ⟨?_, neg hW, fun h3 => ?_⟩
    · rcases Int.lt_or_le 0 (P + W) with g | g
      · have a1 := Int.mul_pos (show 0 < hw - hz by omega) g
        have a2 := Int.mul_nonneg (show 0 ≤ hu - (hw - hz) by omega) (Int.le_of_lt hP)
        exfalso
        grind
      · exact g
    · have e2 : -W = P := by omega
      rw [e2] at b2
      rcases Int.lt_or_le (hw - hz) hu with g | g
      · have := Int.mul_pos (show 0 < hu - (hw - hz) by omega) hP
        exfalso
        grind
      · omega

theorem rel_way (a b c d : Pt) : (hgt d - hgt c) * crsP a b c = -((hgt b - hgt a) * crsP c d a) + (hgt a - hgt c) * (crsP c d b - crsP c d a) := by
  unfold crsP crs hgt key; grind
theorem crs_diff (a b c d : Pt) : crsP a b d = crsP a b c - (crsP c d b - crsP c d a) := by unfold crsP crs; grind

/-- ab is to the left of cd where the lower one of the upper ends lies -/
def TopL (s : Int) (a b c d : Pt) : Prop := (hgt b ≤ hgt d → 0 < s * crsP c d b) ∧ (hgt d ≤ hgt b → s * crsP a b d < 0)
theorem carry1 {a b c d : Pt} (h1 : hgt a < hgt b) (h2 : hgt c < hgt d) (h3 : hgt a < hgt d) (h4 : hgt c < hgt b) (hn : NoMeet a b c d)
    (hb1 : hgt c ≤ hgt a → 0 < crsP c d a) (hb2 : hgt a ≤ hgt c → crsP a b c < 0) : (hgt b ≤ hgt d → 0 < crsP c d b) ∧ (hgt d ≤ hgt b → crsP a b d < 0) := by
  obtain ⟨n1, n2, n3, n4, n5⟩ := hn
  have ed := crs_diff a b c d
  rcases Int.lt_or_le (hgt a) (hgt c) with hl | hl
  · have hP := hb2 (by omega)
    have rel := rel_way a b c d
    obtain ⟨k1, k2⟩ := carry_num (P := -crsP a b c) (W := crsP c d b - crsP c d a) (A := -crsP c d a) (hu := hgt d - hgt c) (hw := hgt b - hgt a) (hz := hgt c - hgt a) (by omega) (by omega) (by omega) (by omega) (by omega) (by grind)
    refine ⟨fun hh => ?_, fun hh => ?_⟩
    · rcases Int.lt_or_le 0 (crsP c d b) with g | g
      · exact g
      · exfalso
        obtain ⟨a1, a2, a3⟩ := k2 (by omega) (by omega)
        have g1 : crsP c d b ≠ 0 := fun e => n2 e (.inl ⟨by omega, hh⟩)
        have p2 : crsP c d a * crsP c d b < 0 := Int.mul_neg_of_pos_of_neg (by omega) (by omega)
        by_cases e : crsP a b d = 0
        · exact n4 e (.inl ⟨by omega, by omega⟩)
        · exact n5 ⟨Int.mul_neg_of_neg_of_pos hP (by omega), p2⟩
    · rcases Int.lt_or_le (crsP a b d) 0 with g | g
      · exact g
      · exfalso
        obtain ⟨a1, a2⟩ := k1 (by omega) (by omega)
        have g1 : crsP a b d ≠ 0 := fun e => n4 e (.inl ⟨by omega, hh⟩)
        rcases a2 with a2 | a2
        · omega
        · exact n5 ⟨Int.mul_neg_of_neg_of_pos hP (by omega), Int.mul_neg_of_pos_of_neg (by omega) (by omega)⟩
  · have hP := hb1 hl
    have rel := rel_way a b c d
    obtain ⟨k1, k2⟩ := carry_num (P := crsP c d a) (W := crsP c d b - crsP c d a) (A := crsP a b c) (hu := hgt b - hgt a) (hw := hgt d - hgt c) (hz := hgt a - hgt c) (by omega) (by omega) (by omega) (by omega) hP rel
    refine ⟨fun hh => ?_, fun hh => ?_⟩
    · rcases Int.lt_or_le 0 (crsP c d b) with g | g
      · exact g
      · exfalso
        obtain ⟨a1, a2⟩ := k1 (by omega) (by omega)
        have g1 : crsP c d b ≠ 0 := fun e => n2 e (.inl ⟨by omega, hh⟩)
        rcases a2 with a2 | a2
        · omega
        · exact n5 ⟨Int.mul_neg_of_neg_of_pos a1 (by omega), Int.mul_neg_of_pos_of_neg hP (by omega)⟩
    · rcases Int.lt_or_le (crsP a b d) 0 with g | g
      · exact g
      · exfalso
        obtain ⟨a1, a2, a3⟩ := k2 (by omega) (by omega)
        have g1 : crsP a b d ≠ 0 := fun e => n4 e (.inl ⟨by omega, hh⟩)
        by_cases e : crsP c d b = 0
        · exact n2 e (.inl ⟨by omega, by omega⟩)
        · exact n5 ⟨Int.mul_neg_of_neg_of_pos a2 (by omega), Int.mul_neg_of_pos_of_neg hP (by omega)⟩
theorem carry {s : Int} (hs : s = 1 ∨ s = -1) {a b c d : Pt} (h1 : hgt a < hgt b) (h2 : hgt c < hgt d) (h3 : hgt a < hgt d) (h4 : hgt c < hgt b) (hn : NoMeet a b c d)
    (hb1 : hgt c ≤ hgt a → 0 < s * crsP c d a) (hb2 : hgt a ≤ hgt c → s * crsP a b c < 0) : TopL s a b c d := by
  rcases hs with rfl | rfl
  · simp only [Int.one_mul] at hb1 hb2
    have := carry1 h1 h2 h3 h4 hn hb1 hb2
    unfold TopL
    simpa only [Int.one_mul] using this
  · obtain ⟨g1, g2⟩ := carry1 h2 h1 h4 h3 hn.symm (fun h => by have := hb2 h; omega) (fun h => by have := hb1 h; omega)
    exact ⟨fun h => by have := g2 h; omega, fun h => by have := g1 h; omega⟩

/-- two ascending chains that do not meet -/
theorem sweep {s : Int} (hs : s = 1 ∨ s = -1) {c d : Nat → Pt} {m n : Nat} (hc : ∀ i, i < m → hgt (c i) < hgt (c (i + 1))) (hd : ∀ j, j < n → hgt (d j) < hgt (d (j + 1)))
    (hn : ∀ i j, i < m → j < n → (i = 0 ∧ j = 0 ∧ c 0 = d 0) ∨ NoMeet (c i) (c (i + 1)) (d j) (d (j + 1)))
    (hi : ∀ i j, i ≤ m → j ≤ n → hgt (c i) = hgt (d j) → c i = d j)
    (h00 : c 0 = d 0 → 0 < s * crsP (c 0) (d 1) (c 1))
    (hC : c 0 ≠ d 0 → ∀ j, j < n → hgt (d j) ≤ hgt (c 0) → hgt (c 0) < hgt (d (j + 1)) → 0 < s * crsP (d j) (d (j + 1)) (c 0))
    (hD : c 0 ≠ d 0 → ∀ i, i < m → hgt (c i) ≤ hgt (d 0) → hgt (d 0) < hgt (c (i + 1)) → s * crsP (c i) (c (i + 1)) (d 0) < 0) :
    ∀ k i j, i + j = k → i < m → j < n → hgt (c i) < hgt (d (j + 1)) → hgt (d j) < hgt (c (i + 1)) → TopL s (c i) (c (i + 1)) (d j) (d (j + 1)) := by
  have upc : ∀ i, i ≤ m → 0 < i → hgt (c 0) < hgt (c i) := by
    intro i
    induction i with
    | zero => intro _ h; omega
    | succ i ih =>
      intro h _
      have := hc i (by omega)
      rcases Nat.eq_zero_or_pos i with rfl | g
      · exact this
      · have := ih (by omega) g; omega
  have upd : ∀ i, i ≤ n → 0 < i → hgt (d 0) < hgt (d i) := by
    intro i
    induction i with
    | zero => intro _ h; omega
    | succ i ih =>
      intro h _
      have := hd i (by omega)
      rcases Nat.eq_zero_or_pos i with rfl | g
      · exact this
      · have := ih (by omega) g; omega
  intro k
  induction k using Nat.strongRecOn with
  | ind k ih =>
    intro i j hk him hjn o1 o2
    rcases hn i j him hjn with ⟨rfl, rfl, e⟩ | hm
    · have h := h00 e
      refine ⟨fun _ => ?_, fun _ => ?_⟩
      · rw [← e]; exact h
      · have : s * crsP (c 0) (c 1) (d 1) = -(s * crsP (c 0) (d 1) (c 1)) := by unfold crsP crs; grind
        show s * crsP (c 0) (c 1) (d 1) < 0
        omega
    · have ne : hgt (c i) ≠ hgt (d j) := fun e => by
        have e' := hi i j (by omega) (by omega) e
        refine hm.2.2.1 (by rw [← e']; unfold crsP crs; grind) (.inl ⟨by omega, by have := hc i him; omega⟩)
      refine carry hs (hc i him) (hd j hjn) o1 o2 hm (fun hh => ?_) (fun hh => ?_)
      · match i, him, o1, o2, hk, hh, ne with
        | 0, him, o1, o2, hk, hh, ne =>
          by_cases e : c 0 = d 0
          · exfalso
            rcases Nat.eq_zero_or_pos j with rfl | g
            · exact ne (by rw [e])
            · have := upd j (by omega) g
              rw [e] at hh
              omega
          · exact hC e j hjn hh o1
        | i + 1, him, o1, o2, hk, hh, ne =>
          have := hc i (by omega)
          exact (ih (i + j) (by omega) i j rfl (by omega) hjn (by omega) (by omega)).1 (by omega)
      · match j, hjn, o1, o2, hk, hh, ne with
        | 0, hjn, o1, o2, hk, hh, ne =>
          by_cases e : c 0 = d 0
          · exfalso
            rcases Nat.eq_zero_or_pos i with rfl | g
            · exact ne (by rw [e])
            · have := upc i (by omega) g
              rw [← e] at hh
              omega
          · exact hD e i him hh o2
        | j + 1, hjn, o1, o2, hk, hh, ne =>
          have := hd j (by omega)
          exact (ih (i + j) (by omega) i j rfl him (by omega) (by omega) (by omega)).2 (by omega)

theorem up_all {c : Nat → Pt} {m : Nat} (hc : ∀ i, i < m → hgt (c i) < hgt (c (i + 1))) {i : Nat} : ∀ j, i < j → j ≤ m → hgt (c i) < hgt (c j)
  | 0, h, _ => absurd h (Nat.not_lt_zero i)
  | j + 1, h, hj => by
    have := hc j (by omega)
    by_cases e : i = j
    · subst e; exact this
    · have := up_all (m := m) hc (i := i) j (by omega) (by omega); omega
/-- two chains that meet at the top, and a third one that starts between them and ends above -/
theorem pocket {s : Int} (hs : s = 1 ∨ s = -1) {L R X : Nat → Pt} {a b k : Nat} (ha : 0 < a) (hb : 0 < b)
    (uL : ∀ i, i < a → hgt (L i) < hgt (L (i + 1))) (uR : ∀ i, i < b → hgt (R i) < hgt (R (i + 1))) (uX : ∀ i, i < k → hgt (X i) < hgt (X (i + 1)))
    (eM : L a = R b) (eX : X 0 = L 0) (lo : hgt (R 0) < hgt (L 0)) (top : hgt (L a) < hgt (X k))
    (tM : 0 < s * crsP (R (b - 1)) (R b) (L (a - 1))) (tX : 0 < s * crsP (L 1) (L 0) (X 1))
    (nLR : ∀ i j, i < a → j < b → (i + 1 = a ∧ j + 1 = b) ∨ NoMeet (L i) (L (i + 1)) (R j) (R (j + 1)))
    (nXL : ∀ i j, i < k → j < a → (i = 0 ∧ j = 0) ∨ NoMeet (X i) (X (i + 1)) (L j) (L (j + 1)))
    (nXR : ∀ i j, i < k → j < b → NoMeet (X i) (X (i + 1)) (R j) (R (j + 1)))
    (iLR : ∀ i j, i ≤ a → j ≤ b → hgt (L i) = hgt (R j) → L i = R j) (iXL : ∀ i j, i ≤ k → j ≤ a → hgt (X i) = hgt (L j) → X i = L j) (iXR : ∀ i j, i ≤ k → j ≤ b → hgt (X i) = hgt (R j) → X i = R j) : False := by
  have hs' : -s = 1 ∨ -s = -1 := by omega
  -- downwards from the top
  have S1 := sweep hs' (c := fun i => ngP (L (a - i))) (d := fun j => ngP (R (b - j))) (m := a) (n := b)
    (fun i hi => by
      have := uL (a - (i + 1)) (by omega)
      rw [show a - (i + 1) + 1 = a - i by omega] at this
      rw [hgt_ng, hgt_ng]; omega)
    (fun i hi => by
      have := uR (b - (i + 1)) (by omega)
      rw [show b - (i + 1) + 1 = b - i by omega] at this
      rw [hgt_ng, hgt_ng]; omega)
    (fun i j hi hj => by
      rcases nLR (a - (i + 1)) (b - (j + 1)) (by omega) (by omega) with ⟨e1, e2⟩ | h
      · refine .inl ⟨by omega, by omega, ?_⟩
        show ngP (L a) = ngP (R b)
        rw [eM]
      · rw [show a - (i + 1) + 1 = a - i by omega, show b - (j + 1) + 1 = b - j by omega] at h
        exact .inr h.flip.flip2.ng)
    (fun i j hi hj e => by
      rw [hgt_ng, hgt_ng] at e
      have := iLR (a - i) (b - j) (by omega) (by omega) (by omega)
      show ngP _ = ngP _
      rw [this])
    (fun _ => by
      show 0 < -s * crsP (ngP (L a)) (ngP (R (b - 1))) (ngP (L (a - 1)))
      rw [crsP_ng, eM]
      have : -s * crsP (R b) (R (b - 1)) (L (a - 1)) = s * crsP (R (b - 1)) (R b) (L (a - 1)) := by unfold crsP crs; grind
      rw [this]
      exact tM)
    (fun e => absurd (show ngP (L a) = ngP (R b) by rw [eM]) e) (fun e => absurd (show ngP (L a) = ngP (R b) by rw [eM]) e)
  have base : ∀ j, j < b → hgt (R j) ≤ hgt (L 0) → hgt (L 0) < hgt (R (j + 1)) → 0 < s * crsP (R j) (R (j + 1)) (L 0) := fun j hj h1 h2 => by
    have l1 : hgt (L 0) < hgt (L 1) := uL 0 ha
    have h := S1 (a - 1 + (b - (j + 1))) (a - 1) (b - (j + 1)) rfl (by omega) (by omega)
      (by
        show hgt (ngP (L (a - (a - 1)))) < hgt (ngP (R (b - (b - (j + 1) + 1))))
        rw [hgt_ng, hgt_ng, show a - (a - 1) = 1 by omega, show b - (b - (j + 1) + 1) = j by omega]
        omega)
      (by
        show hgt (ngP (R (b - (b - (j + 1))))) < hgt (ngP (L (a - (a - 1 + 1))))
        rw [hgt_ng, hgt_ng, show a - (a - 1 + 1) = 0 by omega, show b - (b - (j + 1)) = j + 1 by omega]
        omega)
    have h := h.1
    simp only [hgt_ng, crsP_ng] at h
    rw [show a - (a - 1 + 1) = 0 by omega, show b - (b - (j + 1)) = j + 1 by omega, show b - (b - (j + 1) + 1) = j by omega] at h
    have h := h (by omega)
    have : -s * crsP (R (j + 1)) (R j) (L 0) = s * crsP (R j) (R (j + 1)) (L 0) := by unfold crsP crs; grind
    rw [this] at h
    exact h
  have S2 := sweep hs (c := X) (d := R) (m := k) (n := b) uX uR (fun i j hi hj => .inr (nXR i j hi hj)) iXR
    (fun e => absurd lo (by rw [← eX, e]; omega))
    (fun _ j hj h1 h2 => by rw [eX] at *; exact base j hj h1 h2)
    (fun _ i hi h1 h2 => by
      exfalso
      rcases Nat.eq_zero_or_pos i with rfl | g
      · rw [eX] at h1; omega
      · have := up_all uX i g (by omega)
        rw [eX] at this
        omega)
  have S3 := sweep hs' (c := X) (d := L) (m := k) (n := a) uX uL (fun i j hi hj => by
      rcases nXL i j hi hj with ⟨e1, e2⟩ | h
      · exact .inl ⟨e1, e2, eX⟩
      · exact .inr h) iXL
    (fun _ => by
      have : -s * crsP (X 0) (L 1) (X 1) = s * crsP (L 1) (L 0) (X 1) := by rw [eX]; unfold crsP crs; grind
      rw [this]
      exact tX)
    (fun e => absurd eX e) (fun e => absurd eX e)
  have tL : hgt (L 0) < hgt (L a) := up_all uL a ha (Nat.le_refl a)
  obtain ⟨i, hi, h1, h2⟩ : ∃ i, i < k ∧ hgt (X i) < hgt (L a) ∧ hgt (L a) ≤ hgt (X (i + 1)) := by
    have : ∀ j, j ≤ k → (∃ i, i < k ∧ hgt (X i) < hgt (L a) ∧ hgt (L a) ≤ hgt (X (i + 1))) ∨ hgt (X j) < hgt (L a) := by
      intro j
      induction j with
      | zero => intro _; right; rw [eX]; exact tL
      | succ j ih =>
        intro hj
        rcases ih (by omega) with g | g
        · exact .inl g
        · rcases Int.lt_or_le (hgt (X (j + 1))) (hgt (L a)) with g' | g'
          · exact .inr g'
          · exact .inl ⟨j, by omega, g, g'⟩
    rcases this k (Nat.le_refl k) with g | g
    · exact g
    · omega
  have r1 := uR (b - 1) (by omega)
  have l1 := uL (a - 1) (by omega)
  rw [show b - 1 + 1 = b by omega] at r1
  rw [show a - 1 + 1 = a by omega] at l1
  have q2 := (S2 (i + (b - 1)) i (b - 1) rfl hi (by omega) (by rw [show b - 1 + 1 = b by omega, ← eM]; exact h1) (by rw [← eM] at r1; omega)).2
  have q3 := (S3 (i + (a - 1)) i (a - 1) rfl hi (by omega) (by rw [show a - 1 + 1 = a by omega]; exact h1) (by omega)).2
  rw [show b - 1 + 1 = b by omega, ← eM] at q2
  rw [show a - 1 + 1 = a by omega] at q3
  have q2 := q2 h2
  have q3 := q3 h2
  rw [Int.neg_mul] at q3
  omega

/-- up, down, and up again to above the first top, turning to one side: some edges meet -/
theorem hook {s : Int} (hs : s = 1 ∨ s = -1) {f : Nat → Pt} {M m k : Nat} (h0 : 0 < M) (h1 : M < m) (h2 : m < k)
    (u1 : ∀ i, i < M → hgt (f i) < hgt (f (i + 1))) (u2 : ∀ i, M ≤ i → i < m → hgt (f (i + 1)) < hgt (f i)) (u3 : ∀ i, m ≤ i → i < k → hgt (f i) < hgt (f (i + 1)))
    (lo : hgt (f 0) < hgt (f m)) (top : hgt (f M) < hgt (f k))
    (tM : 0 < s * crsP (f (M - 1)) (f M) (f (M + 1))) (tm : 0 < s * crsP (f (m - 1)) (f m) (f (m + 1)))
    (inj : ∀ i j, i ≤ k → j ≤ k → hgt (f i) = hgt (f j) → f i = f j)
    (nm : ∀ i j, i + 2 ≤ j → j < k → NoMeet (f i) (f (i + 1)) (f j) (f (j + 1))) : False := by
  refine pocket hs (L := fun i => f (m - i)) (R := f) (X := fun i => f (m + i)) (a := m - M) (b := M) (k := k - m) (by omega) h0
    (fun i hi => ?_) u1 (fun i hi => u3 (m + i) (by omega) (by omega)) ?_ rfl lo ?_ ?_ ?_ (fun i j hi hj => ?_) (fun i j hi hj => ?_) (fun i j hi hj => ?_)
    (fun i j hi hj e => inj _ _ (by omega) (by omega) e) (fun i j hi hj e => inj _ _ (by omega) (by omega) e) (fun i j hi hj e => inj _ _ (by omega) (by omega) e)
  · have := u2 (m - (i + 1)) (by omega) (by omega)
    rw [show m - (i + 1) + 1 = m - i by omega] at this
    exact this
  · show f (m - (m - M)) = f M
    rw [show m - (m - M) = M by omega]
  · show hgt (f (m - (m - M))) < hgt (f (m + (k - m)))
    rw [show m - (m - M) = M by omega, show m + (k - m) = k by omega]
    exact top
  · show 0 < s * crsP (f (M - 1)) (f M) (f (m - (m - M - 1)))
    rw [show m - (m - M - 1) = M + 1 by omega]
    exact tM
  · exact tm
  · by_cases e : i + 1 = m - M ∧ j + 1 = M
    · exact .inl e
    · refine .inr ?_
      have := nm j (m - (i + 1)) (by omega) (by omega)
      rw [show m - (i + 1) + 1 = m - i by omega] at this
      exact this.symm.flip
  · by_cases e : i = 0 ∧ j = 0
    · exact .inl e
    · refine .inr ?_
      have := nm (m - (j + 1)) (m + i) (by omega) (by omega)
      rw [show m - (j + 1) + 1 = m - j by omega] at this
      exact this.symm.flip2
  · exact (nm j (m + i) (by omega) (by omega)).symm
end Go.Proofs.Ythifljljaejfmaa.G
