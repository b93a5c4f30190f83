/-
  ring, plain: a closed chain that turns left everywhere and does not meet itself has one vertex alone that is less than both of its neighbours. Conditions: as stated.
  awake: the examples of layer 7 hold. No condition.
  The reference's On: what it returns; what contains says of small points. No condition for the call.
-/
import Derived.Test.YthifljljaejfmaaJ18
import Derived.Test.YthifljljaejfmaaJ13
namespace Go.Proofs.Ythifljljaejfmaa.G
open Go.RowKit Go.Proofs.Ythifljljaejfmaa.V Go.Proofs.Ythifljljaejfmaa.W

theorem first_of (P : Nat → Prop) (a : Nat) : ∀ d, P (a + d) → ∃ k, a ≤ k ∧ k ≤ a + d ∧ P k ∧ ∀ i, a ≤ i → i < k → ¬ P i := by
  intro d
  induction d using Nat.strongRecOn with
  | ind d ih =>
    intro h
    by_cases g : ∃ e, e < d ∧ P (a + e)
    · obtain ⟨e, he, hp⟩ := g
      obtain ⟨k, k1, k2, k3, k4⟩ := ih e he hp
      exact ⟨k, k1, by omega, k3, k4⟩
    · refine ⟨a + d, by omega, Nat.le_refl _, h, fun i h1 h2 hp => g ⟨i - a, by omega, ?_⟩⟩
      rw [show a + (i - a) = i by omega]
      exact hp
theorem last_of (P : Nat → Prop) {a b : Nat} (hab : a ≤ b) (h : P a) : ∃ k, a ≤ k ∧ k ≤ b ∧ P k ∧ ∀ i, k < i → i ≤ b → ¬ P i := by
  obtain ⟨k, k1, k2, k3, k4⟩ := first_of (fun i => P (b - i)) 0 (b - a) (by rw [show b - (0 + (b - a)) = a by omega]; exact h)
  refine ⟨b - k, by omega, by omega, k3, fun i h1 h2 hp => k4 (b - i) (by omega) (by omega) ?_⟩
  rw [show b - (b - i) = i by omega]
  exact hp
theorem least_in (P : Nat → Prop) (v : Nat → Int) (a : Nat) : ∀ d, (∃ i, a ≤ i ∧ i < a + d ∧ P i) → ∃ k, a ≤ k ∧ k < a + d ∧ P k ∧ ∀ i, a ≤ i → i < a + d → P i → v k ≤ v i
  | 0, ⟨i, h1, h2, _⟩ => by omega
  | d + 1, ⟨i, h1, h2, h3⟩ => by
    by_cases g : ∃ i, a ≤ i ∧ i < a + d ∧ P i
    · obtain ⟨k, k1, k2, k3, k4⟩ := least_in P v a d g
      by_cases c : P (a + d) ∧ v (a + d) < v k
      · refine ⟨a + d, by omega, by omega, c.1, fun j j1 j2 j3 => ?_⟩
        by_cases e : j = a + d
        · rw [e]; omega
        · have := k4 j j1 (by omega) j3; omega
      · refine ⟨k, k1, by omega, k3, fun j j1 j2 j3 => ?_⟩
        by_cases e : j = a + d
        · rw [e] at j3 ⊢
          rcases Int.lt_or_le (v (a + d)) (v k) with z | z
          · exact absurd ⟨j3, z⟩ c
          · exact z
        · exact k4 j j1 (by omega) j3
    · have e : i = a + d := by
        rcases Nat.lt_or_ge i (a + d) with z | z
        · exact absurd ⟨i, h1, z, h3⟩ g
        · omega
      refine ⟨i, h1, h2, h3, fun j j1 j2 j3 => ?_⟩
      have : j = i := by
        rcases Nat.lt_or_ge j (a + d) with z | z
        · exact absurd ⟨j, j1, z, j3⟩ g
        · omega
      rw [this]; omega

theorem one_min {f : Nat → Pt} {n : Nat} (h3 : 3 ≤ n) (per : ∀ i, f (i + n) = f i) (tf : ∀ i, 0 < crsP (f i) (f (i + 1)) (f (i + 2)))
    (inj : ∀ i j, i < j → j < i + n → hgt (f i) ≠ hgt (f j)) (nm : ∀ i j, i + 2 ≤ j → j + 2 ≤ i + n → NoMeet (f i) (f (i + 1)) (f j) (f (j + 1)))
    {p q : Nat} (hpq : p < q) (hqp : q < p + n) (p1 : hgt (f p) < hgt (f (p + n - 1))) (p2 : hgt (f p) < hgt (f (p + 1))) (q1 : hgt (f q) < hgt (f (q + n - 1))) (q2 : hgt (f q) < hgt (f (q + 1))) : False := by
  obtain ⟨U, hU⟩ : ∃ U : Nat → Prop, U = fun i => hgt (f i) < hgt (f (i + 1)) := ⟨_, rfl⟩
  have uI : ∀ i, U i ↔ hgt (f i) < hgt (f (i + 1)) := fun i => by rw [hU]
  have dI : ∀ i, ¬ U i ↔ hgt (f (i + 1)) < hgt (f i) := fun i => by
    rw [uI]
    have := inj i (i + 1) (by omega) (by omega)
    omega
  have uP : ∀ i, U (i + n) ↔ U i := fun i => by rw [uI, uI, per, show i + n + 1 = i + 1 + n by omega, per]
  have perk : ∀ k i, f (i + n * k) = f i := by
    intro k
    induction k with
    | zero => intro i; rfl
    | succ k ih => intro i; rw [Nat.mul_succ, ← Nat.add_assoc, per, ih]
  have uPk : ∀ k i, U (i + n * k) ↔ U i := by
    intro k
    induction k with
    | zero => intro i; exact Iff.rfl
    | succ k ih => intro i; rw [Nat.mul_succ, ← Nat.add_assoc, uP, ih]
  have uM : ∀ i, U (i % n) ↔ U i := fun i => by
    have := uPk (i / n) (i % n)
    rw [Nat.mod_add_div] at this
    exact this.symm
  have low : ∀ i, hgt (f i) < hgt (f (i + n - 1)) → hgt (f i) < hgt (f (i + 1)) → ¬ U (i + n - 1) ∧ U i := fun i a b => by
    refine ⟨(dI _).2 ?_, (uI _).2 b⟩
    rw [show i + n - 1 + 1 = i + n by omega, per]
    exact a
  obtain ⟨p1, p2⟩ := low p p1 p2
  obtain ⟨q1, q2⟩ := low q q1 q2
  -- a top, and the lowest one
  obtain ⟨T, hT⟩ : ∃ T : Nat → Prop, T = fun i => U (i + n - 1) ∧ ¬ U i := ⟨_, rfl⟩
  have tI : ∀ i, T i ↔ U (i + n - 1) ∧ ¬ U i := fun i => by rw [hT]
  have tM : ∀ i k, T (i + n * k) ↔ T i := fun i k => by
    rw [tI, tI, uPk, show i + n * k + n - 1 = i + n - 1 + n * k by omega, uPk]
  have some : ∃ i, 2 * n ≤ i ∧ i < 2 * n + n ∧ T i := by
    obtain ⟨k, k1, k2, k3, k4⟩ := first_of (fun i => ¬ U i) p (n - 1) (by rw [show p + (n - 1) = p + n - 1 by omega]; exact p1)
    have hk : p < k := by
      rcases Nat.lt_or_ge p k with g | g
      · exact g
      · exact absurd p2 (by rw [show p = k by omega]; exact k3)
    have hT' : T k := (tI k).2 ⟨by
      rw [show k + n - 1 = k - 1 + n by omega, uP]
      exact Classical.not_not.1 (k4 (k - 1) (by omega) (by omega)), k3⟩
    refine ⟨k % n + 2 * n, by omega, by have := Nat.mod_lt k (show 0 < n by omega); omega, ?_⟩
    rw [Nat.mul_comm 2 n, tM]
    have := tM (k % n) (k / n)
    rw [Nat.mod_add_div] at this
    exact this.1 hT'
  obtain ⟨M, M1, M2, M3, M4⟩ := least_in T (fun i => hgt (f i)) (2 * n) n some
  have least : ∀ i, T i → hgt (f M) ≤ hgt (f i) := fun i hi => by
    have e := tM (i % n) (i / n)
    rw [Nat.mod_add_div] at e
    have := M4 (i % n + 2 * n) (by omega) (by have := Nat.mod_lt i (show 0 < n by omega); omega) (by rw [Nat.mul_comm 2 n, tM]; exact e.1 hi)
    have e1 := perk (i / n) (i % n)
    rw [Nat.mod_add_div] at e1
    rw [Nat.mul_comm 2 n, perk] at this
    rw [e1]
    exact this
  have mU : U (M - 1) := by
    have := ((tI M).1 M3).1
    rw [show M + n - 1 = M - 1 + n by omega, uP] at this
    exact this
  have mD : ¬ U M := ((tI M).1 M3).2
  -- the bottoms beside it
  obtain ⟨l, l1, l2, l3, l4⟩ := last_of (fun i => ¬ U i) (show M - n ≤ M - 1 by omega) (by
    have := uP (M - n)
    rw [show M - n + n = M by omega] at this
    rw [← this]
    exact mD)
  have l5 : l ≠ M - 1 := fun e => l3 (by rw [e]; exact mU)
  obtain ⟨m, m1, m2, m3, m4⟩ := first_of U M (n - 1) (by
    rw [show M + (n - 1) = M - 1 + n by omega, uP]
    exact mU)
  have m5 : m ≠ M := fun e => mD (by rw [← e]; exact m3)
  have up1 : ∀ i, l < i → i < M → U i := fun i a b => Classical.not_not.1 (l4 i a (by omega))
  have down1 : ∀ i, M ≤ i → i < m → ¬ U i := m4
  rcases Nat.lt_or_ge m (l + 1 + n) with hm | hm
  · have hne := inj (l + 1) m (by omega) hm
    rcases Int.lt_or_le (hgt (f (l + 1))) (hgt (f m)) with hl | hl
    · -- up again behind m
      obtain ⟨k, k1, k2, k3, k4⟩ := first_of (fun i => ¬ U i) m (l + n - m) (by
        rw [show m + (l + n - m) = l + n by omega, uP]
        exact l3)
      have hk : m < k := by
        rcases Nat.lt_or_ge m k with g | g
        · exact g
        · exact absurd m3 (by rw [show m = k by omega]; exact k3)
      have hk2 : k ≤ l + n := by omega
      have kT : T k := (tI k).2 ⟨by
        rw [show k + n - 1 = k - 1 + n by omega, uP]
        exact Classical.not_not.1 (k4 (k - 1) (by omega) (by omega)), k3⟩
      have kM := least k kT
      have kM' := inj M k (by omega) (by omega)
      refine hook (s := 1) (.inl rfl) (f := fun i => f (l + 1 + i)) (M := M - (l + 1)) (m := m - (l + 1)) (k := k - (l + 1)) (by omega) (by omega) (by omega)
        (fun i hi => (uI _).1 (up1 (l + 1 + i) (by omega) (by omega))) (fun i hi hj => (dI _).1 (down1 (l + 1 + i) (by omega) (by omega))) (fun i hi hj => (uI _).1 (Classical.not_not.1 (k4 (l + 1 + i) (by omega) (by omega))))
        ?_ ?_ ?_ ?_ (fun i j hi hj e => ?_) (fun i j hi hj => nm (l + 1 + i) (l + 1 + j) (by omega) (by omega))
      · show hgt (f (l + 1)) < hgt (f (l + 1 + (m - (l + 1))))
        rw [show l + 1 + (m - (l + 1)) = m by omega]
        exact hl
      · show hgt (f (l + 1 + (M - (l + 1)))) < hgt (f (l + 1 + (k - (l + 1))))
        rw [show l + 1 + (M - (l + 1)) = M by omega, show l + 1 + (k - (l + 1)) = k by omega]
        omega
      · show 0 < 1 * crsP (f (l + 1 + (M - (l + 1) - 1))) (f (l + 1 + (M - (l + 1)))) (f (l + 1 + (M - (l + 1) + 1)))
        have := tf (M - 1)
        rw [show M - 1 + 1 = M by omega, show M - 1 + 2 = M + 1 by omega] at this
        rw [show l + 1 + (M - (l + 1) - 1) = M - 1 by omega, show l + 1 + (M - (l + 1)) = M by omega, show l + 1 + (M - (l + 1) + 1) = M + 1 by omega, Int.one_mul]
        exact this
      · show 0 < 1 * crsP (f (l + 1 + (m - (l + 1) - 1))) (f (l + 1 + (m - (l + 1)))) (f (l + 1 + (m - (l + 1) + 1)))
        have := tf (m - 1)
        rw [show m - 1 + 1 = m by omega, show m - 1 + 2 = m + 1 by omega] at this
        rw [show l + 1 + (m - (l + 1) - 1) = m - 1 by omega, show l + 1 + (m - (l + 1)) = m by omega, show l + 1 + (m - (l + 1) + 1) = m + 1 by omega, Int.one_mul]
        exact this
      · rcases Nat.lt_trichotomy i j with g | g | g
        · exact absurd e (inj (l + 1 + i) (l + 1 + j) (by omega) (by omega))
        · rw [g]
        · exact absurd e.symm (inj (l + 1 + j) (l + 1 + i) (by omega) (by omega))
    · -- up again ahead of the other bottom
      obtain ⟨k, k1, k2, k3, k4⟩ := last_of U (show m - n ≤ l by omega) (by
        have := uP (m - n)
        rw [show m - n + n = m by omega] at this
        rw [← this]
        exact m3)
      have hk : k < l := by
        rcases Nat.lt_or_ge k l with g | g
        · exact g
        · exact absurd k3 (by rw [show k = l by omega]; exact l3)
      have kT : T (k + 1) := (tI _).2 ⟨by
        rw [show k + 1 + n - 1 = k + n by omega, uP]
        exact k3, k4 (k + 1) (by omega) (by omega)⟩
      have kM := least _ kT
      have kM' := inj (k + 1) M (by omega) (by omega)
      refine hook (s := -1) (.inr rfl) (f := fun i => f (m - i)) (M := m - M) (m := m - (l + 1)) (k := m - (k + 1)) (by omega) (by omega) (by omega)
        (fun i hi => ?_) (fun i hi hj => ?_) (fun i hi hj => ?_) ?_ ?_ ?_ ?_ (fun i j hi hj e => ?_) (fun i j hi hj => ?_)
      · have := (dI _).1 (down1 (m - (i + 1)) (by omega) (by omega))
        rw [show m - (i + 1) + 1 = m - i by omega] at this
        exact this
      · have := (uI _).1 (up1 (m - (i + 1)) (by omega) (by omega))
        rw [show m - (i + 1) + 1 = m - i by omega] at this
        exact this
      · have := (dI _).1 (k4 (m - (i + 1)) (by omega) (by omega))
        rw [show m - (i + 1) + 1 = m - i by omega] at this
        exact this
      · show hgt (f m) < hgt (f (m - (m - (l + 1))))
        rw [show m - (m - (l + 1)) = l + 1 by omega]
        omega
      · show hgt (f (m - (m - M))) < hgt (f (m - (m - (k + 1))))
        rw [show m - (m - M) = M by omega, show m - (m - (k + 1)) = k + 1 by omega]
        omega
      · show 0 < -1 * crsP (f (m - (m - M - 1))) (f (m - (m - M))) (f (m - (m - M + 1)))
        have := tf (M - 1)
        rw [show M - 1 + 1 = M by omega, show M - 1 + 2 = M + 1 by omega] at this
        rw [show m - (m - M - 1) = M + 1 by omega, show m - (m - M) = M by omega, show m - (m - M + 1) = M - 1 by omega]
        have e : -1 * crsP (f (M + 1)) (f M) (f (M - 1)) = crsP (f (M - 1)) (f M) (f (M + 1)) := by unfold crsP crs; grind
        rw [e]
        exact this
      · show 0 < -1 * crsP (f (m - (m - (l + 1) - 1))) (f (m - (m - (l + 1)))) (f (m - (m - (l + 1) + 1)))
        have := tf l
        rw [show m - (m - (l + 1) - 1) = l + 2 by omega, show m - (m - (l + 1)) = l + 1 by omega, show m - (m - (l + 1) + 1) = l by omega]
        have e : -1 * crsP (f (l + 2)) (f (l + 1)) (f l) = crsP (f l) (f (l + 1)) (f (l + 2)) := by unfold crsP crs; grind
        rw [e]
        exact this
      · rcases Nat.lt_trichotomy i j with g | g | g
        · exact absurd e.symm (inj (m - j) (m - i) (by omega) (by omega))
        · rw [g]
        · exact absurd e (inj (m - i) (m - j) (by omega) (by omega))
      · have := nm (m - (j + 1)) (m - (i + 1)) (by omega) (by omega)
        rw [show m - (j + 1) + 1 = m - j by omega, show m - (i + 1) + 1 = m - i by omega] at this
        exact this.symm.flip.flip2
  · -- one top, one bottom
    have only : ∀ r, ¬ U (r + n - 1) → U r → ∀ i, l < i → i ≤ l + n → (U i ↔ U r) → (U (i + n - 1) ↔ U (r + n - 1)) → i = l + 1 := fun r r1 r2 i i1 i2 e1 e2 => by
      have u1 : U i := e1.2 r2
      have u2 : ¬ U (i + n - 1) := fun h => r1 (e2.1 h)
      have hiM : i < M := by
        rcases Nat.lt_or_ge i M with g | g
        · exact g
        · exact absurd u1 (down1 i g (by omega))
      rcases Nat.lt_or_ge (l + 1) i with g | g
      · refine absurd ?_ u2
        rw [show i + n - 1 = i - 1 + n by omega, uP]
        exact up1 (i - 1) (by omega) (by omega)
      · omega
    have cls : ∀ r, ¬ U (r + n - 1) → U r → r % n = (l + 1) % n := fun r r1 r2 => by
      obtain ⟨x, hx⟩ : ∃ x, x = r + n * (l + 1) - (l + 1) := ⟨_, rfl⟩
      have ge : l + 1 ≤ n * (l + 1) := Nat.le_mul_of_pos_left _ (by omega)
      have lt := Nat.mod_lt x (show 0 < n by omega)
      have e : (l + 1 + x % n) % n = r % n := by
        rw [Nat.add_mod_mod, hx, show l + 1 + (r + n * (l + 1) - (l + 1)) = r + n * (l + 1) by omega, Nat.add_mul_mod_self_left]
      have := only r r1 r2 (l + 1 + x % n) (by omega) (by omega) (by rw [← uM, e, uM]) (by
        rw [← uM, show l + 1 + x % n + n - 1 = l + 1 + x % n + (n - 1) by omega, Nat.add_mod, e, ← Nat.add_mod, uM, show r + (n - 1) = r + n - 1 by omega])
      rw [this] at e
      exact e.symm
    have e := cls q q1 q2
    rw [← cls p p1 p2] at e
    have := Nat.sub_mod_eq_zero_of_mod_eq e
    rw [Nat.mod_eq_of_lt (by omega)] at this
    omega
end Go.Proofs.Ythifljljaejfmaa.G

namespace Go.Proofs.Ythifljljaejfmaa.W
open Go.RowKit Go.Proofs.Ythifljljaejfmaa.V Go.Proofs.Ythifljljaejfmaa.G

theorem aw_at : atV 0 0 2 2 0 1 1 0 = .tuple #[pV 1 1 2, .bool true] := by
  have h1 : kindS 0 0 2 2 0 1 1 0 = 2 := by decide +kernel
  have h2 : crossS 0 0 2 2 0 1 1 0 = (1, 1, 2) := by decide +kernel
  unfold atV atS
  rw [h1, h2]
  rfl
theorem aw_share : shareV 0 0 4 0 6 0 2 0 = .tuple #[sV 2 0 4 0, .bool true] := by
  have h1 : kindS 0 0 4 0 6 0 2 0 = 3 := by decide +kernel
  have h2 : partsS 0 0 4 0 6 0 2 0 = ((2, 0), (4, 0)) := by decide +kernel
  unfold shareV shareS
  rw [h1, h2]
  rfl
theorem aw_valid : validP 1 1 2 = true := by decide +kernel
end Go.Proofs.Ythifljljaejfmaa.W

namespace Go.Proofs.Ythifljljaejfmaa.W
open Go.RowKit Go.Proofs.Ythifljljaejfmaa.V Go.Proofs.Ythifljljaejfmaa.G

theorem con_lm {ax ay bx bz px py : Int} (ha : Lm ax ay) (hb : Lm bx bz) (hp : Lm px py) : conS ax ay bx bz px py = true ↔ On ax ay bx bz px py := by
  unfold conS On
  rw [turn_lm ha hb hp, Bool.and_eq_true, decide_eq_true_eq, beq_iff_eq, sgn_zero_iff]
  refine and_congr_right fun _ => ?_
  unfold dotV dotP
  unfold Lm at ha hb hp
  rw [w64_id (n := ax - px) ⟨by omega, by omega⟩, w64_id (n := ay - py) ⟨by omega, by omega⟩, w64_id (n := bx - px) ⟨by omega, by omega⟩, w64_id (n := bz - py) ⟨by omega, by omega⟩]
  have h1 := abs_le_mul (x := ax - px) (y := bx - px) (A := 8000) (B := 8000) (by omega) (by omega)
  have h2 := abs_le_mul (x := ay - py) (y := bz - py) (A := 8000) (B := 8000) (by omega) (by omega)
  rw [w64_id ⟨by omega, by omega⟩]
theorem within_lm {px py : Int} : withinV px py 4000 = true ↔ Lm px py := by
  unfold withinV
  rw [show w64 (-4000) = -4000 from w64_id ⟨by omega, by omega⟩]
  unfold Lm
  simp [and_assoc]
theorem on_valid {ax ay bx bz px py : Int} (h : validS ax ay bx bz = true) : onS ax ay bx bz px py = true ↔ Lm px py ∧ On ax ay bx bz px py := by
  obtain ⟨ha, hb⟩ := valid_lm h
  unfold onS
  rw [h, Bool.and_eq_true, Bool.true_and, within_lm]
  exact and_congr_right fun hp => con_lm ha hb hp
theorem on_boxS {ax ay bx bz px py : Int} (h : validS ax ay bx bz = true) : onS ax ay bx bz px py = (decide (min ax bx ≤ px) && decide (px ≤ max ax bx) && decide (min ay bz ≤ py) && decide (py ≤ max ay bz) && (turnV ax ay bx bz px py == 0)) := by
  obtain ⟨ha, hb⟩ := valid_lm h
  apply Bool.eq_iff_iff.2
  rw [on_valid h, on_box]
  simp only [Bool.and_eq_true, decide_eq_true_eq, beq_iff_eq]
  constructor
  · rintro ⟨hp, ⟨h1, h2, h3, h4⟩, h5⟩
    exact ⟨⟨⟨⟨h1, h2⟩, h3⟩, h4⟩, by rw [turn_lm ha hb hp, h5]; rfl⟩
  · rintro ⟨⟨⟨⟨h1, h2⟩, h3⟩, h4⟩, h5⟩
    have hp : Lm px py := by unfold Lm at *; omega
    rw [turn_lm ha hb hp, sgn_zero_iff] at h5
    exact ⟨hp, ⟨h1, h2, h3, h4⟩, h5⟩

end Go.Proofs.Ythifljljaejfmaa.W
