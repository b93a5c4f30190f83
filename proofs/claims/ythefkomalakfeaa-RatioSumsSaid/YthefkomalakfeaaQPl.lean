/-
  Ratios: rational numbers, plain mathematics over the core library (no program). No condition.
-/
import Derived.Test.YthefkomalakfeaaHB
namespace Go.Proofs.Ythefkomalakfeaa.Q

/-- what both parts of a ratio are at most -/
def top : Nat := 4611686018427387904
theorem top_eq : top = 4611686018427387904 := rfl
/-- the rational number is in range -/
def Fits (q : Rat) : Prop := q.num.natAbs ≤ top ∧ q.den ≤ top
instance (q : Rat) : Decidable (Fits q) := by unfold Fits; infer_instance
/-- the two parts are those of a valid ratio -/
def Vld (n d : Int) : Prop := 1 ≤ d ∧ d ≤ 4611686018427387904 ∧ n.natAbs ≤ top ∧ Nat.gcd n.natAbs d.natAbs = 1
instance (n d : Int) : Decidable (Vld n d) := by unfold Vld; infer_instance
/-- the number of two parts, if they are valid -/
def val (n d : Int) : Option Rat := if h : Vld n d then some ⟨n, d.natAbs, (by have := h.1; omega), h.2.2.2⟩ else none
theorem val_good {n d : Int} (h : ¬ Vld n d) : val n d = none := by rw [val, dif_neg h]
theorem val_none {n d : Int} (h : val n d = none) : ¬ Vld n d := by
  intro hg
  rw [val, dif_pos hg] at h
  cases h
theorem val_some {n d : Int} {q : Rat} (h : val n d = some q) : n = q.num ∧ d = q.den ∧ Fits q ∧ Vld n d := by
  unfold val at h
  split at h
  · rename_i hg
    injection h with h
    subst h
    obtain ⟨h1, h2, h3, h4⟩ := hg
    exact ⟨rfl, by simp only []; omega, ⟨h3, by simp only [top_eq]; omega⟩, h1, h2, h3, h4⟩
  · cases h
theorem good_num {q : Rat} (h : Fits q) : Vld q.num q.den := ⟨by have := q.den_pos; omega, by have := h.2; rw [top_eq] at this; omega, h.1, q.reduced⟩
theorem val_num {q : Rat} (h : Fits q) : val q.num q.den = some q := by
  rw [val, dif_pos (good_num h)]
  congr
theorem val_eq {n d : Int} (h : Vld n d) : ∃ q, val n d = some q ∧ q.num = n ∧ (q.den : Int) = d ∧ Fits q := by
  refine ⟨_, by rw [val, dif_pos h], rfl, ?_, ?_, ?_⟩
  · simp only []; have := h.1; omega
  · exact h.2.2.1
  · have := h.2.1; have := h.1; simp only [top_eq]; omega

/-- a result: both parts and the error -/
abbrev Trp := Int × Int × Int
def out (q : Rat) : Trp := if Fits q then (q.num, (q.den : Int), 0) else (0, 0, 2)
def both (f : Rat → Rat → Rat) (a b : Option Rat) : Trp :=
  match a, b with
  | some a, some b => out (f a b)
  | _, _ => (0, 0, 1)
def addR (an ad bn bd : Int) : Trp := both (· + ·) (val an ad) (val bn bd)
def subR (an ad bn bd : Int) : Trp := both (· - ·) (val an ad) (val bn bd)
def mulR (an ad bn bd : Int) : Trp := both (· * ·) (val an ad) (val bn bd)
def divR (an ad bn bd : Int) : Trp := if bn = 0 then (0, 0, 1) else both (· / ·) (val an ad) (val bn bd)
def negR (n d : Int) : Int × Int := if Vld n d then (-n, d) else (0, 0)
def sgn (n : Int) : Int := if n < 0 then -1 else if n = 0 then 0 else 1
def cmpR (an ad bn bd : Int) : Int := if Vld an ad ∧ Vld bn bd then sgn (an * bd - bn * ad) else 0
def signR (n d : Int) : Int := if Vld n d then sgn n else 0
def floorR (n d : Int) : Int := if Vld n d then n / d else 0
def ceilR (n d : Int) : Int := if Vld n d then -((-n) / d) else 0
def ofR (n d : Int) : Trp := if d = 0 then (0, 0, 1) else out (Rat.divInt n d)

/-- the valid ratios of a list of parts -/
def vals : List (Int × Int) → Option (List Rat)
  | [] => some []
  | (n, d) :: l => (val n d).bind fun q => (vals l).map (q :: ·)
def total (l : List Rat) : Rat := l.foldl (· + ·) 0
def sumR (l : List (Int × Int)) : Trp := if ∀ p ∈ l, Vld p.1 p.2 then if 1000 < l.length then (0, 0, 9) else out (total (l.map fun p => Rat.divInt p.1 p.2)) else (0, 0, 1)

theorem good_rat {n d : Int} (h : Vld n d) : val n d = some (Rat.divInt n d) := by
  rw [val, dif_pos h]
  congr 1
  have hd : d = (d.natAbs : Int) := by have := h.1; omega
  rw [Rat.mk_eq_divInt, ← hd]
theorem good_div {n d : Int} (h : Vld n d) : (Rat.divInt n d).num = n ∧ ((Rat.divInt n d).den : Int) = d ∧ Fits (Rat.divInt n d) := by
  have := val_some (good_rat h)
  exact ⟨this.1.symm, this.2.1.symm, this.2.2.1⟩

/-- the sum, as the program reckons it -/
theorem add_way (a b : Rat) :
    let g := Nat.gcd a.den b.den
    let f := a.den / g
    let num := a.num * (b.den / g : Nat) + b.num * (f : Nat)
    let c := Nat.gcd num.natAbs g
    (a + b).num = num / (c : Int) ∧ (a + b).den = f * (b.den / c) := by
  intro g f num c
  have hgp : 0 < g := Nat.gcd_pos_of_pos_left _ a.den_pos
  have hc : c = num.natAbs.gcd (f * b.den) := Rat.add.aux a b rfl rfl rfl
  have hcg : c ∣ b.den := Nat.dvd_trans (Nat.gcd_dvd_right _ _) (Nat.gcd_dvd_right _ _)
  have ha : f * g = a.den := Nat.div_mul_cancel (Nat.gcd_dvd_left _ _)
  have hb : b.den / g * g = b.den := Nat.div_mul_cancel (Nat.gcd_dvd_right _ _)
  have hden : f * b.den ≠ 0 := by
    have h1 : 0 < f := Nat.div_pos (Nat.le_of_dvd a.den_pos (Nat.gcd_dvd_left _ _)) hgp
    exact Nat.ne_of_gt (Nat.mul_pos h1 b.den_pos)
  have key : a + b = Rat.normalize num (f * b.den) hden := by
    rw [Rat.add_def, Rat.normalize_eq_iff]
    show (a.num * b.den + b.num * a.den) * ((f * b.den : Nat) : Int) = (a.num * (b.den / g : Nat) + b.num * (f : Nat)) * ((a.den * b.den : Nat) : Int)
    rw [← ha]
    generalize b.den / g = y at *
    rw [← hb]
    push_cast
    grind
  rw [key, Rat.num_normalize, Rat.den_normalize, ← hc]
  exact ⟨rfl, Nat.mul_div_assoc f hcg⟩

/-- the product, as the program reckons it -/
theorem mul_way (a b : Rat) :
    let g := Nat.gcd a.num.natAbs b.den
    let h := Nat.gcd b.num.natAbs a.den
    (a * b).num.natAbs = (a.num.natAbs / g) * (b.num.natAbs / h) ∧ (a * b).den = (a.den / h) * (b.den / g) := by
  intro g h
  have e : a * b = Rat.mul a b := rfl
  rw [e]
  unfold Rat.mul
  refine ⟨?_, ?_⟩
  · simp only [Int.natAbs_mul, Int.divExact_eq_tdiv, Int.natAbs_tdiv]
    rfl
  · rfl
theorem mul_neg_pos {x y : Int} (hy : 0 < y) : x * y < 0 ↔ x < 0 := by
  constructor
  · intro h
    rcases Int.lt_or_le x 0 with h1 | h1
    · exact h1
    · have := Int.mul_nonneg h1 (Int.le_of_lt hy); omega
  · intro h; exact Int.mul_neg_of_neg_of_pos h hy
theorem mul_sign (a b : Rat) : ((a * b).num < 0 ↔ (a.num < 0 ∧ 0 < b.num) ∨ (0 < a.num ∧ b.num < 0)) := by
  have h := Rat.num_mul a b
  have hd : 0 < a.den * b.den := Nat.mul_pos a.den_pos b.den_pos
  have hm : a * b = mkRat (a.num * b.num) (a.den * b.den) := Rat.mul_def' a b
  have : (a * b).num * ((a.den * b.den : Nat) : Int) = (a.num * b.num) * ((a * b).den : Int) := by
    have h2 := (Rat.mkRat_eq_iff (z₁ := Nat.ne_of_gt (a * b).den_pos) (z₂ := Nat.ne_of_gt hd)).1 (by rw [Rat.mkRat_self, hm])
    exact h2
  have hp : (0 : Int) < ((a.den * b.den : Nat) : Int) := by omega
  have hq : (0 : Int) < ((a * b).den : Int) := by have := (a * b).den_pos; omega
  have s1 : ((a * b).num < 0 ↔ (a * b).num * ((a.den * b.den : Nat) : Int) < 0) := (mul_neg_pos hp).symm
  have s2 : ((a.num * b.num) * ((a * b).den : Int) < 0 ↔ a.num * b.num < 0) := mul_neg_pos hq
  rw [s1, this, s2]
  constructor
  · intro h
    rcases Int.lt_trichotomy a.num 0 with h1 | h1 | h1
    · rcases Int.lt_trichotomy b.num 0 with h2 | h2 | h2
      · have := Int.mul_pos_of_neg_of_neg h1 h2; omega
      · rw [h2] at h; simp at h
      · exact .inl ⟨h1, h2⟩
    · rw [h1] at h; simp at h
    · rcases Int.lt_trichotomy b.num 0 with h2 | h2 | h2
      · exact .inr ⟨h1, h2⟩
      · rw [h2] at h; simp at h
      · have := Int.mul_pos h1 h2; omega
  · rintro (⟨h1, h2⟩ | ⟨h1, h2⟩)
    · exact Int.mul_neg_of_neg_of_pos h1 h2
    · exact Int.mul_neg_of_pos_of_neg h1 h2

theorem div_mk (n d : Int) : Rat.divInt n d = mkRat (if d < 0 then -n else n) d.natAbs := by
  split
  · rename_i h
    rw [← Rat.neg_divInt_neg, show -d = ((d.natAbs : Nat) : Int) by omega, Rat.divInt_ofNat]
  · rename_i h
    have : d = ((d.natAbs : Nat) : Int) := by omega
    conv => lhs; rw [this]
    rw [Rat.divInt_ofNat]
theorem mk_way (n : Int) (d : Nat) (hd : d ≠ 0) :
    (mkRat n d).num.natAbs = n.natAbs / Nat.gcd n.natAbs d ∧ (mkRat n d).den = d / Nat.gcd n.natAbs d ∧ ((mkRat n d).num < 0 ↔ n < 0) := by
  have hg : 0 < Nat.gcd n.natAbs d := Nat.gcd_pos_of_pos_right _ (by omega)
  have hgn : Nat.gcd n.natAbs d ∣ n.natAbs := Nat.gcd_dvd_left _ _
  have hz : ((Nat.gcd n.natAbs d : Nat) : Int) ∣ n := Int.ofNat_dvd_left.2 hgn
  rw [Rat.num_mkRat, Rat.den_mkRat, if_neg hd, if_neg hd, Nat.gcd_comm d]
  refine ⟨by rw [Int.natAbs_ediv_of_dvd hz, Int.natAbs_natCast], rfl, ?_⟩
  obtain ⟨k, hk⟩ := hz
  have hp : (0 : Int) < (Nat.gcd n.natAbs d : Nat) := by omega
  generalize Nat.gcd n.natAbs d = g at *
  subst hk
  rw [Int.mul_ediv_cancel_left _ (by omega), Int.mul_comm, mul_neg_pos hp]
/-- any number of two parts, in lowest terms -/
theorem div_way (n d : Int) (hd : d ≠ 0) :
    let g := Nat.gcd n.natAbs d.natAbs
    (Rat.divInt n d).num.natAbs = n.natAbs / g ∧ (Rat.divInt n d).den = d.natAbs / g ∧ ((Rat.divInt n d).num < 0 ↔ (if d < 0 then -n else n) < 0) := by
  intro g
  rw [div_mk n d]
  have h := mk_way (if d < 0 then -n else n) d.natAbs (by omega)
  have e : (if d < 0 then -n else n).natAbs = n.natAbs := by split <;> simp
  rw [e] at h
  exact h
end Go.Proofs.Ythefkomalakfeaa.Q
