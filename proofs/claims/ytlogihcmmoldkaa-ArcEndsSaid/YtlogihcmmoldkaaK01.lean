/-
  arc, plain: integer roots, the middle of two points, the chain of an arc; a chain exists, is unique, goes on counterclockwise, stays near the circle, and gets coarser with the tolerance. Conditions: as stated.
-/

namespace Go.Proofs.Ytlogihcmmoldkaa.A

theorem loge (a b : Int) : a < b ∨ b ≤ a := by omega
theorem sqn (a : Int) : 0 ≤ a * a := by
  rcases Int.le_total 0 a with h | h
  · exact Int.mul_nonneg h h
  · exact Int.mul_nonneg_of_nonpos_of_nonpos h h
theorem sq_lt {a b : Int} (hb : 0 ≤ b) (h : a * a < b * b) : a < b := by
  rcases loge a b with g | g
  · exact g
  · have := Int.mul_le_mul g g hb (by omega)
    omega
theorem sq_le {a b : Int} (hb : 0 ≤ b) (h : a * a ≤ b * b) : a ≤ b := by
  rcases loge b a with g | g
  · have h1 := Int.mul_le_mul_of_nonneg_left (Int.le_of_lt g) hb
    have h2 := Int.mul_lt_mul_of_pos_right g (show 0 < a by omega)
    omega
  · exact g
theorem le_sq {a b : Int} (ha : 0 ≤ a) (h : a ≤ b) : a * a ≤ b * b := Int.mul_le_mul h h ha (by omega)
theorem mulp {a b : Int} (h : 0 < a) (g : 0 < b) : 0 < a * b := Int.mul_pos h g
theorem muln {a b : Int} (h : 0 ≤ a) (g : 0 ≤ b) : 0 ≤ a * b := Int.mul_nonneg h g
theorem of_mul_le {a b c : Int} (hc : 0 < c) (h : a * c ≤ b * c) : a ≤ b := Int.le_of_mul_le_mul_right h hc
theorem of_mul_lt {a b c : Int} (hc : 0 < c) (h : a * c < b * c) : a < b := Int.lt_of_mul_lt_mul_right h (by omega)

/-- the greatest number whose square is at most n -/
def isqN : Nat → Nat
  | 0 => 0
  | n + 1 => if (isqN n + 1) * (isqN n + 1) ≤ n + 1 then isqN n + 1 else isqN n
theorem isqN_spec : ∀ n, isqN n * isqN n ≤ n ∧ n < (isqN n + 1) * (isqN n + 1)
  | 0 => by decide
  | n + 1 => by
    have ih := isqN_spec n
    unfold isqN
    split
    · next h => exact ⟨h, by grind⟩
    · next h => exact ⟨by omega, by omega⟩
def isq (n : Int) : Int := (isqN n.toNat : Int)
theorem isq_nn (n : Int) : 0 ≤ isq n := by unfold isq; omega
theorem isq_zero {n : Int} (h : n ≤ 0) : isq n = 0 := by
  unfold isq
  rw [Int.toNat_of_nonpos h]
  rfl
theorem isq_spec {n : Int} (h : 0 ≤ n) : isq n * isq n ≤ n ∧ n < (isq n + 1) * (isq n + 1) := by
  unfold isq
  have := isqN_spec n.toNat
  generalize isqN n.toNat = r at *
  have e : (n.toNat : Int) = n := Int.toNat_of_nonneg h
  constructor
  · rw [← e]; exact_mod_cast this.1
  · rw [← e]; exact_mod_cast this.2
theorem isq_unique {n r : Int} (h : 0 ≤ r) (h1 : r * r ≤ n) (h2 : n < (r + 1) * (r + 1)) : isq n = r := by
  have hn : 0 ≤ n := Int.le_trans (sqn r) h1
  have g := isq_spec hn
  have z := isq_nn n
  have a : isq n < r + 1 := sq_lt (by omega) (by omega)
  have b : r < isq n + 1 := sq_lt (by omega) (by omega)
  omega
theorem isq_le {n r : Int} (h : n < (r + 1) * (r + 1)) (hr : 0 ≤ r) : isq n ≤ r := by
  rcases loge n 0 with g | g
  · rw [isq_zero (by omega)]; exact hr
  · have := isq_spec g
    have := sq_lt (a := isq n) (b := r + 1) (by omega) (by omega)
    omega
theorem le_isq {n r : Int} (h : r * r ≤ n) (_hr : 0 ≤ r) : r ≤ isq n := by
  have := isq_spec (n := n) (Int.le_trans (sqn r) h)
  have z := isq_nn n
  have := sq_lt (a := r) (b := isq n + 1) (by omega) (by omega)
  omega

def ab (x : Int) : Int := if x < 0 then -x else x
theorem ab_nn (x : Int) : 0 ≤ ab x := by unfold ab; split <;> omega
theorem ab_sq (x : Int) : ab x * ab x = x * x := by unfold ab; split <;> grind
theorem ab_neg (x : Int) : ab (-x) = ab x := by unfold ab; split <;> split <;> omega
/-- X is a coordinate of size alpha, scaled by the root of R / U and rounded -/
def Rnd (al U R X : Int) : Prop := 0 ≤ X ∧ 4 * (al * al) * R < (2 * X + 1) * (2 * X + 1) * U ∧ (X ≠ 0 → (2 * X - 1) * (2 * X - 1) * U ≤ 4 * (al * al) * R)
theorem rnd_of {al U R : Int} (hU : 0 < U) (hR : 0 ≤ R) : Rnd al U R ((isq (4 * al * al * R / U) + 1) / 2) := by
  have hn : 0 ≤ 4 * al * al * R := by have := muln (sqn al) hR; grind
  have hz := isq_nn (4 * al * al * R / U)
  have g := isq_spec (n := 4 * al * al * R / U) (Int.ediv_nonneg hn (by omega))
  generalize isq (4 * al * al * R / U) = r at *
  have e1 := Int.ediv_mul_le (4 * al * al * R) (b := U) (by omega)
  have e2 := Int.lt_ediv_add_one_mul_self (4 * al * al * R) hU
  generalize 4 * al * al * R / U = w at *
  have en : 4 * (al * al) * R = 4 * al * al * R := by grind
  refine ⟨by omega, ?_, fun h => ?_⟩
  · rw [en]
    have h1 : r + 1 ≤ 2 * ((r + 1) / 2) + 1 := by omega
    have h2 : (r + 1) * (r + 1) ≤ (2 * ((r + 1) / 2) + 1) * (2 * ((r + 1) / 2) + 1) := le_sq (by omega) h1
    have h3 : (w + 1) * U ≤ (2 * ((r + 1) / 2) + 1) * (2 * ((r + 1) / 2) + 1) * U := Int.mul_le_mul_of_nonneg_right (by omega) (by omega)
    omega
  · rw [en]
    have h1 : 2 * ((r + 1) / 2) - 1 ≤ r := by omega
    have h2 : (2 * ((r + 1) / 2) - 1) * (2 * ((r + 1) / 2) - 1) ≤ r * r := le_sq (by omega) h1
    have h3 : (2 * ((r + 1) / 2) - 1) * (2 * ((r + 1) / 2) - 1) * U ≤ w * U := Int.mul_le_mul_of_nonneg_right (by omega) (by omega)
    omega

def lo (X : Int) : Int := if X = 0 then 0 else 2 * X - 1
/-- the box of a point meets the circle -/
def DigQ (R X Y : Int) : Prop := 0 ≤ X ∧ 0 ≤ Y ∧ lo X * lo X + lo Y * lo Y ≤ 4 * R ∧ 4 * R < (2 * X + 1) * (2 * X + 1) + (2 * Y + 1) * (2 * Y + 1)
theorem lo_nn {X : Int} (h : 0 ≤ X) : 0 ≤ lo X := by unfold lo; split <;> omega
theorem lo_ge {X Y : Int} (h : 0 ≤ X) (g : X < Y) : 2 * X + 1 ≤ lo Y := by unfold lo; split <;> omega
theorem digQ_swap {R X Y : Int} (h : DigQ R X Y) : DigQ R Y X := ⟨h.2.1, h.1, by have := h.2.2.1; omega, by have := h.2.2.2; omega⟩
theorem digQ_not {R X Y Z W : Int} (h : DigQ R X Y) (g : DigQ R Z W) : ¬ (X < Z ∧ Y < W) := fun ⟨a, b⟩ => by
  have h1 := le_sq (by have := h.1; omega) (lo_ge h.1 a)
  have h2 := le_sq (by have := h.2.1; omega) (lo_ge h.2.1 b)
  have := h.2.2.2
  have := g.2.2.1
  omega
theorem rnd_dig {al be U R X Y : Int} (hU : al * al + be * be = U) (h0 : 0 < U) (hR : 0 ≤ R) (h1 : Rnd al U R X) (h2 : Rnd be U R Y) : DigQ R X Y := by
  have lo_le : ∀ {a Z : Int}, Rnd a U R Z → lo Z * lo Z * U ≤ 4 * (a * a) * R := fun {a Z} h => by
    unfold lo
    split
    · have := muln (sqn a) hR; grind
    · next g => exact h.2.2 g
  refine ⟨h1.1, h2.1, of_mul_le h0 ?_, of_mul_lt h0 ?_⟩
  · have := lo_le h1
    have := lo_le h2
    have : 4 * R * U = 4 * (al * al) * R + 4 * (be * be) * R := by rw [← hU]; grind
    grind
  · have := h1.2.1
    have := h2.2.1
    have : 4 * R * U = 4 * (al * al) * R + 4 * (be * be) * R := by rw [← hU]; grind
    grind
/-- beyond the midpoint on the circle's outer side, or on its inner side -/
theorem rnd_up {al U R X : Int} (h0 : 0 < U) (h : Rnd al U R X) (hg : U ≤ 4 * R) : al ≤ 2 * X := by
  have h1 := h.2.1
  have h2 : al * al * U ≤ al * al * (4 * R) := Int.mul_le_mul_of_nonneg_left hg (sqn al)
  have h3 : al * al * U < (2 * X + 1) * (2 * X + 1) * U := by grind
  have := sq_lt (by have := h.1; omega) (of_mul_lt h0 h3)
  omega
theorem rnd_down {al U R X : Int} (h0 : 0 < U) (ha : 0 ≤ al) (h : Rnd al U R X) (hg : 4 * R < U) : 2 * X ≤ al := by
  rcases loge 0 X with hX | hX
  · have h1 := h.2.2 (by omega)
    have h2 : al * al * (4 * R) ≤ al * al * U := Int.mul_le_mul_of_nonneg_left (by omega) (sqn al)
    rcases loge 0 al with g | g
    · have h3 : al * al * (4 * R) < al * al * U := Int.mul_lt_mul_of_pos_left hg (mulp g g)
      have h4 : (2 * X - 1) * (2 * X - 1) * U < al * al * U := by grind
      have := sq_lt ha (of_mul_lt h0 h4)
      omega
    · have e : al = 0 := by omega
      subst e
      have := mulp (mulp (a := 2 * X - 1) (b := 2 * X - 1) (by omega) (by omega)) h0
      omega
  · have := h.1
    omega
theorem rnd_zero {U R X : Int} (h0 : 0 < U) (h : Rnd 0 U R X) : X = 0 := by
  rcases loge 0 X with hX | hX
  · have h1 := h.2.2 (by omega)
    have := mulp (mulp (a := 2 * X - 1) (b := 2 * X - 1) (by omega) (by omega)) h0
    omega
  · have := h.1
    omega
theorem slope {al be U R X Y : Int} (h0 : 0 < U) (ha : 0 ≤ al) (h : Rnd al U R X) (g : Rnd be U R Y) (hX : X ≠ 0) : (2 * X - 1) * be < (2 * Y + 1) * al := by
  have z1 := h.1
  have z2 := g.1
  have h1 := h.2.2 hX
  have h2 := g.2.1
  have pa : 0 < al := by
    rcases loge 0 al with p | p
    · exact p
    · have e : al = 0 := by omega
      subst e
      exact absurd (rnd_zero h0 h) hX
  apply sq_lt (muln (by omega) ha)
  apply of_mul_lt h0
  have a1 := Int.mul_le_mul_of_nonneg_right h1 (sqn be)
  have a2 := Int.mul_lt_mul_of_pos_right h2 (mulp pa pa)
  grind

/-- in one quadrant: the middle is the first point, or lies behind it -/
theorem quad {a b c d X Y U R : Int} (hp : DigQ R a b) (hq : DigQ R c d) (hm : DigQ R X Y) (hc : 0 < a * d - b * c) (hU : 0 < U) (h1 : Rnd (a + c) U R X) (h2 : Rnd (b + d) U R Y) : (X = a ∧ Y = b) ∨ 0 < a * Y - b * X := by
  have ha := hp.1
  have hb := hp.2.1
  have hcc := hq.1
  have hd := hq.2.1
  have hX := hm.1
  have hY := hm.2.1
  have pa : 0 < a := by
    rcases loge 0 a with p | p
    · exact p
    · have e : a = 0 := by omega
      subst e
      have := muln hb hcc
      omega
  have pd : 0 < d := by
    rcases loge 0 d with p | p
    · exact p
    · have e : d = 0 := by omega
      subst e
      have := muln hb hcc
      omega
  -- ordered
  have oc : c ≤ a := by
    rcases loge a c with p | p
    · have : d ≤ b := by
        rcases loge b d with k | k
        · exact absurd ⟨p, k⟩ (digQ_not hp hq)
        · exact k
      have := Int.mul_le_mul this (Int.le_of_lt p) (by omega) hb
      grind
    · exact p
  have od : b ≤ d := by
    rcases loge d b with p | p
    · have : a ≤ c := by
        rcases loge c a with k | k
        · exact absurd ⟨k, p⟩ (digQ_not hq hp)
        · exact k
      have := Int.mul_le_mul this (Int.le_of_lt p) (by omega) hcc
      grind
    · exact p
  rcases loge (4 * R) U with hg | hg
  · -- inner side
    have uX := rnd_down hU (by omega) h1 hg
    have uY := rnd_down hU (by omega) h2 hg
    rcases loge X a with k | k
    · right
      have hYb : b ≤ Y := by
        rcases loge Y b with j | j
        · exact absurd ⟨k, j⟩ (digQ_not hm hp)
        · exact j
      rcases loge b Y with j | j
      · have e1 := Int.mul_le_mul_of_nonneg_left (show b + 1 ≤ Y by omega) ha
        have e2 := Int.mul_le_mul_of_nonneg_left (show X ≤ a by omega) hb
        grind
      · have e : Y = b := by omega
        subst e
        rcases loge 0 Y with j2 | j2
        · have := mulp j2 (show 0 < a - X by omega)
          grind
        · exfalso
          have e : Y = 0 := by omega
          subst e
          have q1 := hp.2.2.1
          have q2 := hm.2.2.2
          have q3 := le_sq (by omega) (lo_ge hX k)
          have q4 : lo a = 2 * a - 1 := by unfold lo; rw [if_neg (by omega)]
          have q5 : lo 0 = 0 := rfl
          rw [q4] at q1 q3
          rw [q5] at q1
          have : (2 * a - 1) * (2 * a - 1) = 4 * (a * a - a) + 1 := by grind
          have : (2 * X + 1) * (2 * X + 1) = 4 * (X * X + X) + 1 := by grind
          generalize a * a = s at *
          generalize X * X = t at *
          omega
    · have eX : X = a := by omega
      have eca : c = a := by omega
      subst eca
      subst eX
      rcases Int.lt_trichotomy Y b with j | j | j
      · exfalso
        have s := slope hU (by omega) h1 h2 (by omega)
        have hbd : b < d := by
          rcases loge b d with k | k
          · exact k
          · have : b = d := by omega
            subst this
            grind
        have q1 := hq.2.2.1
        have q2 := hm.2.2.2
        have q3 := le_sq (by omega) (lo_ge hb hbd)
        have q4 : lo X = 2 * X - 1 := by unfold lo; rw [if_neg (by omega)]
        rw [q4] at q1
        have q5 := le_sq (a := 2 * Y + 1) (b := 2 * b - 1) (by omega) (by omega)
        have q6 : (2 * X - 1) * (2 * b + 1) ≤ (2 * X - 1) * (b + d) := Int.mul_le_mul_of_nonneg_left (by omega) (by omega)
        have q7 : (2 * Y + 1) * (X + X) ≤ (2 * b - 1) * (X + X) := Int.mul_le_mul_of_nonneg_right (by omega) (by omega)
        have : b < X := by grind
        grind
      · exact .inl ⟨rfl, j⟩
      · right
        have := mulp pa (show 0 < Y - b by omega)
        grind
  · -- outer side
    have uX := rnd_up hU h1 hg
    have uY := rnd_up hU h2 hg
    rcases loge b Y with k | k
    · right
      have hXa : X ≤ a := by
        rcases loge a X with j | j
        · exact absurd ⟨j, k⟩ (digQ_not hp hm)
        · exact j
      have e1 := Int.mul_le_mul_of_nonneg_left (show b + 1 ≤ Y by omega) ha
      have e2 := Int.mul_le_mul_of_nonneg_left hXa hb
      grind
    · have e1 : Y = b := by omega
      have e2 : d = b := by omega
      subst e1
      subst e2
      have hca : c < a := by
        rcases loge c a with k | k
        · exact k
        · have : c = a := by omega
          subst this
          grind
      rcases Int.lt_trichotomy X a with j | j | j
      · right
        have := mulp pd (show 0 < a - X by omega)
        grind
      · exact .inl ⟨j, rfl⟩
      · exfalso
        have s := slope hU (by omega) h1 h2 (by omega)
        have q1 := hm.2.2.1
        have q2 := hq.2.2.2
        have q4 : lo d = 2 * d - 1 := by unfold lo; rw [if_neg (by omega)]
        have q3 := le_sq (by omega) (lo_ge ha j)
        rw [q4] at q1
        have q5 := le_sq (a := 2 * c + 1) (b := 2 * a - 1) (by omega) (by omega)
        have q6 : (2 * a + 1) * (d + d) ≤ (2 * X - 1) * (d + d) := Int.mul_le_mul_of_nonneg_right (by omega) (by omega)
        have q7 : (2 * d + 1) * (a + c) ≤ (2 * d + 1) * (2 * a - 1) := Int.mul_le_mul_of_nonneg_left (by omega) (by omega)
        have : a < d := by grind
        grind
/-- in two quadrants: p = (a, b), q = (- c, d) -/
theorem stradR {a b c d X Y U R : Int} (hp : DigQ R a b) (hq : DigQ R c d) (hm : DigQ R X Y) (ha : 0 < a) (pb : 0 < b) (pc : 0 < c) (pd : 0 < d) (hac : c ≤ a) (hU : 0 < U) (h1 : Rnd (a - c) U R X) (h2 : Rnd (b + d) U R Y) : (X = a ∧ Y = b) ∨ 0 < a * Y - b * X := by
  have hX := hm.1
  have hY := hm.2.1
  rcases loge (4 * R) U with hg | hg
  · have uX := rnd_down hU (by omega) h1 hg
    right
    have hYb : b ≤ Y := by
      rcases loge Y b with j | j
      · exact absurd ⟨by omega, j⟩ (digQ_not hm hp)
      · exact j
    have e1 := Int.mul_le_mul_of_nonneg_left hYb (Int.le_of_lt ha)
    have e2 := mulp pb (show 0 < a - X by omega)
    grind
  · have uX := rnd_up hU h1 hg
    have uY := rnd_up hU h2 hg
    rcases loge b Y with k | k
    · right
      have hXa : X ≤ a := by
        rcases loge a X with j | j
        · exact absurd ⟨j, k⟩ (digQ_not hp hm)
        · exact j
      have e1 := mulp ha (show 0 < Y - b by omega)
      have e2 := Int.mul_le_mul_of_nonneg_left hXa (Int.le_of_lt pb)
      grind
    · have hdb : d ≤ b := by omega
      rcases loge d b with j | j
      · have eac : c = a := by
          rcases loge c a with k2 | k2
          · exact absurd ⟨k2, j⟩ (digQ_not hq hp)
          · omega
        subst eac
        rw [show c - c = 0 by omega] at h1
        have := rnd_zero hU h1
        subst this
        right
        have := mulp ha (show 0 < Y by omega)
        omega
      · have e1 : Y = b := by omega
        have e2 : d = b := by omega
        subst e1
        subst e2
        rcases Int.lt_trichotomy X a with j | j | j
        · right
          have := mulp pd (show 0 < a - X by omega)
          grind
        · exact .inl ⟨j, rfl⟩
        · exfalso
          have s := slope hU (by omega) h1 h2 (by omega)
          have q6 : (2 * a + 1) * (d + d) ≤ (2 * X - 1) * (d + d) := Int.mul_le_mul_of_nonneg_right (by omega) (by omega)
          have q7 : (2 * d + 1) * (a - c) ≤ (2 * d + 1) * (a - 1) := Int.mul_le_mul_of_nonneg_left (by omega) (by omega)
          have := Int.mul_le_mul_of_nonneg_left (show 1 ≤ d by omega) (Int.le_of_lt ha)
          grind
theorem strad_up {a b c d X Y U R : Int} (hp : DigQ R a b) (hm : DigQ R X Y) (pb : 0 < b) (pd : 0 < d) (pc : 0 < c) (hac : c ≤ a) (hU : 0 < U) (h1 : Rnd (a - c) U R X) (h2 : Rnd (b + d) U R Y) : 0 < Y := by
  have hX := hm.1
  have hY := hm.2.1
  rcases loge 0 Y with j | j
  · exact j
  · exfalso
    rcases loge (4 * R) U with hg | hg
    · have uX := rnd_down hU (by omega) h1 hg
      exact absurd ⟨by omega, by omega⟩ (digQ_not hm hp)
    · have := rnd_up hU h2 hg
      omega

/-- a point whose box meets the circle -/
def Dig (R : Int) (p : Int × Int) : Prop := DigQ R (ab p.1) (ab p.2)
/-- m is the middle of two points: u is their sum -/
def Sd (u m : Int) : Prop := (0 ≤ u → 0 ≤ m) ∧ (u ≤ 0 → m ≤ 0)
def Mid (R : Int) (p q m : Int × Int) : Prop := Sd (p.1 + q.1) m.1 ∧ Sd (p.2 + q.2) m.2 ∧
  Rnd (ab (p.1 + q.1)) ((p.1 + q.1) * (p.1 + q.1) + (p.2 + q.2) * (p.2 + q.2)) R (ab m.1) ∧ Rnd (ab (p.2 + q.2)) ((p.1 + q.1) * (p.1 + q.1) + (p.2 + q.2) * (p.2 + q.2)) R (ab m.2)
def crs0 (p q : Int × Int) : Int := p.1 * q.2 - p.2 * q.1
def dot0 (p q : Int × Int) : Int := p.1 * q.1 + p.2 * q.2
theorem ab_of_nn {x : Int} (h : 0 ≤ x) : ab x = x := by unfold ab; rw [if_neg (by omega)]
theorem ab_of_np {x : Int} (h : x ≤ 0) : ab x = -x := by unfold ab; split <;> omega
/-- the turn by 90 degrees to the right -/
def rgt (p : Int × Int) : Int × Int := (p.2, -p.1)
theorem rgt_dig {R : Int} {p : Int × Int} (h : Dig R p) : Dig R (rgt p) := by
  unfold Dig rgt at *
  simp only [ab_neg]
  exact digQ_swap h
theorem rgt_crs (p q : Int × Int) : crs0 (rgt p) (rgt q) = crs0 p q := by unfold crs0 rgt; grind
theorem rgt_dot (p q : Int × Int) : dot0 (rgt p) (rgt q) = dot0 p q := by unfold dot0 rgt; grind
theorem rgt_mid {R : Int} {p q m : Int × Int} (h : Mid R p q m) : Mid R (rgt p) (rgt q) (rgt m) := by
  unfold Mid rgt at *
  obtain ⟨h1, h2, h3, h4⟩ := h
  simp only
  rw [show -p.1 + -q.1 = -(p.1 + q.1) by omega, ab_neg, ab_neg, show (p.2 + q.2) * (p.2 + q.2) + -(p.1 + q.1) * -(p.1 + q.1) = (p.1 + q.1) * (p.1 + q.1) + (p.2 + q.2) * (p.2 + q.2) by grind]
  refine ⟨h2, ⟨fun g => ?_, fun g => ?_⟩, h4, h3⟩
  · have := h1.2 (by omega); omega
  · have := h1.1 (by omega); omega

theorem mid_dig {R : Int} {p q m : Int × Int} (hR : 0 ≤ R) (hc : 0 < (p.1 + q.1) * (p.1 + q.1) + (p.2 + q.2) * (p.2 + q.2)) (h : Mid R p q m) : Dig R m :=
  rnd_dig (by rw [ab_sq, ab_sq]) hc hR h.2.2.1 h.2.2.2
theorem sum_pos {p q : Int × Int} (hc : 0 < crs0 p q) (hd : 0 ≤ dot0 p q) : 0 < (p.1 + q.1) * (p.1 + q.1) + (p.2 + q.2) * (p.2 + q.2) := by
  unfold crs0 dot0 at *
  have h1 : 0 < p.1 * p.1 + p.2 * p.2 := by
    rcases loge 0 (p.1 * p.1 + p.2 * p.2) with k | k
    · exact k
    · have a := sqn p.1
      have b := sqn p.2
      have e1 : p.1 = 0 := by have : p.1 * p.1 = 0 := by omega
                              exact (Int.mul_eq_zero.1 this).elim id id
      have e2 : p.2 = 0 := by have : p.2 * p.2 = 0 := by omega
                              exact (Int.mul_eq_zero.1 this).elim id id
      rw [e1, e2] at hc
      omega
  have := sqn q.1
  have := sqn q.2
  grind
/-- the middle lies between, with the first point to the right of the axis -/
theorem order_right {R : Int} {p q m : Int × Int} (hR : 0 ≤ R) (hp : Dig R p) (hq : Dig R q) (hc : 0 < crs0 p q) (hd : 0 ≤ dot0 p q) (hm : Mid R p q m) (px : 0 < p.1) (py : 0 ≤ p.2) : (m = p ∨ 0 < crs0 p m) ∧ (m = q ∨ 0 < crs0 m q) := by
  have hU := sum_pos hc hd
  have dm := mid_dig hR hU hm
  obtain ⟨a, b⟩ := p
  obtain ⟨c, d⟩ := q
  obtain ⟨X, Y⟩ := m
  unfold Dig Mid at *
  unfold crs0 dot0 at *
  simp only at *
  obtain ⟨s1, s2, r1, r2⟩ := hm
  generalize (a + c) * (a + c) + (b + d) * (b + d) = U at hU r1 r2
  rw [ab_of_nn (by omega), ab_of_nn py] at hp
  rcases loge c 0 with k | k
  · have nb : 0 < b := by
      rcases loge 0 b with j | j
      · exact j
      · have e : b = 0 := by omega
        subst e
        have := mulp px (show 0 < -c by omega)
        grind
    have nd : 0 < d := by
      rcases loge 0 d with j | j
      · exact j
      · have h1 := mulp px (show 0 < -c by omega)
        have h2 := muln py (show 0 ≤ -d by omega)
        grind
    rw [ab_of_np (by omega), ab_of_nn (by omega)] at hq
    have hY := s2.1 (by omega)
    rw [ab_of_nn (x := b + d) (by omega), ab_of_nn hY] at r2
    rw [ab_of_nn hY] at dm
    rcases loge (a + c) 0 with j | j
    · have hX := s1.2 (by omega)
      rw [ab_of_np (x := a + c) (by omega), ab_of_np hX] at r1
      rw [ab_of_np hX] at dm
      rw [show -(a + c) = -c - a by omega] at r1
      rw [show b + d = d + b by omega] at r2
      have g1 := stradR hq hp dm (by omega) nd px nb (by omega) hU r1 r2
      have g2 := strad_up hq dm nd nb px (by omega) hU r1 r2
      refine ⟨.inr ?_, g1.elim (fun e => .inl ?_) fun e => .inr ?_⟩
      · have := mulp px g2
        have := muln py (show 0 ≤ -X by omega)
        grind
      · rw [e.2, show X = c by omega]
      · grind
    · have hX := s1.1 j
      rw [ab_of_nn (x := a + c) j, ab_of_nn hX] at r1
      rw [ab_of_nn hX] at dm
      rw [show a + c = a - (-c) by omega] at r1
      have g1 := stradR hp hq dm px nb (by omega) nd (by omega) hU r1 r2
      have g2 := strad_up hp dm nb nd (by omega) (by omega) hU r1 r2
      refine ⟨g1.elim (fun e => .inl ?_) fun e => .inr e, .inr ?_⟩
      · rw [e.1, e.2]
      · have := mulp g2 (show 0 < -c by omega)
        have := muln hX (Int.le_of_lt nd)
        grind
  · have nd : 0 < d := by
      rcases loge 0 d with j | j
      · exact j
      · have h1 := muln (show 0 ≤ a by omega) (show 0 ≤ -d by omega)
        have h2 := muln py k
        grind
    have hX := s1.1 (by omega)
    have hY := s2.1 (by omega)
    rw [ab_of_nn (by omega), ab_of_nn (by omega)] at hq
    rw [ab_of_nn (by omega), ab_of_nn hX] at r1
    rw [ab_of_nn (by omega), ab_of_nn hY] at r2
    rw [ab_of_nn hX, ab_of_nn hY] at dm
    refine ⟨(quad hp hq dm hc hU r1 r2).elim (fun e => .inl (by rw [e.1, e.2])) .inr, ?_⟩
    rw [show b + d = d + b by omega] at r2
    rw [show a + c = c + a by omega] at r1
    refine (quad (digQ_swap hq) (digQ_swap hp) (digQ_swap dm) (by grind) hU r2 r1).elim (fun e => .inl (by rw [e.1, e.2])) fun e => .inr (by grind)
theorem rgt_back {p q : Int × Int} (h : rgt p = rgt q) : p = q := by
  unfold rgt at h
  obtain ⟨a, b⟩ := p
  obtain ⟨c, d⟩ := q
  simp only [Prod.mk.injEq] at h ⊢
  omega
theorem order_mid {R : Int} {p q m : Int × Int} (hR : 0 ≤ R) (hp : Dig R p) (hq : Dig R q) (hc : 0 < crs0 p q) (hd : 0 ≤ dot0 p q) (hm : Mid R p q m) : (m = p ∨ 0 < crs0 p m) ∧ (m = q ∨ 0 < crs0 m q) := by
  have step : ∀ {p q m : Int × Int}, ((rgt m = rgt p ∨ 0 < crs0 (rgt p) (rgt m)) ∧ (rgt m = rgt q ∨ 0 < crs0 (rgt m) (rgt q))) → (m = p ∨ 0 < crs0 p m) ∧ (m = q ∨ 0 < crs0 m q) := fun {p q m} h => by
    rw [rgt_crs, rgt_crs] at h
    exact ⟨h.1.imp rgt_back id, h.2.imp rgt_back id⟩
  by_cases q1 : 0 < p.1 ∧ 0 ≤ p.2
  · exact order_right hR hp hq hc hd hm q1.1 q1.2
  · by_cases q2 : p.1 ≤ 0 ∧ 0 < p.2
    · exact step (order_right hR (rgt_dig hp) (rgt_dig hq) (by rw [rgt_crs]; exact hc) (by rw [rgt_dot]; exact hd) (rgt_mid hm) q2.2 (show 0 ≤ -p.1 by omega))
    · by_cases q3 : p.1 < 0 ∧ p.2 ≤ 0
      · exact step (step (order_right hR (rgt_dig (rgt_dig hp)) (rgt_dig (rgt_dig hq)) (by rw [rgt_crs, rgt_crs]; exact hc) (by rw [rgt_dot, rgt_dot]; exact hd) (rgt_mid (rgt_mid hm)) (show 0 < -p.1 by omega) (show 0 ≤ -p.2 by omega)))
      · have nz : ¬ (p.1 = 0 ∧ p.2 = 0) := fun ⟨e1, e2⟩ => by unfold crs0 at hc; rw [e1, e2] at hc; omega
        exact step (step (step (order_right hR (rgt_dig (rgt_dig (rgt_dig hp))) (rgt_dig (rgt_dig (rgt_dig hq))) (by rw [rgt_crs, rgt_crs, rgt_crs]; exact hc) (by rw [rgt_dot, rgt_dot, rgt_dot]; exact hd) (rgt_mid (rgt_mid (rgt_mid hm))) (show 0 < -p.2 by omega) (show 0 ≤ - -p.1 by omega))))
/-- what lies in a half of a sector of at most 90 degrees lies in the sector -/
theorem plu (p w m q : Int × Int) : crs0 p m * crs0 w q = crs0 p w * crs0 m q + crs0 p q * crs0 w m := by unfold crs0; grind
theorem dots (p m q : Int × Int) : dot0 p m * crs0 p q = dot0 p p * crs0 m q + dot0 p q * crs0 p m := by unfold crs0 dot0; grind
theorem dots2 (p m q : Int × Int) : dot0 m q * crs0 p q = dot0 q q * crs0 p m + dot0 p q * crs0 m q := by unfold crs0 dot0; grind
theorem dot_self_pos {p q : Int × Int} (hc : crs0 p q ≠ 0) : 0 < dot0 p p := by
  have a := sqn p.1
  have b := sqn p.2
  unfold dot0
  rcases loge 0 (p.1 * p.1 + p.2 * p.2) with k | k
  · exact k
  · exfalso
    have e1 : p.1 = 0 := by have : p.1 * p.1 = 0 := by omega
                            exact (Int.mul_eq_zero.1 this).elim id id
    have e2 : p.2 = 0 := by have : p.2 * p.2 = 0 := by omega
                            exact (Int.mul_eq_zero.1 this).elim id id
    unfold crs0 at hc
    rw [e1, e2] at hc
    omega
theorem halves {p q m : Int × Int} (hc : 0 < crs0 p q) (hd : 0 ≤ dot0 p q) (h1 : 0 < crs0 p m) (h2 : 0 < crs0 m q) : 0 ≤ dot0 p m ∧ 0 ≤ dot0 m q := by
  have e1 := dots p m q
  have e2 := dots2 p m q
  have sp := dot_self_pos (p := p) (q := q) (by omega)
  have sq : 0 ≤ dot0 q q := by
    have a := sqn q.1
    have b := sqn q.2
    unfold dot0
    omega
  constructor
  · apply of_mul_le hc
    rw [e1]
    have := muln (Int.le_of_lt sp) (Int.le_of_lt h2)
    have := muln hd (Int.le_of_lt h1)
    omega
  · apply of_mul_le hc
    rw [e2]
    have := muln sq (Int.le_of_lt h1)
    have := muln hd (Int.le_of_lt h2)
    omega
def sqL (E a S : Int) : Prop := E ≤ 0 ∨ E * E ≤ a * a * S
theorem sqL_add {E F a b S : Int} (ha : 0 ≤ a) (hb : 0 ≤ b) (hS : 0 ≤ S) (h : sqL E a S) (g : sqL F b S) : sqL (E + F) (a + b) S := by
  rcases loge 0 (E + F) with k | k
  · right
    have ab0 := muln (muln ha hb) hS
    have aa0 := muln (sqn a) hS
    have bb0 := muln (sqn b) hS
    rcases loge 0 E with e | e
    · rcases loge 0 F with f | f
      · have h1 : E * E ≤ a * a * S := h.resolve_left (by omega)
        have h2 : F * F ≤ b * b * S := g.resolve_left (by omega)
        have h3 : E * F ≤ a * b * S := by
          apply sq_le ab0
          have := Int.mul_le_mul h1 h2 (sqn F) aa0
          grind
        grind
      · have h1 : E * E ≤ a * a * S := h.resolve_left (by omega)
        have := le_sq (a := E + F) (b := E) (by omega) (by omega)
        grind
    · have h2 : F * F ≤ b * b * S := g.resolve_left (by omega)
      have := le_sq (a := E + F) (b := F) (by omega) (by omega)
      grind
  · exact .inl k
/-- how far a rounded coordinate is from the circle's -/
theorem rnd_near {al U R X : Int} (h : Rnd al U R X) : sqL (4 * (X * X) * U + 4 * (al * al) * R - U) (8 * (X * al)) (R * U) := by
  obtain ⟨z, h1, h2⟩ := h
  by_cases hX : X = 0
  · subst hX
    left
    grind
  · right
    have g := h2 hX
    generalize hA : 4 * (al * al) * R = A at *
    have k : (A - (4 * (X * X) + 1) * U) * (A - (4 * (X * X) + 1) * U) ≤ (4 * X * U) * (4 * X * U) := by
      have l1 : A - (4 * (X * X) + 1) * U ≤ 4 * X * U := by grind
      have l2 : -(4 * X * U) ≤ A - (4 * (X * X) + 1) * U := by grind
      have n1 : 0 ≤ 4 * X * U - (A - (4 * (X * X) + 1) * U) := by omega
      have n2 : 0 ≤ 4 * X * U + (A - (4 * (X * X) + 1) * U) := by omega
      have := muln n1 n2
      grind
    have e : 8 * (X * al) * (8 * (X * al)) * (R * U) = 16 * (X * X) * (4 * (al * al) * R) * U := by grind
    rw [e, hA]
    grind
def nrm (p : Int × Int) : Int := dot0 p p
theorem nrm_nn (p : Int × Int) : 0 ≤ nrm p := by have := sqn p.1; have := sqn p.2; unfold nrm dot0; omega
theorem sd_mul {u m : Int} (h : Sd u m) : ab m * ab u = m * u := by
  rcases loge u 0 with k | k
  · have := h.2 (by omega)
    rw [ab_of_np this, ab_of_np (x := u) (by omega)]
    grind
  · have := h.1 k
    rw [ab_of_nn this, ab_of_nn k]
theorem mid_near {R : Int} {p q m : Int × Int} (hR : 0 < R) (hU : 0 < nrm (p.1 + q.1, p.2 + q.2)) (h : Mid R p q m) :
    (2 * nrm m + 2 * R - 1) * (2 * nrm m + 2 * R - 1) * nrm (p.1 + q.1, p.2 + q.2) ≤ 16 * R * (dot0 m (p.1 + q.1, p.2 + q.2) * dot0 m (p.1 + q.1, p.2 + q.2)) := by
  obtain ⟨s1, s2, r1, r2⟩ := h
  have e1 := sd_mul s1
  have e2 := sd_mul s2
  have q1 := ab_sq m.1
  have q2 := ab_sq m.2
  have q3 := ab_sq (p.1 + q.1)
  have q4 := ab_sq (p.2 + q.2)
  have z1 := r1.1
  have z2 := r2.1
  have z3 := ab_nn (p.1 + q.1)
  have z4 := ab_nn (p.2 + q.2)
  unfold nrm dot0 at *
  simp only at *
  generalize p.1 + q.1 = ux at *
  generalize p.2 + q.2 = uy at *
  generalize hU' : ux * ux + uy * uy = U at *
  have k := sqL_add (muln (by omega) (muln z1 z3)) (muln (by omega) (muln z2 z4)) (muln (Int.le_of_lt hR) (Int.le_of_lt hU)) (rnd_near r1) (rnd_near r2)
  rw [q1, q2, q3, q4, e1, e2] at k
  have n1 := sqn m.1
  have n2 := sqn m.2
  have E0 : 4 * (m.1 * m.1) * U + 4 * (ux * ux) * R - U + (4 * (m.2 * m.2) * U + 4 * (uy * uy) * R - U) = 2 * U * (2 * (m.1 * m.1 + m.2 * m.2) + 2 * R - 1) := by rw [← hU']; grind
  rw [E0] at k
  have pos : 0 < 2 * U * (2 * (m.1 * m.1 + m.2 * m.2) + 2 * R - 1) := mulp (by omega) (by omega)
  have k2 := k.resolve_left (by omega)
  apply of_mul_le (c := 4 * U) (by omega)
  generalize 2 * (m.1 * m.1 + m.2 * m.2) + 2 * R - 1 = Z at *
  grind
/-- less than one from the circle -/
def Near (R : Int) (p : Int × Int) : Prop := (2 * nrm p + 2 * R - 1) * (2 * nrm p + 2 * R - 1) ≤ 16 * R * nrm p
theorem near_own {R : Int} {p : Int × Int} (h : nrm p = R) (hR : 0 < R) : Near R p := by
  unfold Near
  rw [h]
  grind
theorem cauchy (p q : Int × Int) : nrm p * nrm q = dot0 p q * dot0 p q + crs0 p q * crs0 p q := by unfold nrm dot0 crs0; grind
theorem near_mid {R : Int} {p q m : Int × Int} (hR : 0 < R) (hU : 0 < nrm (p.1 + q.1, p.2 + q.2)) (h : Mid R p q m) : Near R m := by
  have k := mid_near hR hU h
  have c := cauchy m (p.1 + q.1, p.2 + q.2)
  have s := sqn (crs0 m (p.1 + q.1, p.2 + q.2))
  unfold Near
  apply of_mul_le hU
  generalize (p.1 + q.1, p.2 + q.2) = u at *
  have := Int.mul_le_mul_of_nonneg_left (show dot0 m u * dot0 m u ≤ nrm m * nrm u by omega) (show 0 ≤ 16 * R by omega)
  grind
theorem near_law {R : Int} {p : Int × Int} (hR : 0 < R) (h : Near R p) : 0 ≤ nrm p + R - 1 ∧ (nrm p + R - 1) * (nrm p + R - 1) < 4 * nrm p * R := by
  have := nrm_nn p
  unfold Near at h
  refine ⟨by omega, ?_⟩
  generalize nrm p = n at *
  have h2 : (2 * n + 2 * R - 1) * (2 * n + 2 * R - 1) = 4 * ((n + R - 1) * (n + R - 1)) + 4 * (n + R - 1) + 1 := by grind
  have : 4 * n * R = 4 * (n * R) := by grind
  have : 16 * R * n = 16 * (n * R) := by grind
  omega
/-- if the middle is one of the points, these are near to its direction -/
theorem mid_flat {R : Int} {p q m : Int × Int} (hR : 0 < R) (hU : 0 < nrm (p.1 + q.1, p.2 + q.2)) (h : Mid R p q m) (hm : m = p ∨ m = q) : 2 * (crs0 p q * crs0 p q) ≤ nrm (p.1 + q.1, p.2 + q.2) := by
  have k := mid_near hR hU h
  have c := cauchy m (p.1 + q.1, p.2 + q.2)
  have e : crs0 m (p.1 + q.1, p.2 + q.2) * crs0 m (p.1 + q.1, p.2 + q.2) = crs0 p q * crs0 p q := by
    rcases hm with e | e <;> rw [e] <;> unfold crs0 <;> grind
  rw [e] at c
  generalize (p.1 + q.1, p.2 + q.2) = u at *
  generalize crs0 p q * crs0 p q = cc at *
  generalize dot0 m u * dot0 m u = ww at *
  generalize nrm m = n at *
  generalize nrm u = U at *
  apply of_mul_le (c := 8 * R) (by omega)
  have hw : ww = n * U - cc := by omega
  rw [hw] at k
  have z : 4 * (n - R) - 4 * ((n - R) * (n - R)) ≤ 1 := by
    rcases loge (n - R) 1 with j | j
    · have := sqn (n - R); omega
    · have := Int.mul_le_mul_of_nonneg_left j (show 0 ≤ n - R by omega); omega
  have z2 := Int.mul_le_mul_of_nonneg_left z (Int.le_of_lt hU)
  grind
/-- the digital point's norm against R -/
theorem dig_up {R : Int} {p : Int × Int} (h : Dig R p) : R ≤ nrm p + (ab p.1 + ab p.2) := by
  have g := h.2.2.2
  have e1 := ab_sq p.1
  have e2 := ab_sq p.2
  unfold nrm dot0
  generalize ab p.1 = X at *
  generalize ab p.2 = Y at *
  have : (2 * X + 1) * (2 * X + 1) = 4 * (X * X) + 4 * X + 1 := by grind
  have : (2 * Y + 1) * (2 * Y + 1) = 4 * (Y * Y) + 4 * Y + 1 := by grind
  omega
theorem flat_two {e f g : Int} (he : 0 < e) (hf : 0 < f) (hg : 0 ≤ g) (h : 2 * (g * (e + f) + e * f) ≤ 4 * g + e + f) : e = 1 ∧ f = 1 := by
  have h1 := Int.mul_le_mul_of_nonneg_left (show 2 ≤ e + f by omega) hg
  have h2 := muln (show 0 ≤ e - 1 by omega) (show 0 ≤ f - 1 by omega)
  have h3 : (e - 1) * (f - 1) = e * f - e - f + 1 := by grind
  omega
theorem far_flat {P R s K t S : Int} (ht : 2 ≤ t) (hs : 1 ≤ s) (hs2 : s * s ≤ 2 * P) (hR : R ≤ P + s) (hK : 0 ≤ K) (h1 : 65536 * P - 32768 < (K + 1) * (K + 1)) (h2 : S * S ≤ 65536 * R) (h3 : K + 1 + 256 * t < S) : False := by
  have k1 := le_sq (a := K + 514) (b := S) (by omega) (by omega)
  have e1 : (K + 514) * (K + 514) = (K + 1) * (K + 1) + 1026 * K + 264195 := by grind
  have k2 : 181 * (s - 1) < K + 1 := by
    apply sq_lt (by omega)
    have := le_sq (a := 1) (b := s) (by omega) hs
    have : 181 * (s - 1) * (181 * (s - 1)) = 32761 * (s * s) - 65522 * s + 32761 := by grind
    omega
  omega
abbrev Pt := Int × Int
/-- the rounded coordinate of the middle, the middle, and whether a chord is close, as the chapter defines them -/
def hlf (x U R : Int) : Int := if x < 0 then -((isq (4 * x * x * R / U) + 1) / 2) else (isq (4 * x * x * R / U) + 1) / 2
def mid (R : Int) (p q : Pt) : Pt := (hlf (p.1 + q.1) (nrm (p.1 + q.1, p.2 + q.2)) R, hlf (p.2 + q.2) (nrm (p.1 + q.1, p.2 + q.2)) R)
def clo (R t : Int) (p q : Pt) : Bool := decide (isq (65536 * R) + 1 ≤ isq (65536 * crs0 p q * crs0 p q / nrm (p.1 - q.1, p.2 - q.2)) + 256 * t)
theorem clo_mono {R t s : Int} {p q : Pt} (h : t ≤ s) (g : clo R t p q = true) : clo R s p q = true := by
  unfold clo at *
  rw [decide_eq_true_eq] at *
  omega
theorem hlf_rnd {x U R : Int} (hU : 0 < U) (hR : 0 ≤ R) : Sd x (hlf x U R) ∧ Rnd (ab x) U R (ab (hlf x U R)) := by
  have k := rnd_of (al := ab x) hU hR
  have e : 4 * ab x * ab x * R = 4 * x * x * R := by have := ab_sq x; grind
  rw [e] at k
  have z : 0 ≤ (isq (4 * x * x * R / U) + 1) / 2 := k.1
  constructor
  · constructor
    · intro h
      unfold hlf
      rw [if_neg (by omega)]
      exact z
    · intro h
      unfold hlf
      split
      · omega
      · next g =>
        have e0 : x = 0 := by omega
        subst e0
        rw [show 4 * 0 * 0 * R / U = 0 by simp]
        decide
  · have e2 : ab (hlf x U R) = (isq (4 * x * x * R / U) + 1) / 2 := by
      unfold hlf
      split
      · rw [ab_neg, ab_of_nn z]
      · rw [ab_of_nn z]
    rw [e2]
    exact k
theorem mid_is {R : Int} {p q : Pt} (hU : 0 < nrm (p.1 + q.1, p.2 + q.2)) (hR : 0 ≤ R) : Mid R p q (mid R p q) :=
  ⟨(hlf_rnd hU hR).1, (hlf_rnd hU hR).1, (hlf_rnd hU hR).2, (hlf_rnd hU hR).2⟩

/-- two points of a chain, or two between which points are looked for -/
def Arcs (R : Int) (p q : Pt) : Prop := Dig R p ∧ Dig R q ∧ Near R p ∧ Near R q ∧ 0 < crs0 p q ∧ 0 ≤ dot0 p q
theorem arcs_sum {R : Int} {p q : Pt} (h : Arcs R p q) : 0 < nrm (p.1 + q.1, p.2 + q.2) := sum_pos h.2.2.2.2.1 h.2.2.2.2.2
theorem arcs_split {R : Int} {p q : Pt} (hR : 0 < R) (h : Arcs R p q) (h1 : mid R p q ≠ p) (h2 : mid R p q ≠ q) : Arcs R p (mid R p q) ∧ Arcs R (mid R p q) q := by
  have hU := arcs_sum h
  have hm := mid_is (p := p) (q := q) hU (Int.le_of_lt hR)
  have dm := mid_dig (Int.le_of_lt hR) hU hm
  have nm := near_mid hR hU hm
  have o := order_mid (Int.le_of_lt hR) h.1 h.2.1 h.2.2.2.2.1 h.2.2.2.2.2 hm
  have c1 := o.1.resolve_left h1
  have c2 := o.2.resolve_left h2
  have d := halves h.2.2.2.2.1 h.2.2.2.2.2 c1 c2
  exact ⟨⟨h.1, dm, h.2.2.1, nm, c1, d.1⟩, dm, h.2.1, nm, h.2.2.2.1, c2, d.2⟩

/-- the points between two points -/
inductive Bt (R t : Int) : Pt → Pt → List Pt → Prop
  | cl {p q} : clo R t p q = true → Bt R t p q []
  | eq {p q} : clo R t p q = false → (mid R p q = p ∨ mid R p q = q) → Bt R t p q []
  | st {p q l m} : clo R t p q = false → mid R p q ≠ p → mid R p q ≠ q → Bt R t p (mid R p q) l → Bt R t (mid R p q) q m → Bt R t p q (l ++ mid R p q :: m)
theorem Bt.unique {R t : Int} {p q : Pt} {l : List Pt} (h : Bt R t p q l) : ∀ {m : List Pt}, Bt R t p q m → l = m := by
  induction h with
  | cl h => intro m g; cases g with
    | cl => rfl
    | eq => rfl
    | st k => exact absurd k (by rw [h]; decide)
  | eq h e => intro m g; cases g with
    | cl => rfl
    | eq => rfl
    | st _ a b => exact absurd e (fun e => e.elim a b)
  | st h a b _ _ ih1 ih2 => intro m g; cases g with
    | cl k => rw [h] at k; cases k
    | eq _ e => exact absurd e (fun e => e.elim a b)
    | st _ _ _ g1 g2 => rw [ih1 g1, ih2 g2]

/-- the measure: how many points of a box lie strictly inside the sector -/
def box (n : Nat) : List Pt := (List.range (2 * n + 1)).flatMap fun (i : Nat) => (List.range (2 * n + 1)).map fun (j : Nat) => ((i : Int) - n, (j : Int) - n)
theorem mem_box {n : Nat} {p : Pt} (h1 : -(n : Int) ≤ p.1) (h2 : p.1 ≤ n) (h3 : -(n : Int) ≤ p.2) (h4 : p.2 ≤ n) : p ∈ box n := by
  unfold box
  rw [List.mem_flatMap]
  refine ⟨(p.1 + n).toNat, List.mem_range.2 (by omega), List.mem_map.2 ⟨(p.2 + n).toNat, List.mem_range.2 (by omega), ?_⟩⟩
  obtain ⟨x, y⟩ := p
  simp only [Prod.mk.injEq] at *
  omega
def inS (p q w : Pt) : Bool := decide (0 < crs0 p w ∧ 0 < crs0 w q)
theorem count_lt {P Q : Pt → Bool} : ∀ {l : List Pt}, (∀ w, P w = true → Q w = true) → (∃ w, w ∈ l ∧ Q w = true ∧ P w = false) → l.countP P < l.countP Q
  | [], _, h => by obtain ⟨w, h, _⟩ := h; cases h
  | a :: l, hs, h => by
    have mono : l.countP P ≤ l.countP Q := List.countP_mono_left fun w _ g => hs w g
    rw [List.countP_cons, List.countP_cons]
    obtain ⟨w, hw, hq, hp⟩ := h
    rcases List.mem_cons.1 hw with e | hw
    · subst e
      rw [hq, hp]
      simp only [if_true, Bool.false_eq_true, if_false]
      omega
    · have ih := count_lt hs ⟨w, hw, hq, hp⟩
      cases hpa : P a with
      | true => rw [hs a hpa]; omega
      | false =>
        cases Q a
        · simpa using ih
        · simp only [if_true, Bool.false_eq_true, if_false]
          omega
def meas (R : Int) (p q : Pt) : Nat := (box (R.toNat + 1)).countP (inS p q)
theorem dig_box {R : Int} {p : Pt} (hR : 0 ≤ R) (h : Dig R p) : ab p.1 ≤ R + 1 ∧ ab p.2 ≤ R + 1 := by
  have one : ∀ {X Y : Int}, DigQ R X Y → X ≤ R + 1 := fun {X Y} h => by
    rcases loge (R + 1) X with k | k
    · have a := h.2.2.1
      have b := sqn (lo Y)
      have c := le_sq (by omega) (lo_ge (X := R + 1) (by omega) k)
      have d : (2 * (R + 1) + 1) * (2 * (R + 1) + 1) = 4 * (R * R) + 12 * R + 9 := by grind
      have := sqn R
      omega
    · exact k
  exact ⟨one h, one (digQ_swap h)⟩
theorem ab_bound {x b : Int} (h : ab x ≤ b) : -b ≤ x ∧ x ≤ b := by unfold ab at h; split at h <;> omega
theorem meas_split {R : Int} {p q : Pt} (hR : 0 < R) (h : Arcs R p q) (h1 : mid R p q ≠ p) (h2 : mid R p q ≠ q) : meas R p (mid R p q) < meas R p q ∧ meas R (mid R p q) q < meas R p q := by
  obtain ⟨a, b⟩ := arcs_split hR h h1 h2
  have c0 := h.2.2.2.2.1
  have c1 := a.2.2.2.2.1
  have c2 := b.2.2.2.2.1
  have dm := dig_box (Int.le_of_lt hR) a.2.1
  have mx := ab_bound dm.1
  have my := ab_bound dm.2
  have mem : mid R p q ∈ box (R.toNat + 1) := mem_box (by omega) (by omega) (by omega) (by omega)
  have iq : inS p q (mid R p q) = true := decide_eq_true ⟨c1, c2⟩
  have self : ∀ w : Pt, crs0 w w = 0 := fun w => by unfold crs0; grind
  constructor
  · refine count_lt (fun w hw => ?_) ⟨mid R p q, mem, iq, decide_eq_false fun g => ?_⟩
    · have g := of_decide_eq_true hw
      refine decide_eq_true ⟨g.1, ?_⟩
      have e := plu p w (mid R p q) q
      have x1 := mulp g.1 c2
      have x2 := mulp c0 g.2
      have x3 : 0 * crs0 p (mid R p q) < crs0 w q * crs0 p (mid R p q) := by rw [Int.mul_comm (crs0 w q)]; omega
      exact of_mul_lt c1 x3
    · have := self (mid R p q)
      omega
  · refine count_lt (fun w hw => ?_) ⟨mid R p q, mem, iq, decide_eq_false fun g => ?_⟩
    · have g := of_decide_eq_true hw
      refine decide_eq_true ⟨?_, g.2⟩
      have e := plu p (mid R p q) w q
      have x1 := mulp c0 g.1
      have x2 := mulp c1 g.2
      have x3 : 0 * crs0 (mid R p q) q < crs0 p w * crs0 (mid R p q) q := by omega
      exact of_mul_lt c2 x3
    · have := self (mid R p q)
      omega
theorem bt_exists {R t : Int} (hR : 0 < R) : ∀ (n : Nat) {p q : Pt}, meas R p q < n → Arcs R p q → ∃ l, Bt R t p q l
  | 0, _, _, hn, _ => absurd hn (Nat.not_lt_zero _)
  | n + 1, p, q, hn, h => by
    cases hc : clo R t p q with
    | true => exact ⟨_, .cl hc⟩
    | false =>
      by_cases e : mid R p q = p ∨ mid R p q = q
      · exact ⟨_, .eq hc e⟩
      · have e1 : mid R p q ≠ p := fun k => e (.inl k)
        have e2 : mid R p q ≠ q := fun k => e (.inr k)
        obtain ⟨a, b⟩ := arcs_split hR h e1 e2
        have m := meas_split hR h e1 e2
        obtain ⟨l, hl⟩ := bt_exists hR n (by omega) a
        obtain ⟨l', hl'⟩ := bt_exists hR n (by omega) b
        exact ⟨_, .st hc e1 e2 hl hl'⟩

/-- a relation between neighbours -/
def Con (r : Pt → Pt → Prop) : Pt → List Pt → Prop
  | _, [] => True
  | p, x :: l => r p x ∧ Con r x l
theorem con_app {r : Pt → Pt → Prop} {x : Pt} {m : List Pt} : ∀ {p : Pt} {l : List Pt}, Con r p (l ++ x :: m) ↔ Con r p (l ++ [x]) ∧ Con r x m
  | p, [] => by simp [Con]
  | p, a :: l => by
    have ih := @con_app r x m a l
    show (r p a ∧ Con r a (l ++ x :: m)) ↔ (r p a ∧ Con r a (l ++ [x])) ∧ Con r x m
    rw [ih]
    exact and_assoc.symm
/-- two consecutive points of a chain -/
def Seg (R t : Int) (p q : Pt) : Prop := Arcs R p q ∧ (clo R t p q = true ∨ mid R p q = p ∨ mid R p q = q)
theorem bt_con {R t : Int} (hR : 0 < R) {p q : Pt} {l : List Pt} (h : Bt R t p q l) : Arcs R p q → Con (Seg R t) p (l ++ [q]) := by
  induction h with
  | cl h => intro a; exact ⟨⟨a, .inl h⟩, trivial⟩
  | eq h e => intro a; exact ⟨⟨a, .inr e⟩, trivial⟩
  | st h h1 h2 _ _ ih1 ih2 =>
    intro a
    obtain ⟨b, c⟩ := arcs_split hR a h1 h2
    rw [List.append_assoc, List.cons_append, con_app]
    exact ⟨ih1 b, ih2 c⟩
theorem bt_coarser {R t s : Int} (hts : t ≤ s) {p q : Pt} {l : List Pt} (h : Bt R s p q l) : ∀ {m : List Pt}, Bt R t p q m → l.Sublist m := by
  induction h with
  | cl => intro m _; exact List.nil_sublist _
  | eq => intro m _; exact List.nil_sublist _
  | st h h1 h2 _ _ ih1 ih2 => intro m g; cases g with
    | cl k => rw [clo_mono hts k] at h; cases h
    | eq _ e => exact absurd e (fun e => e.elim h1 h2)
    | st _ _ _ g1 g2 => exact (ih1 g1).append ((ih2 g2).cons_cons _)

/-- the chain of a counterclockwise arc behind its first point -/
def qtr (p q : Pt) : Bool := decide (0 < crs0 p q ∧ 0 ≤ dot0 p q)
def lft (p : Pt) : Pt := (-p.2, p.1)
inductive Ch (R t : Int) : Pt → Pt → List Pt → Prop
  | last {p q l} : qtr p q = true → Bt R t p q l → Ch R t p q (l ++ [q])
  | more {p q l m} : qtr p q = false → Bt R t p (lft p) l → Ch R t (lft p) q m → Ch R t p q (l ++ lft p :: m)
theorem Ch.unique {R t : Int} {p q : Pt} {l : List Pt} (h : Ch R t p q l) : ∀ {m : List Pt}, Ch R t p q m → l = m := by
  induction h with
  | last h k => intro m g; cases g with
    | last _ k2 => rw [k.unique k2]
    | more a => rw [h] at a; cases a
  | more h k _ ih => intro m g; cases g with
    | last a => rw [h] at a; cases a
    | more _ k2 g2 => rw [k.unique k2, ih g2]
theorem dig_own {R : Int} {p : Pt} (h : nrm p = R) : Dig R p := by
  have e1 := ab_sq p.1
  have e2 := ab_sq p.2
  have n1 := ab_nn p.1
  have n2 := ab_nn p.2
  have h' : ab p.1 * ab p.1 + ab p.2 * ab p.2 = R := by rw [e1, e2]; exact h
  have lo_le : ∀ {X : Int}, 0 ≤ X → lo X * lo X ≤ 4 * (X * X) := fun {X} h => by
    have := le_sq (lo_nn h) (show lo X ≤ 2 * X by unfold lo; split <;> omega)
    grind
  refine ⟨n1, n2, ?_, ?_⟩
  · have := lo_le n1
    have := lo_le n2
    omega
  · have : ∀ X : Int, (2 * X + 1) * (2 * X + 1) = 4 * (X * X) + 4 * X + 1 := fun X => by grind
    rw [this, this]
    omega
theorem lft_nrm (p : Pt) : nrm (lft p) = nrm p := by unfold nrm dot0 lft; grind
theorem arcs_own {R : Int} {p q : Pt} (hR : 0 < R) (hp : nrm p = R) (hq : nrm q = R) (h : qtr p q = true) : Arcs R p q := by
  have g := of_decide_eq_true h
  exact ⟨dig_own hp, dig_own hq, near_own hp hR, near_own hq hR, g.1, g.2⟩
theorem qtr_lft {R : Int} {p : Pt} (hR : 0 < R) (hp : nrm p = R) : qtr p (lft p) = true := by
  refine decide_eq_true ⟨?_, ?_⟩
  · have : crs0 p (lft p) = nrm p := by unfold crs0 lft nrm dot0; grind
    omega
  · have : dot0 p (lft p) = 0 := by unfold lft dot0; grind
    omega
theorem qtr_step {p q : Pt} : crs0 (lft p) q = -dot0 p q ∧ dot0 (lft p) q = crs0 p q := by
  constructor <;> unfold crs0 dot0 lft <;> grind
theorem ch_exists {R t : Int} {p q : Pt} (hR : 0 < R) (hp : nrm p = R) (hq : nrm q = R) : ∃ l, Ch R t p q l := by
  have bl : ∀ {p : Pt}, nrm p = R → ∃ l, Bt R t p (lft p) l := fun {p} h => bt_exists hR _ (Nat.lt_succ_self _) (arcs_own hR h (by rw [lft_nrm]; exact h) (qtr_lft hR h))
  have done : ∀ {p : Pt}, nrm p = R → qtr p q = true → ∃ l, Ch R t p q l := fun {p} h g => by
    obtain ⟨l, hl⟩ := bt_exists (t := t) hR _ (Nat.lt_succ_self _) (arcs_own hR h hq g)
    exact ⟨_, .last g hl⟩
  have step : ∀ {p : Pt}, nrm p = R → (qtr p q = false → ∃ l, Ch R t (lft p) q l) → ∃ l, Ch R t p q l := fun {p} h k => by
    cases g : qtr p q with
    | true => exact done h g
    | false =>
      obtain ⟨l, hl⟩ := k g
      obtain ⟨m, hm⟩ := bl h
      exact ⟨_, .more g hm hl⟩
  have n1 : nrm (lft p) = R := by rw [lft_nrm]; exact hp
  have n2 : nrm (lft (lft p)) = R := by rw [lft_nrm]; exact n1
  have n3 : nrm (lft (lft (lft p))) = R := by rw [lft_nrm]; exact n2
  refine step hp fun g0 => step n1 fun g1 => step n2 fun g2 => done n3 ?_
  have c := cauchy p q
  rw [hp, hq] at c
  have RR := mulp hR hR
  have h0 := of_decide_eq_false g0
  have h1 := of_decide_eq_false g1
  have h2 := of_decide_eq_false g2
  apply decide_eq_true
  simp only [qtr_step.1, qtr_step.2] at h1 h2 ⊢
  generalize crs0 p q = C at *
  generalize dot0 p q = E at *
  have : ¬ (C = 0 ∧ E = 0) := fun ⟨e1, e2⟩ => by subst e1; subst e2; omega
  omega
theorem ch_con {R t : Int} (hR : 0 < R) {p q : Pt} {l : List Pt} (h : Ch R t p q l) : nrm p = R → nrm q = R → Con (Seg R t) p l := by
  induction h with
  | last h k => intro hp hq; exact bt_con hR k (arcs_own hR hp hq h)
  | more h k _ ih =>
    intro hp hq
    rw [con_app]
    exact ⟨bt_con hR k (arcs_own hR hp (by rw [lft_nrm]; exact hp) (qtr_lft hR hp)), ih (by rw [lft_nrm]; exact hp) hq⟩
theorem ch_coarser {R t s : Int} (hts : t ≤ s) {p q : Pt} {l : List Pt} (h : Ch R s p q l) : ∀ {m : List Pt}, Ch R t p q m → l.Sublist m := by
  induction h with
  | last h k => intro m g; cases g with
    | last _ k2 => exact (bt_coarser hts k k2).append (List.Sublist.refl _)
    | more a => rw [h] at a; cases a
  | more h k _ ih => intro m g; cases g with
    | last a => rw [h] at a; cases a
    | more _ k2 g2 => exact (bt_coarser hts k k2).append ((ih g2).cons_cons _)
theorem ch_last {R t : Int} {p q : Pt} {l : List Pt} (h : Ch R t p q l) : ∃ m, l = m ++ [q] := by
  induction h with
  | last => exact ⟨_, rfl⟩
  | more _ _ _ ih =>
    obtain ⟨m, e⟩ := ih
    exact ⟨_, by rw [e, ← List.cons_append, ← List.append_assoc]⟩
/-- a segment of a chain is not distant -/
theorem seg_tol {R t : Int} {p q : Pt} (hR : 0 < R) (ht : 2 ≤ t) (h : Seg R t p q) (h1 : dot0 p (q.1 - p.1, q.2 - p.2) < 0) (h2 : 0 < dot0 q (q.1 - p.1, q.2 - p.2))
    (h3 : isq (65536 * crs0 p q * crs0 p q / nrm (q.1 - p.1, q.2 - p.2)) + 1 + 256 * t < isq (65536 * R)) : False := by
  obtain ⟨a, k⟩ := h
  have sym : nrm (p.1 - q.1, p.2 - q.2) = nrm (q.1 - p.1, q.2 - p.2) := by unfold nrm dot0; grind
  rcases k with k | k
  · have := of_decide_eq_true k
    rw [sym] at this
    omega
  · have hU := arcs_sum a
    have f := mid_flat hR hU (mid_is hU (Int.le_of_lt hR)) k
    have c := cauchy p q
    have eU : nrm (p.1 + q.1, p.2 + q.2) = nrm p + nrm q + 2 * dot0 p q := by unfold nrm dot0; grind
    have e1 : dot0 p (q.1 - p.1, q.2 - p.2) = dot0 p q - nrm p := by unfold nrm dot0; grind
    have e2 : dot0 q (q.1 - p.1, q.2 - p.2) = nrm q - dot0 p q := by unfold nrm dot0; grind
    have eD : nrm (q.1 - p.1, q.2 - p.2) = nrm p + nrm q - 2 * dot0 p q := by unfold nrm dot0; grind
    have hs : R ≤ nrm p + (ab p.1 + ab p.2) := dig_up a.1
    have g0 := a.2.2.2.2.2
    have s2 : (ab p.1 + ab p.2) * (ab p.1 + ab p.2) ≤ 2 * nrm p := by
      have := sqn (ab p.1 - ab p.2)
      have x1 := ab_sq p.1
      have x2 := ab_sq p.2
      unfold nrm dot0
      grind
    have sn1 := ab_nn p.1
    have sn2 := ab_nn p.2
    have pp := dot_self_pos (p := p) (q := q) (by have := a.2.2.2.2.1; omega)
    have s1 : 1 ≤ ab p.1 + ab p.2 := by
      rcases loge (ab p.1 + ab p.2) 1 with j | j
      · exfalso
        have z1 : ab p.1 = 0 := by omega
        have z2 : ab p.2 = 0 := by omega
        have x1 := ab_sq p.1
        have x2 := ab_sq p.2
        rw [z1] at x1
        rw [z2] at x2
        unfold dot0 at pp
        omega
      · exact j
    rw [e1] at h1
    rw [e2] at h2
    rw [eU] at f
    rw [eD] at h3
    have hcc : 65536 * crs0 p q * crs0 p q = 65536 * (crs0 p q * crs0 p q) := by grind
    rw [hcc] at h3
    generalize hP : nrm p = P at *
    generalize hQ : nrm q = Q at *
    generalize dot0 p q = g at *
    generalize crs0 p q * crs0 p q = cc at *
    have two := flat_two (e := P - g) (f := Q - g) (g := g) (by omega) (by omega) g0 (by grind)
    have cc1 : cc = 2 * P - 1 := by
      have ep : g = P - 1 := by omega
      have eq : Q = P := by omega
      rw [ep, eq] at c
      grind
    have ed : P + Q - 2 * g = 2 := by omega
    rw [ed, cc1, show 65536 * (2 * P - 1) = (65536 * P - 32768) * 2 by omega, Int.mul_ediv_cancel _ (by decide)] at h3
    have i1 := isq_spec (n := 65536 * P - 32768) (by omega)
    have i2 := isq_spec (n := 65536 * R) (by omega)
    exact far_flat ht s1 s2 hs (isq_nn _) i1.2 i2.1 h3
end Go.Proofs.Ytlogihcmmoldkaa.A
