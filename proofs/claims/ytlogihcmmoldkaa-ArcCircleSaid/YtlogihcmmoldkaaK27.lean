/-
  seg, plain: which points two valid segments have in common, for each way in which they meet. Condition: the segments are valid, the point is within 4000.
  ring, plain: which points cleaning removes. No condition.
  ring, plain: what the program's functions of layer 8 return, over lists of integer points; no program. No condition.
  ring: slices.Equal, slices.Index and slices.MinFunc at rings, and Same of both sides. Condition: where it says so, the list is not longer than 2^40.
-/
import Derived.Test.YtlogihcmmoldkaaK26
import Derived.Test.YtlogihcmmoldkaaK23
import Derived.Test.YtlogihcmmoldkaaK09
import Derived.Test.YtlogihcmmoldkaaK13
import Derived.Test.YtlogihcmmoldkaaK10
namespace Go.Proofs.Ytlogihcmmoldkaa.W
open Go.RowKit Go.Proofs.Ytlogihcmmoldkaa.V Go.Proofs.Ytlogihcmmoldkaa.G

theorem first_le {L : List (Int × Int)} (h : Asc L) {z : Int × Int} (hz : z ∈ L) : z = firstV L ∨ ltV (firstV L) z := by
  cases L with
  | nil => cases hz
  | cons x r =>
    rcases List.mem_cons.1 hz with e | e
    · exact .inl e
    · exact .inr ((List.pairwise_cons.1 h).1 z e)
theorem first_mem {L : List (Int × Int)} (h : L ≠ []) : firstV L ∈ L := by
  cases L with
  | nil => exact absurd rfl h
  | cons x r => exact List.mem_cons_self
theorem lt_key {x y z t : Int} (h : Lm x y) (g : Lm z t) : ltV (x, y) (z, t) ↔ key x y < key z t := by
  rw [key_lt h g, ltV_iff]
section
variable {ax ay bx bz cx cy dx dy : Int} (h1 : validS ax ay bx bz = true) (h2 : validS cx cy dx dy = true)
include h1 h2
theorem com_of {x y : Int} (e : (x = ax ∧ y = ay) ∨ (x = bx ∧ y = bz) ∨ (x = cx ∧ y = cy) ∨ (x = dx ∧ y = dy)) (hs : On ax ay bx bz x y) (ht : On cx cy dx dy x y) : (x, y) ∈ comS ax ay bx bz cx cy dx dy ∧ Lm x y := by
  obtain ⟨ha, hb⟩ := valid_lm h1
  obtain ⟨hc, hd⟩ := valid_lm h2
  have hl : Lm x y := by rcases e with ⟨rfl, rfl⟩ | ⟨rfl, rfl⟩ | ⟨rfl, rfl⟩ | ⟨rfl, rfl⟩ <;> assumption
  refine ⟨(com_mem ax ay bx bz cx cy dx dy (x, y)).2 ⟨by simpa [endsL] using e, ?_⟩, hl⟩
  unfold bothS
  rw [Bool.and_eq_true]
  exact ⟨(con_lm ha hb hl).2 hs, (con_lm hc hd hl).2 ht⟩
theorem split_com {px py : Int} (hp : Lm px py) (hs : On ax ay bx bz px py) (ht : On cx cy dx dy px py) :
    ((∃ x y, (x, y) ∈ comS ax ay bx bz cx cy dx dy ∧ Lm x y ∧ key x y ≤ key px py) ∧ (∃ x y, (x, y) ∈ comS ax ay bx bz cx cy dx dy ∧ Lm x y ∧ key px py ≤ key x y)) ∨ comS ax ay bx bz cx cy dx dy = [] ∧ Prt ax ay bx bz cx cy dx dy ∧ Prt cx cy dx dy ax ay bx bz := by
  obtain ⟨ha, hb⟩ := valid_lm h1
  obtain ⟨hc, hd⟩ := valid_lm h2
  rcases common_split ha hb hc hd hp hs ht with ⟨⟨x, y, e, o1, o2, k⟩, ⟨x', y', e', o1', o2', k'⟩⟩ | ⟨g1, g2⟩
  · exact .inl ⟨⟨x, y, (com_of h1 h2 e o1 o2).1, (com_of h1 h2 e o1 o2).2, k⟩, ⟨x', y', (com_of h1 h2 e' o1' o2').1, (com_of h1 h2 e' o1' o2').2, k'⟩⟩
  · refine .inr ⟨?_, g1, g2⟩
    match hm : comS ax ay bx bz cx cy dx dy with
    | [] => rfl
    | (x, y) :: r =>
      obtain ⟨e, _, h3, h4⟩ := com_lm h1 h2 (show (x, y) ∈ comS ax ay bx bz cx cy dx dy by rw [hm]; exact List.mem_cons_self)
      exact absurd ⟨g1, g2⟩ (end_not_cross e h3 h4)
theorem both_iff {px py : Int} (hp : Lm px py) : (onS ax ay bx bz px py && onS cx cy dx dy px py) = true ↔ On ax ay bx bz px py ∧ On cx cy dx dy px py := by
  rw [Bool.and_eq_true, on_valid h1, on_valid h2]
  exact ⟨fun h => ⟨h.1.2, h.2.2⟩, fun h => ⟨⟨hp, h.1⟩, ⟨hp, h.2⟩⟩⟩
theorem kind_is : kindS ax ay bx bz cx cy dx dy = if (comS ax ay bx bz cx cy dx dy).isEmpty then (if partS ax ay bx bz cx cy dx dy && partS cx cy dx dy ax ay bx bz then 2 else 0) else if firstV (comS ax ay bx bz cx cy dx dy) = lastV (comS ax ay bx bz cx cy dx dy) then 1 else 3 := by
  unfold kindS
  rw [h1, h2, Bool.and_self, if_pos rfl]
theorem parts_is (hne : comS ax ay bx bz cx cy dx dy ≠ []) : partsS ax ay bx bz cx cy dx dy = (firstV (comS ax ay bx bz cx cy dx dy), lastV (comS ax ay bx bz cx cy dx dy)) := by
  unfold partsS
  rw [h1, h2, Bool.and_self, Bool.true_and]
  cases hL : comS ax ay bx bz cx cy dx dy with
  | nil => exact absurd hL hne
  | cons x r => rfl
theorem common0 {px py : Int} (hp : Lm px py) (hk : kindS ax ay bx bz cx cy dx dy = 0) : (onS ax ay bx bz px py && onS cx cy dx dy px py) = false := by
  apply Bool.eq_false_iff.2
  rw [Ne, both_iff h1 h2 hp]
  rintro ⟨o1, o2⟩
  obtain ⟨ha, hb⟩ := valid_lm h1
  obtain ⟨hc, hd⟩ := valid_lm h2
  rw [kind_is h1 h2] at hk
  rcases split_com h1 h2 hp o1 o2 with ⟨⟨x, y, hm, _⟩, _⟩ | ⟨he, g1, g2⟩
  · cases hL : comS ax ay bx bz cx cy dx dy with
    | nil => rw [hL] at hm; cases hm
    | cons z r =>
      rw [hL, if_neg (by simp)] at hk
      split at hk <;> omega
  · rw [he, if_pos (show ([] : List (Int × Int)).isEmpty = true from rfl), (part_lm ha hb hc hd).2 g1, (part_lm hc hd ha hb).2 g2] at hk
    exact absurd hk (by decide)
theorem kind_ne {k : Int} (hk : kindS ax ay bx bz cx cy dx dy = k) (h : k = 1 ∨ k = 3) : comS ax ay bx bz cx cy dx dy ≠ [] ∧ (firstV (comS ax ay bx bz cx cy dx dy) = lastV (comS ax ay bx bz cx cy dx dy) ↔ k = 1) := by
  rw [kind_is h1 h2] at hk
  cases hL : comS ax ay bx bz cx cy dx dy with
  | nil =>
    rw [hL, if_pos (show ([] : List (Int × Int)).isEmpty = true from rfl)] at hk
    split at hk <;> omega
  | cons z r =>
    rw [hL, if_neg (by simp)] at hk
    refine ⟨by simp, ?_⟩
    split at hk
    · rename_i h'; exact ⟨fun _ => hk.symm, fun _ => h'⟩
    · rename_i h'; exact ⟨fun e => absurd e h', fun e => by omega⟩
theorem common1 {px py : Int} (hp : Lm px py) (hk : kindS ax ay bx bz cx cy dx dy = 1) : (onS ax ay bx bz px py && onS cx cy dx dy px py) = ((partsS ax ay bx bz cx cy dx dy).1.1 == px && (partsS ax ay bx bz cx cy dx dy).1.2 == py) ∧ Lm (partsS ax ay bx bz cx cy dx dy).1.1 (partsS ax ay bx bz cx cy dx dy).1.2 := by
  obtain ⟨hne, hfl⟩ := kind_ne h1 h2 hk (.inl rfl)
  have hfl := hfl.2 rfl
  rw [parts_is h1 h2 hne]
  have hasc := com_asc ax ay bx bz cx cy dx dy
  have hfm := first_mem hne
  have hall : ∀ z ∈ comS ax ay bx bz cx cy dx dy, z = firstV (comS ax ay bx bz cx cy dx dy) := fun z hz => by
    rcases first_le hasc hz with e | e
    · exact e
    · rcases (lastV_is hasc hne).2 z hz with g | g
      · rw [g, hfl]
      · rw [← hfl] at g
        exact absurd (ltV_trans e g) (ltV_irrefl _)
  obtain ⟨⟨fx, fy⟩, hf⟩ : ∃ f, firstV (comS ax ay bx bz cx cy dx dy) = f := ⟨_, rfl⟩
  rw [hf] at hfm hall ⊢
  obtain ⟨_, hl, o1, o2⟩ := com_lm h1 h2 hfm
  refine ⟨?_, hl⟩
  apply Bool.eq_iff_iff.2
  rw [both_iff h1 h2 hp]
  simp only [Bool.and_eq_true, beq_iff_eq]
  constructor
  · rintro ⟨p1, p2⟩
    rcases split_com h1 h2 hp p1 p2 with ⟨⟨x, y, hm, hxl, k⟩, ⟨x', y', hm', hxl', k'⟩⟩ | ⟨he, _⟩
    · have e := hall _ hm
      have e' := hall _ hm'
      injection e with e1 e2
      injection e' with e1' e2'
      subst e1 e2 e1' e2'
      exact key_inj hxl hp (by omega)
    · exact absurd he hne
  · rintro ⟨rfl, rfl⟩
    exact ⟨o1, o2⟩
theorem common3 {px py : Int} (hp : Lm px py) (hk : kindS ax ay bx bz cx cy dx dy = 3) :
    (onS ax ay bx bz px py && onS cx cy dx dy px py) = onS (partsS ax ay bx bz cx cy dx dy).1.1 (partsS ax ay bx bz cx cy dx dy).1.2 (partsS ax ay bx bz cx cy dx dy).2.1 (partsS ax ay bx bz cx cy dx dy).2.2 px py ∧
    onS ax ay bx bz (partsS ax ay bx bz cx cy dx dy).1.1 (partsS ax ay bx bz cx cy dx dy).1.2 = true ∧ onS ax ay bx bz (partsS ax ay bx bz cx cy dx dy).2.1 (partsS ax ay bx bz cx cy dx dy).2.2 = true ∧
    onS cx cy dx dy (partsS ax ay bx bz cx cy dx dy).1.1 (partsS ax ay bx bz cx cy dx dy).1.2 = true ∧ onS cx cy dx dy (partsS ax ay bx bz cx cy dx dy).2.1 (partsS ax ay bx bz cx cy dx dy).2.2 = true ∧
    lessV (partsS ax ay bx bz cx cy dx dy).1.1 (partsS ax ay bx bz cx cy dx dy).1.2 (partsS ax ay bx bz cx cy dx dy).2.1 (partsS ax ay bx bz cx cy dx dy).2.2 = true := by
  obtain ⟨ha, hb⟩ := valid_lm h1
  obtain ⟨hc, hd⟩ := valid_lm h2
  obtain ⟨hne, hfl⟩ := kind_ne h1 h2 hk (.inr rfl)
  have hfl : ¬ firstV (comS ax ay bx bz cx cy dx dy) = lastV (comS ax ay bx bz cx cy dx dy) := fun e => absurd (hfl.1 e) (by decide)
  rw [parts_is h1 h2 hne]
  have hasc := com_asc ax ay bx bz cx cy dx dy
  have hfm := first_mem hne
  have hlm := (lastV_is hasc hne).1
  have hle := fun z hz => first_le hasc (z := z) hz
  have hge := (lastV_is hasc hne).2
  obtain ⟨⟨fx, fy⟩, hf⟩ : ∃ f, firstV (comS ax ay bx bz cx cy dx dy) = f := ⟨_, rfl⟩
  obtain ⟨⟨gx, gy⟩, hg⟩ : ∃ f, lastV (comS ax ay bx bz cx cy dx dy) = f := ⟨_, rfl⟩
  rw [hf] at hfm hle hfl ⊢
  rw [hg] at hlm hge hfl ⊢
  obtain ⟨_, hl, o1, o2⟩ := com_lm h1 h2 hfm
  obtain ⟨_, hl', o1', o2'⟩ := com_lm h1 h2 hlm
  have hlt : ltV (fx, fy) (gx, gy) := by
    rcases hle _ hlm with e | e
    · exact absurd e.symm hfl
    · exact e
  have hkl := (lt_key hl hl').1 hlt
  have hne' : ¬ (fx = gx ∧ fy = gy) := fun e => hfl (by rw [e.1, e.2])
  have hv : validS fx fy gx gy = true := by
    unfold validS
    rw [within_lm.2 hl, within_lm.2 hl']
    rfl
  refine ⟨?_, (on_valid h1).2 ⟨hl, o1⟩, (on_valid h1).2 ⟨hl', o1'⟩, (on_valid h2).2 ⟨hl, o2⟩, (on_valid h2).2 ⟨hl', o2'⟩, hlt⟩
  apply Bool.eq_iff_iff.2
  rw [both_iff h1 h2 hp, on_valid hv]
  constructor
  · rintro ⟨p1, p2⟩
    refine ⟨hp, (on_btw hl hp).2 ⟨on_line o1 o1' p1 hne', ?_⟩⟩
    rcases split_com h1 h2 hp p1 p2 with ⟨⟨x, y, hm, hxl, k⟩, ⟨x', y', hm', hxl', k'⟩⟩ | ⟨he, _⟩
    · have e : key fx fy ≤ key x y := by
        rcases hle _ hm with e | e
        · injection e with e1 e2
          rw [e1, e2]
          exact Int.le_refl _
        · exact Int.le_of_lt ((lt_key hl hxl).1 e)
      have e' : key x' y' ≤ key gx gy := by
        rcases hge _ hm' with e | e
        · injection e with e1 e2
          rw [e1, e2]
          exact Int.le_refl _
        · exact Int.le_of_lt ((lt_key hxl' hl').1 e)
      exact .inl ⟨by omega, by omega⟩
    · exact absurd he hne
  · rintro ⟨_, o⟩
    exact ⟨on_mid ha hl hl' hp o1 o1' o hne', on_mid hc hl hl' hp o2 o2' o hne'⟩
end
theorem cross_way {ax ay bx bz cx cy dx dy : Int} (hk : kindS ax ay bx bz cx cy dx dy = 2) : ∃ D N : Int, 0 < D ∧ D ≤ 128000000 ∧ 0 < N ∧ N < D ∧ crossS ax ay bx bz cx cy dx dy = lowV (ax * D + (bx - ax) * N) (ay * D + (bz - ay) * N) D ∧
    ((denX ax ay bx bz cx cy dx dy = D ∧ numX ax ay cx cy dx dy = N) ∨ (denX ax ay bx bz cx cy dx dy = -D ∧ numX ax ay cx cy dx dy = -N)) := by
  obtain ⟨⟨ha, hb⟩, ⟨hc, hd⟩, g1, g2, _⟩ := kind_two hk
  obtain ⟨hD, hN⟩ := den_le ha hb hc hd
  have hb' := num_between g2
  unfold crossS crossX crossY
  obtain ⟨D, hDD⟩ : ∃ D, denX ax ay bx bz cx cy dx dy = D := ⟨_, rfl⟩
  obtain ⟨N, hNN⟩ : ∃ N, numX ax ay cx cy dx dy = N := ⟨_, rfl⟩
  rw [hDD] at hD hb'
  rw [hNN] at hN hb'
  rw [hDD, hNN]
  by_cases h : D < 0
  · rw [if_pos h]
    refine ⟨-D, -N, by omega, by omega, by omega, by omega, ?_, .inr ⟨by omega, by omega⟩⟩
    rw [Int.mul_neg, Int.mul_neg, Int.mul_neg, Int.mul_neg, ← Int.neg_add, ← Int.neg_add]
  · rw [if_neg h]
    exact ⟨D, N, by omega, by omega, by omega, by omega, rfl, .inl ⟨rfl, rfl⟩⟩
theorem common2 {ax ay bx bz cx cy dx dy : Int} (h1 : validS ax ay bx bz = true) (h2 : validS cx cy dx dy = true) {px py : Int} (hp : Lm px py) (hk : kindS ax ay bx bz cx cy dx dy = 2) :
    (onS ax ay bx bz px py && onS cx cy dx dy px py) = ((crossS ax ay bx bz cx cy dx dy).1 == px && (crossS ax ay bx bz cx cy dx dy).2.1 == py && (crossS ax ay bx bz cx cy dx dy).2.2 == 1) ∧ validP (crossS ax ay bx bz cx cy dx dy).1 (crossS ax ay bx bz cx cy dx dy).2.1 (crossS ax ay bx bz cx cy dx dy).2.2 = true := by
  obtain ⟨⟨ha, hb⟩, ⟨hc, hd⟩, g1, g2, _⟩ := kind_two hk
  obtain ⟨D, N, hD, hD2, hN, hND, hcr, hs⟩ := cross_way hk
  have hco := cross_on (px := px) (py := py) g1 g2
  rw [hcr]
  constructor
  · apply Bool.eq_iff_iff.2
    rw [both_iff h1 h2 hp, hco]
    have hli := low_int (x := ax * D + (bx - ax) * N) (y := ay * D + (bz - ay) * N) (px := px) (py := py) hD
    have e : (((lowV (ax * D + (bx - ax) * N) (ay * D + (bz - ay) * N) D).1 == px && (lowV (ax * D + (bx - ax) * N) (ay * D + (bz - ay) * N) D).2.1 == py && (lowV (ax * D + (bx - ax) * N) (ay * D + (bz - ay) * N) D).2.2 == 1) = true) ↔ lowV (ax * D + (bx - ax) * N) (ay * D + (bz - ay) * N) D = (px, py, 1) := by
      generalize lowV (ax * D + (bx - ax) * N) (ay * D + (bz - ay) * N) D = l
      obtain ⟨l1, l2, l3⟩ := l
      simp [and_assoc]
    rw [e, hli]
    rcases hs with ⟨e1, e2⟩ | ⟨e1, e2⟩ <;> rw [e1, e2]
    rw [Int.mul_neg, Int.mul_neg, Int.mul_neg, Int.mul_neg, Int.mul_neg, Int.mul_neg]
    constructor <;> rintro ⟨q1, q2⟩ <;> exact ⟨by omega, by omega⟩
  · obtain ⟨l1, l2⟩ := low_den (x := ax * D + (bx - ax) * N) (y := ay * D + (bz - ay) * N) hD
    have lv := low_valid (x := ax * D + (bx - ax) * N) (y := ay * D + (bz - ay) * N) hD
    unfold Lm at ha hb
    have lw := low_within (M := 4000) hD (mix_le (a := ax) (b := bx) (n := N) (d := D) (M := 4000) (by omega) (by omega) (by omega) (by omega)) (mix_le (a := ay) (b := bz) (n := N) (d := D) (M := 4000) (by omega) (by omega) (by omega) (by omega))
    generalize lowV (ax * D + (bx - ax) * N) (ay * D + (bz - ay) * N) D = l at *
    obtain ⟨x, y, d⟩ := l
    simp only at *
    unfold validP inPt withinV
    rw [(den_iff d).2 ⟨by omega, by omega⟩, lv, w64_id (n := 4000 * d) ⟨by omega, by omega⟩, w64_id (n := -(4000 * d)) ⟨by omega, by omega⟩]
    simp
    omega
theorem valid_int {x y : Int} (h : Lm x y) : validP x y 1 = true := by
  unfold validP inPt withinV isDen gcd3
  unfold Lm at h
  rw [show w64 (4000 * 1) = 4000 from w64_id ⟨by omega, by omega⟩, show w64 (-4000) = -4000 from w64_id ⟨by omega, by omega⟩]
  simp
  omega
end Go.Proofs.Ytlogihcmmoldkaa.W

namespace Go.Proofs.Ytlogihcmmoldkaa.G
open Go.RowKit Go.Proofs.Ytlogihcmmoldkaa.V Go.Proofs.Ytlogihcmmoldkaa.W

/-- the first point that cleaning removes; the length if there is none -/
def spare (l : List Pt) (i : Nat) : Bool := (at_ l i == at_ l ((i + 1) % l.length)) || (turnI l i == 0)
def needIn (l : List Pt) : Nat → Nat → Nat
  | 0, i => i
  | f + 1, i => if spare l i then i else needIn l f (i + 1)
def need (l : List Pt) : Nat := needIn l l.length 0
theorem needIn_is {l : List Pt} : ∀ (f i : Nat), i ≤ needIn l f i ∧ needIn l f i ≤ i + f ∧ (∀ j, i ≤ j → j < needIn l f i → spare l j = false) ∧ (needIn l f i < i + f → spare l (needIn l f i) = true)
  | 0, i => by
    unfold needIn
    exact ⟨Nat.le_refl _, Nat.le_refl _, fun j h h' => absurd h' (Nat.not_lt.2 h), fun h => absurd h (Nat.lt_irrefl _)⟩
  | f + 1, i => by
    unfold needIn
    split
    · rename_i h
      exact ⟨Nat.le_refl _, by omega, fun j h h' => absurd h' (Nat.not_lt.2 h), fun _ => h⟩
    · rename_i h
      have := needIn_is (l := l) f (i + 1)
      refine ⟨by omega, by omega, fun j h1 h2 => ?_, fun hh => this.2.2.2 (by omega)⟩
      rcases Nat.lt_or_ge i j with hj | hj
      · exact this.2.2.1 j hj h2
      · obtain rfl : j = i := by omega
        simpa using h
theorem need_is {l : List Pt} : need l ≤ l.length ∧ (∀ j, j < need l → spare l j = false) ∧ (need l < l.length → spare l (need l) = true) := by
  have := needIn_is (l := l) l.length 0
  unfold need
  exact ⟨by omega, fun j h => this.2.2.1 j (Nat.zero_le _) h, fun h => this.2.2.2 (by omega)⟩
theorem need_of {l : List Pt} {k : Nat} (hk : k ≤ l.length) (h1 : ∀ j, j < k → spare l j = false) (h2 : k < l.length → spare l k = true) : need l = k := by
  obtain ⟨a, b, c⟩ := need_is (l := l)
  rcases Nat.lt_trichotomy (need l) k with h | h | h
  · have := h1 _ h
    rw [c (by omega)] at this
    cases this
  · exact h
  · have := b _ h
    rw [h2 (by omega)] at this
    cases this
def cleanTo : Nat → List Pt → List Pt
  | 0, l => l
  | f + 1, l => if need l < l.length then cleanTo f (l.eraseIdx (need l)) else l
def cleanL (l : List Pt) : List Pt := cleanTo l.length l
theorem cleanTo_more : ∀ (f : Nat) (l : List Pt), l.length ≤ f → cleanTo f l = cleanL l
  | 0, l, h => by
    obtain rfl : l = [] := List.eq_nil_of_length_eq_zero (by omega)
    rfl
  | f + 1, l, h => by
    unfold cleanL cleanTo
    split
    · rename_i hn
      have hlen : (l.eraseIdx (need l)).length = l.length - 1 := List.length_eraseIdx_of_lt hn
      rw [cleanTo_more f _ (by omega)]
      split
      · omega
      · rename_i n hl
        rw [if_pos hn, cleanTo_more n _ (by omega)]
    · rename_i hn
      split
      · rfl
      · rw [if_neg hn]
theorem clean_step {l : List Pt} (h : need l < l.length) : cleanL (l.eraseIdx (need l)) = cleanL l := by
  have hlen : (l.eraseIdx (need l)).length = l.length - 1 := List.length_eraseIdx_of_lt h
  rw [show cleanL l = cleanTo (l.length - 1 + 1) l from (cleanTo_more _ _ (by omega)).symm]
  unfold cleanTo
  rw [if_pos h]
  exact (cleanTo_more _ _ (by omega)).symm
theorem clean_end {l : List Pt} (h : ¬ need l < l.length) : cleanL l = l := by
  rw [← cleanTo_more (l.length + 1) l (by omega)]
  unfold cleanTo
  rw [if_neg h]
end Go.Proofs.Ytlogihcmmoldkaa.G

namespace Go.Proofs.Ytlogihcmmoldkaa.G
open Go.RowKit Go.Proofs.Ytlogihcmmoldkaa.V Go.Proofs.Ytlogihcmmoldkaa.W

def kindE (e f : Ed) : Int := kindS e.1.1 e.1.2 e.2.1 e.2.2 f.1.1 f.1.2 f.2.1 f.2.2
def pairOk (l : List Pt) (i j : Nat) : Bool := decide (j < i + 2) || decide ((j + 1) % l.length = i) || apartE (edgeP l i) (edgeP l j) || (kindE (edgeP l i) (edgeP l j) == 0)
def simpleP (l : List Pt) : Bool := allTo l.length fun i => allTo l.length fun j => pairOk l i j
def validR (l : List Pt) : Bool := decide (3 ≤ l.length) && decide (l.length ≤ 40) && allW l && turnsP l && decide (0 < areaP l) && simpleP l
def area2R (l : List Pt) : Int := if validR l then areaP l else 0
def convexR (l : List Pt) : Bool := validR l && allTo l.length fun i => !decide (turnI l i < 0)
/-- the index of the first least point among the first k -/
def lowTo (l : List Pt) : Nat → Nat
  | 0 => 0
  | k + 1 => if lessV (at_ l k).1 (at_ l k).2 (at_ l (lowTo l k)).1 (at_ l (lowTo l k)).2 then k else lowTo l k
def low (l : List Pt) : Nat := lowTo l l.length
def rotL (l : List Pt) (k : Nat) : List Pt := l.drop k ++ l.take k
def beginL (l : List Pt) : List Pt := rotL l (low l)
def canonR (l : List Pt) : List Pt := if validR l then beginL l else []
theorem lowTo_lt {l : List Pt} : ∀ {k : Nat}, 0 < k → lowTo l k < k
  | 1, _ => by unfold lowTo; split <;> simp [lowTo]
  | k + 2, _ => by
    have := lowTo_lt (l := l) (k := k + 1) (by omega)
    unfold lowTo
    split <;> omega
theorem lowTo_one {l : List Pt} : lowTo l 1 = 0 := by have := lowTo_lt (l := l) (k := 1) (by omega); omega
theorem lowTo_is {l : List Pt} : ∀ {k : Nat}, ∀ j, j < k → ¬ ltV (at_ l j) (at_ l (lowTo l k)) ∧ (j < lowTo l k → ltV (at_ l (lowTo l k)) (at_ l j))
  | 0, j, h => absurd h (Nat.not_lt_zero _)
  | k + 1, j, h => by
    unfold lowTo
    split
    · rename_i hl
      rcases Nat.lt_or_ge j k with hj | hj
      · have := lowTo_is (l := l) (k := k) j hj
        have hlt : ltV (at_ l k) (at_ l j) := by
          rcases ltV_tri (at_ l j) (at_ l (lowTo l k)) with h1 | h1 | h1
          · exact absurd h1 this.1
          · rw [h1]; exact hl
          · exact ltV_trans hl h1
        exact ⟨fun hc => ltV_irrefl _ (ltV_trans hc hlt), fun _ => hlt⟩
      · obtain rfl : j = k := by omega
        exact ⟨ltV_irrefl _, fun hc => absurd hc (Nat.lt_irrefl _)⟩
    · rename_i hl
      rcases Nat.lt_or_ge j k with hj | hj
      · exact lowTo_is (l := l) (k := k) j hj
      · obtain rfl : j = k := by omega
        refine ⟨hl, fun hc => ?_⟩
        rcases Nat.eq_zero_or_pos j with h0 | h0
        · subst h0
          simp [lowTo] at hc
        · have := lowTo_lt (l := l) h0
          omega

def turnedL (l : List Pt) : List Pt := if areaP l < 0 then l.reverse else l
/-- the cleaned ring, and the error's number -/
def cleanR (l : List Pt) : List Pt × Int :=
  if 200 < l.length then ([], 9) else if !allW l then ([], 2) else if !validR (turnedL (cleanL l)) then ([], 11) else (beginL (turnedL (cleanL l)), 0)
def moveR (l : List Pt) (v : Pt) : List Pt × Int :=
  if !validR l then ([], 11) else if !allW (l.map fun p => (w64 (p.1 + v.1), w64 (p.2 + v.2))) then ([], 2) else (l.map fun p => (w64 (p.1 + v.1), w64 (p.2 + v.2)), 0)

/-- where a rational point lies -/
def sideP (e : Ed) (x y d : Int) : Int := (e.2.1 - e.1.1) * (y - e.1.2 * d) - (e.2.2 - e.1.2) * (x - e.1.1 * d)
def onP (e : Ed) (x y d : Int) : Bool := decide (min e.1.1 e.2.1 * d ≤ x) && decide (x ≤ max e.1.1 e.2.1 * d) && decide (min e.1.2 e.2.2 * d ≤ y) && decide (y ≤ max e.1.2 e.2.2 * d) && (sideP e x y d == 0)
def upP (e : Ed) (y d : Int) : Bool := decide (e.1.2 * d ≤ y) && decide (y < e.2.2 * d)
def downP (e : Ed) (y d : Int) : Bool := decide (e.2.2 * d ≤ y) && decide (y < e.1.2 * d)
def crossesP (e : Ed) (x y d : Int) : Bool := (upP e y d && decide (0 < sideP e x y d)) || (downP e y d && decide (sideP e x y d < 0))
def countP (l : List Ed) (x y d : Int) : Nat := (l.filter fun e => crossesP e x y d).length
def anyOn (l : List Ed) (x y d : Int) : Bool := l.any fun e => onP e x y d
def whereR (l : List Pt) (x y d : Int) : Int :=
  if validR l && validP x y d then (if anyOn (edgesP l) x y d then 1 else if countP (edgesP l) x y d % 2 = 1 then 2 else 0) else 0
end Go.Proofs.Ytlogihcmmoldkaa.G

namespace Go.Proofs.Ytlogihcmmoldkaa.W
open Go.RowKit Go.Proofs.Ytlogihcmmoldkaa.V Go.Proofs.Ytlogihcmmoldkaa.G


theorem list_ext_at {l m : List Pt} (h : l.length = m.length) (ha : ∀ j, j < l.length → at_ l j = at_ m j) : l = m := by
  apply List.ext_getElem?
  intro j
  rcases Nat.lt_or_ge j l.length with hj | hj
  · rw [at_some hj, at_some (by omega), ha j hj]
  · rw [List.getElem?_eq_none hj, List.getElem?_eq_none (by omega)]
theorem not_eq_at {l m : List Pt} {j : Nat} (h : at_ l j ≠ at_ m j) : decide (l = m) = false := decide_eq_false fun e => h (by rw [e])

set_option maxRecDepth 100000 in
set_option maxHeartbeats 6400000 in
theorem rsame6_any (l m : List (Int × Int)) (u v : Value) (w : World) (hu : SrcV w u l) (hv : SrcV w v m) : Calls Try.prog 14 #[u, v] w fun e w' => e = .returned (.bool (decide (l = m))) ∧ Nw w w' := by
  have hmix := mixed7
  obtain ⟨A, c, rfl⟩ := hu.shape
  obtain ⟨A2, c2, rfl⟩ := hv.shape
  obtain ⟨n, hn⟩ : ∃ n, l.length = n := ⟨_, rfl⟩
  obtain ⟨n2, hn2⟩ : ∃ n, m.length = n := ⟨_, rfl⟩
  replace hu := src_n hu hn
  replace hv := src_n hv hn2
  rw [hn, hn2]
  have HU := Lib.hid hu
  have HV := Lib.hid hv
  have hmx := src_max hu
  have HN := Lib.hid hn
  have HN2 := Lib.hid hn2
  obtain ⟨r, hr⟩ : ∃ r, decide (l = m) = r := ⟨_, rfl⟩
  rw [hr]
  have HR := Lib.hid hr
  clear hu hv hn hn2 hr
  by_cases hnn : n = n2
  case neg =>
    have f1 : ((n : Int) != (n2 : Int)) = true := by simp; omega
    have f2 : (n != n2) = true := by simp [hnn]
    have HD := Lib.hid hnn
    clear hnn
    go_enter Try.func14, Try.ntmps14
    go_wp2_with fail
    go_ret
    refine ⟨?_, Kp.refl _ _⟩
    show Ending.returned (.bool false) = _
    rw [← HR.out, decide_eq_false fun e => HD.out (by rw [← HN.out, ← HN2.out, e])]
  subst hnn
  go_enter Try.func14, Try.ntmps14
  go_wp2_with fail
  go_loopw [5] (fun i wr => ∃ k : Nat, i = .int .i64 k ∧ k ≤ n ∧ (∀ j, j < k → at_ l j = at_ m j) ∧ Nw w wr) (fun i _ => n - (intOf i).toNat)
  case atStart => exact ⟨0, rfl, Nat.zero_le _, fun j h => absurd h (Nat.not_lt_zero _), (by repeat (first | exact Kp.refl _ _ | refine Kp.alloc ?_ _ | refine Kp.drew ?_))⟩
  case round =>
    obtain ⟨k, rfl, hk, hall, hnw⟩ := hrel
    have HA := Lib.hid hall
    clear hall
    have HK := Lib.hid hnw
    clear hnw
    by_cases hkn : k < n
    · have i0 : (0 : Int) ≤ (k : Int) := by omega
      have i1 : (k : Int) < (n : Int) := by omega
      obtain ⟨s4, hs4⟩ : ∃ s : Nat, k + 1 = s := ⟨_, rfl⟩
      have a4 : IntKind.i64.wrap ((k : Int) + 1) = (s4 : Int) := by rw [IntKind.wrap_i64]; omega
      have H4 := Lib.hid hs4
      obtain ⟨g, o, rfl, hg, hc⟩ := src_at HU.out (by omega)
      obtain ⟨g2, o2, rfl, hg2, hc2⟩ := src_at HV.out (by omega)
      obtain ⟨⟨ax, ay⟩, ha⟩ : ∃ p, at_ l k = p := ⟨_, rfl⟩
      obtain ⟨⟨bx, bz⟩, hb⟩ : ∃ p, at_ m k = p := ⟨_, rfl⟩
      have hq := fun w1 => neq_vec ax ay bx bz w1
      have q0 := fun p : KeptW wr => (hc p.wd (HK.out.tr p.since) k hkn).1
      have q1 := fun p : KeptW wr => (hc p.wd (HK.out.tr p.since) k hkn).2
      have q2 := fun p : KeptW wr => (hc2 p.wd (HK.out.tr p.since) k hkn).1
      have q3 := fun p : KeptW wr => (hc2 p.wd (HK.out.tr p.since) k hkn).2
      rw [ha] at q0 q1
      rw [hb] at q2 q3
      have H1 := Lib.hid ha
      have H2 := Lib.hid hb
      clear hc hc2 hg hg2 ha hb hs4
      by_cases hab : (ax, ay) = (bx, bz)
      · rw [show (!(ax == bx && ay == bz)) = false by injection hab with e1 e2; simp [e1, e2]] at hq
        have HAB := Lib.hid hab
        clear hab
        go_wp2_with fail
        refine wp_region_kept (Kp.refl _ _) (by assumption) (by kernel_rfl) ?_
        repeat (with_reducible refine wpQuiet_step (fun K hK => ?_); go_simp; first | ((with_reducible refine hK _ ?_); clear hK K) | (with_reducible apply Exists.intro; (with_reducible refine ⟨fun _ => ?_, hK _ ?_⟩); (fail); clear hK K) | (simp only [undef, reduceCtorEq, if_false]; (with_reducible refine hK _ ?_); clear hK K))
        with_reducible refine wpQuiet_nil ?_
        rintro _ ⟨p, rfl⟩
        go_wp2_with fail
        go_roundw
        case rel =>
          refine ⟨k + 1, by rw [← H4.out], by omega, fun j hj => ?_, HK.out.tr p.since⟩
          rcases Nat.lt_or_ge j k with h | h
          · exact HA.out j h
          · obtain rfl : j = k := by omega
            rw [H1.out, H2.out, HAB.out]
        case measure => (have := H4.out; simp [intOf]; try omega)
      · rw [show (!(ax == bx && ay == bz)) = true by
          rw [Bool.not_eq_true', Bool.eq_false_iff]; intro e; apply hab; simp at e; rw [e.1, e.2]] at hq
        have HAB := Lib.hid hab
        clear hab
        go_wp2_with fail
        refine wp_region_kept (Kp.refl _ _) (by assumption) (by kernel_rfl) ?_
        repeat (with_reducible refine wpQuiet_step (fun K hK => ?_); go_simp; first | ((with_reducible refine hK _ ?_); clear hK K) | (with_reducible apply Exists.intro; (with_reducible refine ⟨fun _ => ?_, hK _ ?_⟩); (fail); clear hK K) | (simp only [undef, reduceCtorEq, if_false]; (with_reducible refine hK _ ?_); clear hK K))
        with_reducible refine wpQuiet_nil ?_
        rintro _ ⟨p, rfl⟩
        go_wp2_with fail
        go_ret
        refine ⟨?_, HK.out.tr p.since⟩
        show Ending.returned (.bool false) = _
        rw [← HR.out, not_eq_at (j := k) (by rw [H1.out, H2.out]; exact HAB.out)]
    · obtain rfl : k = n := by omega
      have i5 : ¬ ((k : Int) < (k : Int)) := by omega
      go_wp2_with fail
      go_ret
      refine ⟨?_, HK.out⟩
      show Ending.returned (.bool true) = _
      rw [← HR.out, decide_eq_true (list_ext_at (by rw [HN.out, HN2.out]) (by rw [HN.out]; exact HA.out))]

set_option maxRecDepth 100000 in
set_option maxHeartbeats 6400000 in
theorem sIndex_any (l : List (Int × Int)) (v : Value) (ax ay : Int) (w : World) (hv : SrcV w v l) (q : Nat) (hq : q < l.length) (h1 : at_ l q = (ax, ay)) (h2 : ∀ j, j < q → at_ l j ≠ (ax, ay)) (hl : l.length ≤ 1099511627776) : Calls Try.prog 66 #[v, vV ax ay] w fun e w' => e = .returned (.int .i64 q) ∧ Nw w w' := by
  have hmix := mixed7
  obtain ⟨A, c, rfl⟩ := hv.shape
  obtain ⟨n, hn⟩ : ∃ n, l.length = n := ⟨_, rfl⟩
  replace hv := src_n hv hn
  rw [hn] at hl hq ⊢
  have HV := Lib.hid hv
  have HN := Lib.hid hn
  have hmx := src_max hv
  clear hv hn
  have HQ := Lib.hid (And.intro h1 h2)
  clear h1 h2
  have hb0 := Blk.new_at w 23 #[.int .i64 ax, .int .i64 ay] (n := w.heap.size) (by simp)
  have hk0 : ∀ p : KeptW (w.alloc (.cells #[.int .i64 ax, .int .i64 ay] 23)), Blk p.wd (w.heap.size) 23 #[.int .i64 ax, .int .i64 ay] := fun p => hb0.kept p
  have r0 := fun p => (hk0 p).cell 0
  have r1 := fun p => (hk0 p).cell 1
  skip
  clear hb0 hk0
  obtain ⟨w0, hw0⟩ : ∃ w0, w.alloc (.cells #[.int .i64 ax, .int .i64 ay] 23) = w0 := ⟨_, rfl⟩
  rw [hw0] at r0 r1
  have H0 := Lib.hid (show Nw w w0 by rw [← hw0]; exact nw_alloc _ _)
  have HR0 := Lib.hid r0
  have HR1 := Lib.hid r1
  clear r0 r1
  go_enter Try.func66, Try.ntmps66
  go_wp2_with fail
  clear hw0
  go_loopw [8] (fun i wr => ∃ k : Nat, i = .int .i64 k ∧ k ≤ q ∧ Nw w0 wr) (fun i _ => n - (intOf i).toNat)
  case atStart => exact ⟨0, rfl, Nat.zero_le _, (by repeat (first | exact Kp.refl _ _ | refine Kp.alloc ?_ _ | refine Kp.drew ?_))⟩
  case round =>
    obtain ⟨k, rfl, hk, hnw⟩ := hrel
    have hkn : k < n := by omega
    have HK := Lib.hid hnw
    clear hnw
    have i0 : (0 : Int) ≤ (k : Int) := by omega
    have i1 : (k : Int) < (n : Int) := by omega
    obtain ⟨s4, hs4⟩ : ∃ s : Nat, k + 1 = s := ⟨_, rfl⟩
    have a4 : IntKind.i64.wrap ((k : Int) + 1) = (s4 : Int) := by rw [IntKind.wrap_i64]; omega
    have H4 := Lib.hid hs4
    obtain ⟨g, o, rfl, hg, hc⟩ := src_at HV.out (by omega)
    obtain ⟨⟨bx, bz⟩, hb⟩ : ∃ p, at_ l k = p := ⟨_, rfl⟩
    have he := fun w1 => eql_vecg ax ay bx bz w1
    have q0 := fun p : KeptW wr => (hc p.wd ((H0.out.tr HK.out).tr p.since) k hkn).1
    have q1 := fun p : KeptW wr => (hc p.wd ((H0.out.tr HK.out).tr p.since) k hkn).2
    have q2 := fun p : KeptW wr => HR0.out ⟨p.wd, HK.out.tr p.since⟩
    have q3 := fun p : KeptW wr => HR1.out ⟨p.wd, HK.out.tr p.since⟩
    rw [hb] at q0 q1
    have H1 := Lib.hid hb
    clear hc hg hb hs4
    by_cases hab : (ax, ay) = (bx, bz)
    · rw [show (ax == bx && ay == bz) = true by injection hab with e1 e2; simp [e1, e2]] at he
      have HAB := Lib.hid hab
      clear hab
      go_wp2_with fail
      refine wp_region_kept (Kp.refl _ _) (by assumption) (by kernel_rfl) ?_
      repeat (with_reducible refine wpQuiet_step (fun K hK => ?_); go_simp; first | ((with_reducible refine hK _ ?_); clear hK K) | (with_reducible apply Exists.intro; (with_reducible refine ⟨fun _ => ?_, hK _ ?_⟩); (fail); clear hK K) | (simp only [undef, reduceCtorEq, if_false]; (with_reducible refine hK _ ?_); clear hK K))
      with_reducible refine wpQuiet_nil ?_
      rintro _ ⟨p, rfl⟩
      go_wp2_with fail
      go_ret
      refine ⟨?_, (H0.out.tr HK.out).tr p.since⟩
      obtain rfl : k = q := by
        rcases Nat.lt_or_eq_of_le hk with h | h
        · exact absurd (H1.out.trans HAB.out.symm) (HQ.out.2 k h)
        · exact h
      rfl
    · rw [show (ax == bx && ay == bz) = false by
        rw [Bool.eq_false_iff]; intro e; apply hab; simp at e; rw [e.1, e.2]] at he
      have HAB := Lib.hid hab
      clear hab
      go_wp2_with fail
      refine wp_region_kept (Kp.refl _ _) (by assumption) (by kernel_rfl) ?_
      repeat (with_reducible refine wpQuiet_step (fun K hK => ?_); go_simp; first | ((with_reducible refine hK _ ?_); clear hK K) | (with_reducible apply Exists.intro; (with_reducible refine ⟨fun _ => ?_, hK _ ?_⟩); (fail); clear hK K) | (simp only [undef, reduceCtorEq, if_false]; (with_reducible refine hK _ ?_); clear hK K))
      with_reducible refine wpQuiet_nil ?_
      rintro _ ⟨p, rfl⟩
      go_wp2_with fail
      go_roundw
      case rel =>
        refine ⟨k + 1, by rw [← H4.out], ?_, HK.out.tr p.since⟩
        rcases Nat.lt_or_eq_of_le hk with h | h
        · exact h
        · subst h
          exact absurd (HQ.out.1.symm.trans H1.out) HAB.out
      case measure => (have := H4.out; simp [intOf]; try omega)

end Go.Proofs.Ytlogihcmmoldkaa.W
