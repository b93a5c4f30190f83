/-
  hull, plain: when all points lie on a line; a convex ring begun elsewhere; where a point lies. No condition but those that stand.
  hull, plain: a ring that turns left everywhere is convex exactly if one vertex alone is less than both of its neighbours. No condition but those that stand.
-/
import Derived.Test.YthifljljaejfmaaJ16
namespace Go.Proofs.Ythifljljaejfmaa.G
open Go.RowKit Go.Proofs.Ythifljljaejfmaa.V Go.Proofs.Ythifljljaejfmaa.W

theorem line_two {a x y w : Pt} (hne : a ≠ x) (h : crsP a x y = 0) (g : crsP a x w = 0) : crsP x y w = 0 := by
  rcases lt_tri a x with k | k | k
  · exact line_cross k h g
  · exact absurd k hne
  · have e : ∀ q, crsP x a q = -crsP a x q := fun q => by unfold crsP crs; grind
    have := line_cross k (by rw [e, h]; rfl) (by rw [e, g]; rfl)
    have : crsP x y w = crsP a x y + crsP a y w - crsP a x w := by unfold crsP crs; grind
    omega
/-- all on a line through the first -/
theorem flat_iff {a : Pt} {l : List Pt} (ha : l.head? = some a) : FlatP l ↔ ∀ x ∈ l, ∀ y ∈ l, x ≠ a → crsP a x y = 0 := by
  have hm : a ∈ l := List.mem_of_mem_head? ha
  constructor
  · intro h x hx y hy _
    exact h a x y hm hx hy
  · intro h x y w hx hy hw
    by_cases e : x = a
    · subst e
      by_cases e' : y = x
      · subst e'
        unfold crsP crs; grind
      · exact h y hy w hw e'
    · exact line_two (fun k => e k.symm) (h x hx y hy e) (h x hx w hw e)
theorem flat_nil : FlatP [] := fun _ _ _ h => by cases h
/-- a ring begun at its vertex k -/
def rotC (k : Nat) (r : List Pt) : List Pt := r.drop k ++ r.take k
theorem rotC_len {k : Nat} {r : List Pt} (hk : k ≤ r.length) : (rotC k r).length = r.length := by unfold rotC; simp; omega
theorem rotC_at {k i : Nat} {r : List Pt} (hk : k < r.length) (hi : i < r.length) : at_ (rotC k r) i = at_ r ((k + i) % r.length) := by
  have hm : (k + i) % r.length < r.length := Nat.mod_lt _ (by omega)
  rw [at_lt (by rw [rotC_len (by omega)]; exact hi), at_lt hm]
  unfold rotC
  by_cases h : i < r.length - k
  · rw [List.getElem_append_left (by simp; omega), List.getElem_drop]
    congr 1
    rw [Nat.mod_eq_of_lt (by omega)]
  · rw [List.getElem_append_right (by simp; omega), List.getElem_take]
    congr 1
    rw [List.length_drop, Nat.mod_eq_sub_mod (by omega), Nat.mod_eq_of_lt (by omega)]
    omega
theorem rotC_mem {k : Nat} {r : List Pt} {x : Pt} : x ∈ rotC k r ↔ x ∈ r := by
  unfold rotC
  rw [List.mem_append]
  constructor
  · rintro (h | h)
    · exact List.mem_of_mem_drop h
    · exact List.mem_of_mem_take h
  · intro h
    rw [← List.take_append_drop k r] at h
    rcases List.mem_append.1 h with g | g
    · exact .inr g
    · exact .inl g
theorem conv_rot {k : Nat} {r : List Pt} (h : ConvP r) (hk : k < r.length) : ConvP (rotC k r) := by
  have hl := rotC_len (r := r) (Nat.le_of_lt hk)
  have inj : ∀ i j, i < r.length → j < r.length → (k + i) % r.length = (k + j) % r.length → i = j := fun i j hi hj e => by
    have e1 : (k + i) % r.length = if k + i < r.length then k + i else k + i - r.length := by
      split
      · exact Nat.mod_eq_of_lt (by omega)
      · rw [Nat.mod_eq_sub_mod (by omega), Nat.mod_eq_of_lt (by omega)]
    have e2 : (k + j) % r.length = if k + j < r.length then k + j else k + j - r.length := by
      split
      · exact Nat.mod_eq_of_lt (by omega)
      · rw [Nat.mod_eq_sub_mod (by omega), Nat.mod_eq_of_lt (by omega)]
    rw [e1, e2] at e
    split at e <;> split at e <;> omega
  refine ⟨by rw [hl]; exact h.1, fun i j hi hj n1 n2 => ?_⟩
  rw [hl] at hi hj n2 ⊢
  have hp : 0 < r.length := by omega
  have e : (k + (i + 1) % r.length) % r.length = ((k + i) % r.length + 1) % r.length := by
    rw [Nat.add_mod_mod, Nat.mod_add_mod, Nat.add_assoc]
  rw [rotC_at hk hi, rotC_at hk (Nat.mod_lt _ hp), rotC_at hk hj, e]
  refine h.2 _ _ (Nat.mod_lt _ hp) (Nat.mod_lt _ hp) (fun g => n1 (inj _ _ hj hi g)) fun g => ?_
  rw [← e] at g
  exact n2 (inj _ _ hj (Nat.mod_lt _ hp) g)
theorem conv_rot_iff {k : Nat} {r : List Pt} (hk : k < r.length) : ConvP (rotC k r) ↔ ConvP r := by
  constructor
  · intro h
    by_cases h0 : k = 0
    · subst h0
      unfold rotC at h
      simpa using h
    · have hl := rotC_len (r := r) (Nat.le_of_lt hk)
      have := conv_rot h (k := r.length - k) (by rw [hl]; omega)
      have e : rotC (r.length - k) (rotC k r) = r := by
        unfold rotC
        have : r.length - k = (r.drop k).length := by simp
        rw [this, List.drop_left, List.take_left, List.take_append_drop]
      rwa [e] at this
  · exact fun h => conv_rot h hk
/-- the hull of a convex ring's vertices is the ring, begun at its least vertex -/
theorem conv_hull {k : Nat} {r : List Pt} (h : ConvP r) (hk : k < r.length) (hl : ∀ i, i < r.length → LeP (at_ r k) (at_ r i)) : HullP r (rotC k r) := by
  have hc := conv_rot h hk
  have hn := rotC_len (r := r) (Nat.le_of_lt hk)
  refine ⟨hc, fun i hi => rotC_mem.1 (vx_mem hi), fun x hx i hi => ?_, fun i hi => ?_⟩
  · obtain ⟨j, hj, rfl⟩ := vx_at (rotC_mem (k := k).2 hx)
    by_cases e1 : j = i
    · subst e1
      have : ∀ a b : Pt, crsP a b a = 0 := fun a b => by unfold crsP crs; grind
      rw [this]; exact Int.le_refl _
    · by_cases e2 : j = (i + 1) % (rotC k r).length
      · rw [← e2]
        have : ∀ a b : Pt, crsP a b b = 0 := fun a b => by unfold crsP crs; grind
        rw [this]; exact Int.le_refl _
      · exact Int.le_of_lt (hc.2 i j hi hj e1 e2)
  · rw [hn] at hi
    rw [rotC_at hk (by omega), rotC_at hk hi, Nat.add_zero, Nat.mod_eq_of_lt hk]
    exact hl _ (Nat.mod_lt _ (by omega))
/-- a ring is convex if it is the hull of its vertices, begun at its least one -/
theorem hull_conv {k : Nat} {r l : List Pt} (h : HullP l (rotC k r)) (hk : k < r.length) : ConvP r := (conv_rot_iff hk).1 h.conv
end Go.Proofs.Ythifljljaejfmaa.G

namespace Go.Proofs.Ythifljljaejfmaa.G
open Go.RowKit Go.Proofs.Ythifljljaejfmaa.V Go.Proofs.Ythifljljaejfmaa.W

/-- the cross product of two edges of a chain -/
def edE (c : Nat → Pt) (i j : Nat) : Int := ((c (i + 1)).1 - (c i).1) * ((c (j + 1)).2 - (c j).2) - ((c (i + 1)).2 - (c i).2) * ((c (j + 1)).1 - (c j).1)
/-- an ascending chain that turns left -/
structure Bow (c : Nat → Pt) (s : Nat) : Prop where
  up : ∀ i, i < s → LtP (c i) (c (i + 1))
  turn : ∀ i, i + 1 < s → 0 < crsP (c i) (c (i + 1)) (c (i + 2))
section
variable {c : Nat → Pt} {s : Nat} (h : Bow c s)
include h
theorem Bow.lt {i : Nat} : ∀ j, i < j → j ≤ s → LtP (c i) (c j)
  | 0, hij, _ => absurd hij (Nat.not_lt_zero i)
  | j + 1, hij, hj => by
    by_cases e : i = j
    · subst e
      exact h.up i (by omega)
    · exact (Bow.lt j (by omega) (by omega)).trans (h.up j (by omega))
theorem Bow.edges {i : Nat} : ∀ j, i < j → j < s → 0 < edE c i j
  | 0, hij, _ => absurd hij (Nat.not_lt_zero i)
  | j + 1, hij, hj => by
    have t := h.turn j hj
    rw [crsP_at] at t
    by_cases e : i = j
    · subst e
      exact t
    · exact half_strict (h.up i (by omega)).fwd (h.up j (by omega)).fwd (h.up (j + 1) hj).fwd (Bow.edges j (by omega) (by omega)) (Int.le_of_lt t)
theorem Bow.right {i k : Nat} (hik : i < k) : ∀ j, k ≤ j → j ≤ s → 0 ≤ ((c (i + 1)).1 - (c i).1) * ((c j).2 - (c k).2) - ((c (i + 1)).2 - (c i).2) * ((c j).1 - (c k).1) ∧ (k < j → 0 < ((c (i + 1)).1 - (c i).1) * ((c j).2 - (c k).2) - ((c (i + 1)).2 - (c i).2) * ((c j).1 - (c k).1))
  | 0, hj, _ => absurd hj (by omega)
  | j + 1, hj, hs => by
    by_cases e : k = j + 1
    · subst e
      rw [Int.sub_self, Int.sub_self, Int.mul_zero, Int.mul_zero]
      exact ⟨by omega, fun h => absurd h (Nat.lt_irrefl _)⟩
    · have ih := (Bow.right hik j (by omega) (by omega)).1
      have t := h.edges (i := i) j (by omega) (by omega)
      have : ((c (i + 1)).1 - (c i).1) * ((c (j + 1)).2 - (c k).2) - ((c (i + 1)).2 - (c i).2) * ((c (j + 1)).1 - (c k).1) = (((c (i + 1)).1 - (c i).1) * ((c j).2 - (c k).2) - ((c (i + 1)).2 - (c i).2) * ((c j).1 - (c k).1)) + edE c i j := by unfold edE; grind
      rw [this]
      exact ⟨by omega, fun _ => by omega⟩
theorem Bow.back {i k : Nat} (his : i < s) : ∀ j, k ≤ j → j ≤ i → 0 ≤ ((c j).1 - (c k).1) * ((c (i + 1)).2 - (c i).2) - ((c j).2 - (c k).2) * ((c (i + 1)).1 - (c i).1)
  | 0, hj, _ => by
    obtain rfl : k = 0 := by omega
    rw [Int.sub_self, Int.sub_self, Int.zero_mul, Int.zero_mul]
    omega
  | j + 1, hj, hs => by
    by_cases e : k = j + 1
    · subst e
      rw [Int.sub_self, Int.sub_self, Int.zero_mul, Int.zero_mul]
      omega
    · have ih := Bow.back (k := k) his j (by omega) (by omega)
      have t := h.edges (i := j) i (by omega) his
      have : ((c (j + 1)).1 - (c k).1) * ((c (i + 1)).2 - (c i).2) - ((c (j + 1)).2 - (c k).2) * ((c (i + 1)).1 - (c i).1) = (((c j).1 - (c k).1) * ((c (i + 1)).2 - (c i).2) - ((c j).2 - (c k).2) * ((c (i + 1)).1 - (c i).1)) + edE c j i := by unfold edE; grind
      rw [this]
      omega
/-- the chain's points are not to the right of its edges -/
theorem Bow.left {i j : Nat} (hi : i < s) (hj : j ≤ s) : 0 ≤ crsP (c i) (c (i + 1)) (c j) := by
  rcases Nat.lt_or_ge i j with k | k
  · rw [crsP_at]
    exact (h.right (Nat.lt_succ_self i) j k hj).1
  · have t := h.back hi i k (Nat.le_refl i)
    have : crsP (c i) (c (i + 1)) (c j) = ((c i).1 - (c j).1) * ((c (i + 1)).2 - (c i).2) - ((c i).2 - (c j).2) * ((c (i + 1)).1 - (c i).1) := by unfold crsP crs; grind
    omega
theorem Bow.chord' {j : Nat} (hj : j ≤ s) : ∀ i, i ≤ j → 0 ≤ ((c i).1 - (c 0).1) * ((c s).2 - (c j).2) - ((c i).2 - (c 0).2) * ((c s).1 - (c j).1) ∧ (0 < i → j < s → 0 < ((c i).1 - (c 0).1) * ((c s).2 - (c j).2) - ((c i).2 - (c 0).2) * ((c s).1 - (c j).1))
  | 0, _ => by
    rw [Int.sub_self, Int.sub_self, Int.zero_mul, Int.zero_mul]
    exact ⟨by omega, fun h => absurd h (Nat.lt_irrefl _)⟩
  | i + 1, hi => by
    have ih := (Bow.chord' hj i (by omega)).1
    have t := h.right (i := i) (k := j) (by omega) s hj (Nat.le_refl s)
    have : ((c (i + 1)).1 - (c 0).1) * ((c s).2 - (c j).2) - ((c (i + 1)).2 - (c 0).2) * ((c s).1 - (c j).1) = (((c i).1 - (c 0).1) * ((c s).2 - (c j).2) - ((c i).2 - (c 0).2) * ((c s).1 - (c j).1)) + (((c (i + 1)).1 - (c i).1) * ((c s).2 - (c j).2) - ((c (i + 1)).2 - (c i).2) * ((c s).1 - (c j).1)) := by grind
    rw [this]
    exact ⟨by omega, fun _ hjs => by have := t.2 hjs; omega⟩
/-- and not to the left of the chord -/
theorem Bow.chord {j : Nat} (hj : j ≤ s) : crsP (c 0) (c s) (c j) ≤ 0 ∧ (0 < j → j < s → crsP (c 0) (c s) (c j) < 0) := by
  obtain ⟨a, b⟩ := h.chord' hj j (Nat.le_refl j)
  have : crsP (c 0) (c s) (c j) = -(((c j).1 - (c 0).1) * ((c s).2 - (c j).2) - ((c j).2 - (c 0).2) * ((c s).1 - (c j).1)) := by unfold crsP crs; grind
  rw [this]
  exact ⟨by omega, fun h0 h1 => by have := b h0 h1; omega⟩
end
/-- the points of the chain back are not to the right of the edges of the chain -/
theorem two_bows {c d : Nat → Pt} {s t : Nat} (hc : Bow c s) (hd : Bow (fun i => ngP (d i)) t) (e0 : c 0 = d t) (e1 : c s = d 0) {i j : Nat} (hi : i < s) (hj : j ≤ t) : 0 ≤ crsP (c i) (c (i + 1)) (d j) := by
  have l0 := hc.left hi (Nat.zero_le s)
  have l1 := hc.left hi (Nat.le_refl s)
  by_cases j0 : j = 0
  · rw [j0, ← e1]; exact l1
  by_cases jt : j = t
  · rw [jt, ← e0]; exact l0
  have q1 : LtP (d j) (c s) := by rw [e1]; exact lt_ng.1 (hd.lt j (by omega) hj)
  have q0 : LtP (c 0) (d j) := by rw [e0]; exact lt_ng.1 (hd.lt t (by omega) (Nat.le_refl t))
  have w0 := q0.trans q1
  have ch : crsP (ngP (d 0)) (ngP (d t)) (ngP (d j)) ≤ 0 := (hd.chord hj).1
  rw [crsP_ng, ← e0, ← e1] at ch
  have u := hc.up i hi
  generalize d j = q at *
  generalize c 0 = a at *
  generalize c s = z at *
  generalize c i = x at *
  generalize c (i + 1) = y at *
  have wp : 0 ≤ (z.1 - a.1) * (q.2 - a.2) - (z.2 - a.2) * (q.1 - a.1) := by
    have : crsP z a q = -((z.1 - a.1) * (q.2 - a.2) - (z.2 - a.2) * (q.1 - a.1)) := by unfold crsP crs; grind
    omega
  rcases Int.le_total 0 ((y.1 - x.1) * (z.2 - a.2) - (y.2 - x.2) * (z.1 - a.1)) with k | k
  · have g := half_trans u.fwd w0.fwd q0.fwd k wp
    have : crsP x y q = crsP x y a + ((y.1 - x.1) * (q.2 - a.2) - (y.2 - x.2) * (q.1 - a.1)) := by unfold crsP crs; grind
    omega
  · have g := half_trans q1.fwd w0.fwd u.fwd (by
      have : (z.1 - q.1) * (z.2 - a.2) - (z.2 - q.2) * (z.1 - a.1) = (z.1 - a.1) * (q.2 - a.2) - (z.2 - a.2) * (q.1 - a.1) := by grind
      omega) (by
      have : (z.1 - a.1) * (y.2 - x.2) - (z.2 - a.2) * (y.1 - x.1) = -((y.1 - x.1) * (z.2 - a.2) - (y.2 - x.2) * (z.1 - a.1)) := by grind
      omega)
    have : crsP x y q = crsP x y z + ((z.1 - q.1) * (y.2 - x.2) - (z.2 - q.2) * (y.1 - x.1)) := by unfold crsP crs; grind
    omega
/-- a ring of two such chains is its own hull -/
theorem bows_hull {r : List Pt} {c d : Nat → Pt} {s t : Nat} (hs : 1 ≤ s) (ht : 1 ≤ t) (h3 : 3 ≤ s + t) (hc : Bow c s) (hd : Bow (fun i => ngP (d i)) t) (e0 : c 0 = d t) (e1 : c s = d 0)
    (hr : r.length = s + t) (hrc : ∀ i, i < s → at_ r i = c i) (hrd : ∀ i, i < t → at_ r (s + i) = d i) : HullP r r := by
  have hd' : Bow (fun i => ngP (ngP (c i))) s := by
    simp only [ngP_ng]
    exact hc
  have mc : ∀ i, i < s → c i ∈ r := fun i hi => by rw [← hrc i hi]; exact vx_mem (by omega)
  have md : ∀ i, i < t → d i ∈ r := fun i hi => by rw [← hrd i hi]; exact vx_mem (by omega)
  have mcs : ∀ i, i ≤ s → c i ∈ r := fun i hi => by
    by_cases k : i < s
    · exact mc i k
    · obtain rfl : i = s := by omega
      rw [e1]; exact md 0 (by omega)
  have mdt : ∀ i, i ≤ t → d i ∈ r := fun i hi => by
    by_cases k : i < t
    · exact md i k
    · obtain rfl : i = t := by omega
      rw [← e0]; exact mc 0 (by omega)
  have cases_ : ∀ q ∈ r, (∃ i, i < s ∧ q = c i) ∨ ∃ i, i < t ∧ q = d i := fun q hq => by
    obtain ⟨k, hk, e⟩ := vx_at hq
    rcases Nat.lt_or_ge k s with g | g
    · exact .inl ⟨k, g, by rw [← e, hrc k g]⟩
    · refine .inr ⟨k - s, by omega, ?_⟩
      rw [← e, ← hrd (k - s) (by omega), show s + (k - s) = k by omega]
  have ltd : ∀ {i : Nat} (j : Nat), i < j → j ≤ t → LtP (d j) (d i) := fun {i} j hij hj => lt_ng.1 (hd.lt j hij hj)
  refine join_hull (l := r) hs ht ⟨hc.up, fun i hi q hq => ?_, hc.turn, mcs⟩ ⟨hd.up, fun i hi q hq => ?_, hd.turn, fun i hi => List.mem_map_of_mem (mdt i hi)⟩ e0 e1 (fun q hq => ?_) (fun q hq => ?_) ?_ hr hrc hrd
  · rcases cases_ q hq with ⟨j, hj, rfl⟩ | ⟨j, hj, rfl⟩
    · exact hc.left hi (Nat.le_of_lt hj)
    · exact two_bows hc hd e0 e1 hi (Nat.le_of_lt hj)
  · obtain ⟨q', hq', rfl⟩ := List.mem_map.1 hq
    rcases cases_ q' hq' with ⟨j, hj, rfl⟩ | ⟨j, hj, rfl⟩
    · exact two_bows (c := fun i => ngP (d i)) (d := fun i => ngP (c i)) hd hd' (by show ngP (d 0) = ngP (c s); rw [e1]) (by show ngP (d t) = ngP (c 0); rw [e0]) hi (Nat.le_of_lt hj)
    · exact hd.left hi (Nat.le_of_lt hj)
  · rcases cases_ q hq with ⟨j, hj, rfl⟩ | ⟨j, hj, rfl⟩
    · by_cases k : j = 0
      · subst k; exact .inl rfl
      · exact .inr (hc.lt j (by omega) (by omega))
    · exact .inr (e0 ▸ ltd t hj (Nat.le_refl t))
  · rcases cases_ q hq with ⟨j, hj, rfl⟩ | ⟨j, hj, rfl⟩
    · exact .inr (hc.lt s hj (Nat.le_refl s))
    · by_cases k : j = 0
      · subst k; exact .inl e1.symm
      · exact .inr (e1 ▸ ltd j (by omega) (by omega))
  · by_cases k : 1 < s
    · have := (hc.chord (j := 1) (by omega)).2 (by omega) k
      exact ⟨c 1, mcs 1 hs, by omega⟩
    · have := (hd.chord (j := 1) (by omega)).2 (by omega) (by omega)
      rw [crsP_ng, ← e0, ← e1] at this
      refine ⟨d 1, mdt 1 ht, ?_⟩
      have e : crsP (c 0) (c s) (d 1) = -crsP (c s) (c 0) (d 1) := by unfold crsP crs; grind
      omega
/-- a vertex less than both of its neighbours -/
def lowP (r : List Pt) (i : Nat) : Prop := LtP (at_ r i) (at_ r ((i + r.length - 1) % r.length)) ∧ LtP (at_ r i) (at_ r ((i + 1) % r.length))
theorem turn_ne {a b p : Pt} (h : 0 < crsP a b p) : a ≠ b := fun e => by
  subst e
  have : crsP a a p = 0 := by unfold crsP crs; grind
  omega
/-- one such vertex, and a left turn everywhere: convex -/
theorem one_low {r : List Pt} (h3 : 3 ≤ r.length) (ht : ∀ i, i < r.length → 0 < crsP (at_ r i) (at_ r ((i + 1) % r.length)) (at_ r ((i + 2) % r.length)))
    {m : Nat} (hm : m < r.length) (h0 : lowP r m) (h1 : ∀ j, j < r.length → lowP r j → j = m) : ConvP r := by
  obtain ⟨n, hn⟩ : ∃ n, r.length = n := ⟨_, rfl⟩
  obtain ⟨f, hf⟩ : ∃ f : Nat → Pt, f = fun i => at_ r ((m + i) % n) := ⟨_, rfl⟩
  have ef : ∀ i, f i = at_ r ((m + i) % n) := fun i => by rw [hf]
  have per : ∀ i, f (n + i) = f i := fun i => by rw [ef, ef, show m + (n + i) = m + i + n by omega, Nat.add_mod_right]
  unfold lowP at h0 h1
  rw [hn] at h3 ht hm h0 h1
  have hlt : ∀ i, (m + i) % n < n := fun i => Nat.mod_lt _ (by omega)
  have nx : ∀ i j, (((m + i) % n) + j) % n = (m + (i + j)) % n := fun i j => by rw [Nat.mod_add_mod, Nat.add_assoc]
  have tf : ∀ i, 0 < crsP (f i) (f (i + 1)) (f (i + 2)) := fun i => by
    have := ht _ (hlt i)
    rw [nx, nx] at this
    rw [ef, ef, ef]
    exact this
  have ne : ∀ i, f i ≠ f (i + 1) := fun i => turn_ne (tf i)
  have f0 : LtP (f 0) (f (n - 1)) ∧ LtP (f 0) (f 1) := by
    have e : m % n = m := Nat.mod_eq_of_lt hm
    rw [ef, ef, ef, Nat.add_zero, e, show m + (n - 1) = m + n - 1 by omega]
    exact h0
  have uq : ∀ i, 0 < i → i < n → ¬ (LtP (f i) (f (i - 1)) ∧ LtP (f i) (f (i + 1))) := fun i hi hin ⟨a, b⟩ => by
    have e := h1 ((m + i) % n) (hlt i) ⟨by
      rw [show (m + i) % n + n - 1 = (m + i) % n + (n - 1) by omega, nx, show m + (i + (n - 1)) = m + (i - 1) + n by omega, Nat.add_mod_right, ← ef, ← ef]
      exact a, by rw [nx, ← ef, ← ef]; exact b⟩
    rcases Nat.lt_or_ge (m + i) n with k | k
    · rw [Nat.mod_eq_of_lt k] at e
      omega
    · rw [Nat.mod_eq_sub_mod k, Nat.mod_eq_of_lt (by omega)] at e
      omega
  -- the first vertex behind which it goes down
  obtain ⟨k, hk, hd, hu⟩ : ∃ k, k < n ∧ ¬ LtP (f k) (f (k + 1)) ∧ ∀ i, i < k → LtP (f i) (f (i + 1)) := by
    have last : ¬ LtP (f (n - 1)) (f (n - 1 + 1)) := by
      rw [show n - 1 + 1 = n + 0 by omega, per]
      have := f0.1
      unfold LtP at *
      omega
    have : ∀ j, j ≤ n → (∃ k, k < j ∧ ¬ LtP (f k) (f (k + 1)) ∧ ∀ i, i < k → LtP (f i) (f (i + 1))) ∨ ∀ i, i < j → LtP (f i) (f (i + 1)) := by
      intro j
      induction j with
      | zero => exact fun _ => .inr fun i hi => absurd hi (Nat.not_lt_zero i)
      | succ j ih =>
        intro hj
        rcases ih (by omega) with ⟨k, hk, a, b⟩ | g
        · exact .inl ⟨k, by omega, a, b⟩
        · by_cases c : LtP (f j) (f (j + 1))
          · refine .inr fun i hi => ?_
            by_cases e : i = j
            · subst e; exact c
            · exact g i (by omega)
          · exact .inl ⟨j, by omega, c, g⟩
    rcases this n (Nat.le_refl n) with g | g
    · exact g
    · exact absurd (g (n - 1) (by omega)) last
  have k0 : 1 ≤ k := by
    rcases Nat.eq_zero_or_pos k with rfl | h
    · exact absurd f0.2 hd
    · exact h
  have down : ∀ j, k + j < n → LtP (f (k + j + 1)) (f (k + j)) := by
    intro j
    induction j with
    | zero =>
      intro _
      rcases lt_tri (f k) (f (k + 1)) with c | c | c
      · exact absurd c hd
      · exact absurd c (ne k)
      · exact c
    | succ j ih =>
      intro hj
      have g := ih (by omega)
      rcases lt_tri (f (k + (j + 1))) (f (k + (j + 1) + 1)) with c | c | c
      · exact absurd ⟨by rw [show k + (j + 1) - 1 = k + j by omega]; exact g, c⟩ (uq (k + (j + 1)) (by omega) hj)
      · exact absurd c (ne _)
      · exact c
  have H : HullP (rotC m r) (rotC m r) := by
    refine bows_hull (c := f) (d := fun i => f (k + i)) (s := k) (t := n - k) k0 (by omega) (by omega) ⟨hu, fun i _ => tf i⟩ ⟨fun i hi => lt_ng.2 ?_, fun i _ => ?_⟩ ?_ rfl ?_ (fun i hi => ?_) (fun i hi => ?_)
    · exact down i (by omega)
    · rw [crsP_ng]; exact tf (k + i)
    · show f 0 = f (k + (n - k))
      rw [show k + (n - k) = n + 0 by omega, per]
    · rw [rotC_len (by omega), hn]; omega
    · rw [rotC_at (by omega) (by omega), hn, ← ef]
    · rw [rotC_at (by omega) (by omega), hn, ← ef]
  exact (conv_rot_iff (by omega)).1 H.conv
/-- a convex ring has one such vertex -/
theorem conv_low {r : List Pt} (h : ConvP r) : (∀ i, i < r.length → 0 < crsP (at_ r i) (at_ r ((i + 1) % r.length)) (at_ r ((i + 2) % r.length))) ∧ ∃ m, m < r.length ∧ lowP r m ∧ ∀ j, j < r.length → lowP r j → j = m := by
  obtain ⟨h3, hc⟩ := h
  obtain ⟨n, hn⟩ : ∃ n, r.length = n := ⟨_, rfl⟩
  rw [hn] at h3 hc
  have md : ∀ i, i < n → ∀ j, j < n → (i + j) % n = if i + j < n then i + j else i + j - n := fun i hi j hj => by
    split
    · rename_i g; exact Nat.mod_eq_of_lt g
    · rw [Nat.mod_eq_sub_mod (by omega), Nat.mod_eq_of_lt (by omega)]
  have pos : ∀ i k, i < n → k < n → 0 ≤ crsP (at_ r i) (at_ r ((i + 1) % n)) (at_ r k) := fun i k hi hk => by
    by_cases e : k = i
    · subst e; unfold crsP crs; grind
    by_cases e' : k = (i + 1) % n
    · subst e'; unfold crsP crs; grind
    exact Int.le_of_lt (hc i k hi hk e e')
  have inn : ∀ k, k < n → InP r (at_ r k) := fun k hk i hi => by rw [hn] at hi ⊢; exact pos i k hi hk
  have dst : ∀ i j, i < n → j < n → at_ r i = at_ r j → i = j := fun i j hi hj => conv_distinct ⟨by omega, by rw [hn]; exact hc⟩ (by omega) (by omega)
  rw [hn]
  refine ⟨fun i hi => hc i _ hi (Nat.mod_lt _ (by omega)) ?_ ?_, ?_⟩
  · rw [md i hi 2 (by omega)]; split <;> omega
  · rw [md i hi 2 (by omega), md i hi 1 (by omega)]; split <;> split <;> omega
  · obtain ⟨m, hm, hl⟩ : ∃ m, m < n ∧ ∀ k, k < n → LeP (at_ r m) (at_ r k) := by
      have : ∀ j, 1 ≤ j → j ≤ n → ∃ m, m < j ∧ ∀ k, k < j → LeP (at_ r m) (at_ r k) := by
        intro j
        induction j with
        | zero => intro h; omega
        | succ j ih =>
          intro _ hj
          rcases Nat.eq_zero_or_pos j with rfl | h0
          · refine ⟨0, by omega, fun k hk => ?_⟩
            obtain rfl : k = 0 := by omega
            exact le_refl' _
          · obtain ⟨m, hm, hl⟩ := ih h0 (by omega)
            by_cases c : LeP (at_ r m) (at_ r j)
            · exact ⟨m, by omega, fun k hk => by
                by_cases e : k = j
                · subst e; exact c
                · exact hl k (by omega)⟩
            · refine ⟨j, by omega, fun k hk => ?_⟩
              by_cases e : k = j
              · subst e; exact le_refl' _
              · have g := hl k (by omega)
                unfold LeP at c g ⊢
                omega
      exact this n (by omega) (Nat.le_refl n)
    have lt_of : ∀ i k, i < n → k < n → i ≠ k → LeP (at_ r i) (at_ r k) → LtP (at_ r i) (at_ r k) := fun i k hi hk hne g => by
      rcases lt_tri (at_ r i) (at_ r k) with c | c | c
      · exact c
      · exact absurd (dst i k hi hk c) hne
      · unfold LeP at g; unfold LtP at c ⊢; omega
    have ml : ∀ x, (x % n) < n := fun x => Nat.mod_lt _ (by omega)
    refine ⟨m, hm, ?_, fun j hj hlow => ?_⟩
    · unfold lowP
      rw [hn, show m + n - 1 = m + (n - 1) by omega]
      exact ⟨lt_of m _ hm (ml _) (by rw [md m hm (n - 1) (by omega)]; split <;> omega) (hl _ (ml _)), lt_of m _ hm (ml _) (by rw [md m hm 1 (by omega)]; split <;> omega) (hl _ (ml _))⟩
    · unfold lowP at hlow
      rw [hn] at hlow
      obtain ⟨i, hi, hij⟩ : ∃ i, i < n ∧ (i + 1) % n = j ∧ (j + n - 1) % n = i := by
        rcases Nat.eq_zero_or_pos j with rfl | h0
        · exact ⟨n - 1, by omega, by rw [show n - 1 + 1 = n by omega, Nat.mod_self], by rw [Nat.zero_add]; exact Nat.mod_eq_of_lt (by omega)⟩
        · exact ⟨j - 1, by omega, by rw [show j - 1 + 1 = j by omega]; exact Nat.mod_eq_of_lt hj, by rw [show j + n - 1 = j - 1 + n by omega, Nat.add_mod_right]; exact Nat.mod_eq_of_lt (by omega)⟩
      rw [hij.2] at hlow
      have a1 := hc j i hj hi (by have := hij.1; rw [md i hi 1 (by omega)] at this; split at this <;> omega) (by
        have := hij.1
        rw [md i hi 1 (by omega)] at this
        rw [md j hj 1 (by omega)]
        split at this <;> split <;> omega)
      have le : ∀ {a b : Pt}, LtP a b → LeP a b := fun {a b} g => by unfold LtP at g; unfold LeP; omega
      have a3 := pos i m hi hm
      rw [hij.1] at a3
      have g := cone_le a1 (le hlow.1) (le hlow.2) (pos j m hj hm) a3
      exact dst j m hj hm (le_antisymm' g (hl j hj))
end Go.Proofs.Ythifljljaejfmaa.G
