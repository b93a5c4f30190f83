/-
  hull, plain: a ring that turns left everywhere is convex exactly if one vertex alone is less than both of its neighbours. No condition but those that stand.
  hull, plain: what the functions of hull return, as words on lists. No condition but those that stand.
  hull: whether all points of a list are within the limits, of both sides and of the statements. No condition.
  What == says of two vectors, boxes, segments and points. No condition.
-/
import Derived.Test.YthbgapcplgigoaaK04
import Derived.Test.YthbgapcplgigoaaK02
import Derived.Laws.StructEq
namespace Go.Proofs.Ythbgapcplgigoaa.G
open Go.RowKit Go.Proofs.Ythbgapcplgigoaa.V Go.Proofs.Ythbgapcplgigoaa.W

/-- the cross product of two edges of a chain -/
def edE (c : Nat → Pt) (i j : Nat) : Int := ((c (i + 1)).1 - (c i).1) * ((c (j + 1)).2 - (c j).2) - ((c (i + 1)).2 - (c i).2) * ((c (j + 1)).1 - (c j).1)
/-- an ascending chain that turns left -/
structure Bow (c : Nat → Pt) (s : Nat) : Prop where
  up : ∀ i, i < s → LtP (c i) (c (i + 1))
  turn : ∀ i, i + 1 < s → 0 < crsP (c i) (c (i + 1)) (c (i + 2))
section
variable {c : Nat → Pt} {s : Nat} (h : Bow c s)
include h
theorem Bow.lt {i : Nat} : ∀ j, i < j → j ≤ s → LtP (c i) (c j)
  | 0, hij, _ => absurd hij (Nat.not_lt_zero i)
  | j + 1, hij, hj => by
    by_cases e : i = j
    · subst e
      exact h.up i (by omega)
    · exact (Bow.lt j (by omega) (by omega)).trans (h.up j (by omega))
theorem Bow.edges {i : Nat} : ∀ j, i < j → j < s → 0 < edE c i j
  | 0, hij, _ => absurd hij (Nat.not_lt_zero i)
  | j + 1, hij, hj => by
    have t := h.turn j hj
    rw [crsP_at] at t
    by_cases e : i = j
    · subst e
      exact t
    · exact half_strict (h.up i (by omega)).fwd (h.up j (by omega)).fwd (h.up (j + 1) hj).fwd (Bow.edges j (by omega) (by omega)) (Int.le_of_lt t)
theorem Bow.right {i k : Nat} (hik : i < k) : ∀ j, k ≤ j → j ≤ s → 0 ≤ ((c (i + 1)).1 - (c i).1) * ((c j).2 - (c k).2) - ((c (i + 1)).2 - (c i).2) * ((c j).1 - (c k).1) ∧ (k < j → 0 < ((c (i + 1)).1 - (c i).1) * ((c j).2 - (c k).2) - ((c (i + 1)).2 - (c i).2) * ((c j).1 - (c k).1))
  | 0, hj, _ => absurd hj (by omega)
  | j + 1, hj, hs => by
    by_cases e : k = j + 1
    · subst e
      rw [Int.sub_self, Int.sub_self, Int.mul_zero, Int.mul_zero]
      exact ⟨by omega, fun h => absurd h (Nat.lt_irrefl _)⟩
    · have ih := (Bow.right hik j (by omega) (by omega)).1
      have t := h.edges (i := i) j (by omega) (by omega)
      have : ((c (i + 1)).1 - (c i).1) * ((c (j + 1)).2 - (c k).2) - ((c (i + 1)).2 - (c i).2) * ((c (j + 1)).1 - (c k).1) = (((c (i + 1)).1 - (c i).1) * ((c j).2 - (c k).2) - ((c (i + 1)).2 - (c i).2) * ((c j).1 - (c k).1)) + edE c i j := by unfold edE; grind
      rw [this]
      exact ⟨by omega, fun _ => by omega⟩
theorem Bow.back {i k : Nat} (his : i < s) : ∀ j, k ≤ j → j ≤ i → 0 ≤ ((c j).1 - (c k).1) * ((c (i + 1)).2 - (c i).2) - ((c j).2 - (c k).2) * ((c (i + 1)).1 - (c i).1)
  | 0, hj, _ => by
    obtain rfl : k = 0 := by omega
    rw [Int.sub_self, Int.sub_self, Int.zero_mul, Int.zero_mul]
    omega
  | j + 1, hj, hs => by
    by_cases e : k = j + 1
    · subst e
      rw [Int.sub_self, Int.sub_self, Int.zero_mul, Int.zero_mul]
      omega
    · have ih := Bow.back (k := k) his j (by omega) (by omega)
      have t := h.edges (i := j) i (by omega) his
      have : ((c (j + 1)).1 - (c k).1) * ((c (i + 1)).2 - (c i).2) - ((c (j + 1)).2 - (c k).2) * ((c (i + 1)).1 - (c i).1) = (((c j).1 - (c k).1) * ((c (i + 1)).2 - (c i).2) - ((c j).2 - (c k).2) * ((c (i + 1)).1 - (c i).1)) + edE c j i := by unfold edE; grind
      rw [this]
      omega
/-- the chain's points are not to the right of its edges -/
theorem Bow.left {i j : Nat} (hi : i < s) (hj : j ≤ s) : 0 ≤ crsP (c i) (c (i + 1)) (c j) := by
  rcases Nat.lt_or_ge i j with k | k
  · rw [crsP_at]
    exact (h.right (Nat.lt_succ_self i) j k hj).1
  · have t := h.back hi i k (Nat.le_refl i)
    have : crsP (c i) (c (i + 1)) (c j) = ((c i).1 - (c j).1) * ((c (i + 1)).2 - (c i).2) - ((c i).2 - (c j).2) * ((c (i + 1)).1 - (c i).1) := by unfold crsP crs; grind
    omega
theorem Bow.chord' {j : Nat} (hj : j ≤ s) : ∀ i, i ≤ j → 0 ≤ ((c i).1 - (c 0).1) * ((c s).2 - (c j).2) - ((c i).2 - (c 0).2) * ((c s).1 - (c j).1) ∧ (0 < i → j < s → 0 < ((c i).1 - (c 0).1) * ((c s).2 - (c j).2) - ((c i).2 - (c 0).2) * ((c s).1 - (c j).1))
  | 0, _ => by
    rw [Int.sub_self, Int.sub_self, Int.zero_mul, Int.zero_mul]
    exact ⟨by omega, fun h => absurd h (Nat.lt_irrefl _)⟩
  | i + 1, hi => by
    have ih := (Bow.chord' hj i (by omega)).1
    have t := h.right (i := i) (k := j) (by omega) s hj (Nat.le_refl s)
    have : ((c (i + 1)).1 - (c 0).1) * ((c s).2 - (c j).2) - ((c (i + 1)).2 - (c 0).2) * ((c s).1 - (c j).1) = (((c i).1 - (c 0).1) * ((c s).2 - (c j).2) - ((c i).2 - (c 0).2) * ((c s).1 - (c j).1)) + (((c (i + 1)).1 - (c i).1) * ((c s).2 - (c j).2) - ((c (i + 1)).2 - (c i).2) * ((c s).1 - (c j).1)) := by grind
    rw [this]
    exact ⟨by omega, fun _ hjs => by have := t.2 hjs; omega⟩
/-- and not to the left of the chord -/
theorem Bow.chord {j : Nat} (hj : j ≤ s) : crsP (c 0) (c s) (c j) ≤ 0 ∧ (0 < j → j < s → crsP (c 0) (c s) (c j) < 0) := by
  obtain ⟨a, b⟩ := h.chord' hj j (Nat.le_refl j)
  have : crsP (c 0) (c s) (c j) = -(((c j).1 - (c 0).1) * ((c s).2 - (c j).2) - ((c j).2 - (c 0).2) * ((c s).1 - (c j).1)) := by unfold crsP crs; grind
  rw [this]
  exact ⟨by omega, fun h0 h1 => by have := b h0 h1; omega⟩
end
/-- the points of the chain back are not to the right of the edges of the chain -/
theorem two_bows {c d : Nat → Pt} {s t : Nat} (hc : Bow c s) (hd : Bow (fun i => ngP (d i)) t) (e0 : c 0 = d t) (e1 : c s = d 0) {i j : Nat} (hi : i < s) (hj : j ≤ t) : 0 ≤ crsP (c i) (c (i + 1)) (d j) := by
  have l0 := hc.left hi (Nat.zero_le s)
  have l1 := hc.left hi (Nat.le_refl s)
  by_cases j0 : j = 0
  · rw [j0, ← e1]; exact l1
  by_cases jt : j = t
  · rw [jt, ← e0]; exact l0
  have q1 : LtP (d j) (c s) := by rw [e1]; exact lt_ng.1 (hd.lt j (by omega) hj)
  have q0 : LtP (c 0) (d j) := by rw [e0]; exact lt_ng.1 (hd.lt t (by omega) (Nat.le_refl t))
  have w0 := q0.trans q1
  have ch : crsP (ngP (d 0)) (ngP (d t)) (ngP (d j)) ≤ 0 := (hd.chord hj).1
  rw [crsP_ng, ← e0, ← e1] at ch
  have u := hc.up i hi
  generalize d j = q at *
  generalize c 0 = a at *
  generalize c s = z at *
  generalize c i = x at *
  generalize c (i + 1) = y at *
  have wp : 0 ≤ (z.1 - a.1) * (q.2 - a.2) - (z.2 - a.2) * (q.1 - a.1) := by
    have : crsP z a q = -((z.1 - a.1) * (q.2 - a.2) - (z.2 - a.2) * (q.1 - a.1)) := by unfold crsP crs; grind
    omega
  rcases Int.le_total 0 ((y.1 - x.1) * (z.2 - a.2) - (y.2 - x.2) * (z.1 - a.1)) with k | k
  · have g := half_trans u.fwd w0.fwd q0.fwd k wp
    have : crsP x y q = crsP x y a + ((y.1 - x.1) * (q.2 - a.2) - (y.2 - x.2) * (q.1 - a.1)) := by unfold crsP crs; grind
    omega
  · have g := half_trans q1.fwd w0.fwd u.fwd (by
      have : (z.1 - q.1) * (z.2 - a.2) - (z.2 - q.2) * (z.1 - a.1) = (z.1 - a.1) * (q.2 - a.2) - (z.2 - a.2) * (q.1 - a.1) := by grind
      omega) (by
      have : (z.1 - a.1) * (y.2 - x.2) - (z.2 - a.2) * (y.1 - x.1) = -((y.1 - x.1) * (z.2 - a.2) - (y.2 - x.2) * (z.1 - a.1)) := by grind
      omega)
    have : crsP x y q = crsP x y z + ((z.1 - q.1) * (y.2 - x.2) - (z.2 - q.2) * (y.1 - x.1)) := by unfold crsP crs; grind
    omega
/-- a ring of two such chains is its own hull -/
theorem bows_hull {r : List Pt} {c d : Nat → Pt} {s t : Nat} (hs : 1 ≤ s) (ht : 1 ≤ t) (h3 : 3 ≤ s + t) (hc : Bow c s) (hd : Bow (fun i => ngP (d i)) t) (e0 : c 0 = d t) (e1 : c s = d 0)
    (hr : r.length = s + t) (hrc : ∀ i, i < s → at_ r i = c i) (hrd : ∀ i, i < t → at_ r (s + i) = d i) : HullP r r := by
  have hd' : Bow (fun i => ngP (ngP (c i))) s := by
    simp only [ngP_ng]
    exact hc
  have mc : ∀ i, i < s → c i ∈ r := fun i hi => by rw [← hrc i hi]; exact vx_mem (by omega)
  have md : ∀ i, i < t → d i ∈ r := fun i hi => by rw [← hrd i hi]; exact vx_mem (by omega)
  have mcs : ∀ i, i ≤ s → c i ∈ r := fun i hi => by
    by_cases k : i < s
    · exact mc i k
    · obtain rfl : i = s := by omega
      rw [e1]; exact md 0 (by omega)
  have mdt : ∀ i, i ≤ t → d i ∈ r := fun i hi => by
    by_cases k : i < t
    · exact md i k
    · obtain rfl : i = t := by omega
      rw [← e0]; exact mc 0 (by omega)
  have cases_ : ∀ q ∈ r, (∃ i, i < s ∧ q = c i) ∨ ∃ i, i < t ∧ q = d i := fun q hq => by
    obtain ⟨k, hk, e⟩ := vx_at hq
    rcases Nat.lt_or_ge k s with g | g
    · exact .inl ⟨k, g, by rw [← e, hrc k g]⟩
    · refine .inr ⟨k - s, by omega, ?_⟩
      rw [← e, ← hrd (k - s) (by omega), show s + (k - s) = k by omega]
  have ltd : ∀ {i : Nat} (j : Nat), i < j → j ≤ t → LtP (d j) (d i) := fun {i} j hij hj => lt_ng.1 (hd.lt j hij hj)
  refine join_hull (l := r) hs ht ⟨hc.up, fun i hi q hq => ?_, hc.turn, mcs⟩ ⟨hd.up, fun i hi q hq => ?_, hd.turn, fun i hi => List.mem_map_of_mem (mdt i hi)⟩ e0 e1 (fun q hq => ?_) (fun q hq => ?_) ?_ hr hrc hrd
  · rcases cases_ q hq with ⟨j, hj, rfl⟩ | ⟨j, hj, rfl⟩
    · exact hc.left hi (Nat.le_of_lt hj)
    · exact two_bows hc hd e0 e1 hi (Nat.le_of_lt hj)
  · obtain ⟨q', hq', rfl⟩ := List.mem_map.1 hq
    rcases cases_ q' hq' with ⟨j, hj, rfl⟩ | ⟨j, hj, rfl⟩
    · exact two_bows (c := fun i => ngP (d i)) (d := fun i => ngP (c i)) hd hd' (by show ngP (d 0) = ngP (c s); rw [e1]) (by show ngP (d t) = ngP (c 0); rw [e0]) hi (Nat.le_of_lt hj)
    · exact hd.left hi (Nat.le_of_lt hj)
  · rcases cases_ q hq with ⟨j, hj, rfl⟩ | ⟨j, hj, rfl⟩
    · by_cases k : j = 0
      · subst k; exact .inl rfl
      · exact .inr (hc.lt j (by omega) (by omega))
    · exact .inr (e0 ▸ ltd t hj (Nat.le_refl t))
  · rcases cases_ q hq with ⟨j, hj, rfl⟩ | ⟨j, hj, rfl⟩
    · exact .inr (hc.lt s hj (Nat.le_refl s))
    · by_cases k : j = 0
      · subst k; exact .inl e1.symm
      · exact .inr (e1 ▸ ltd j (by omega) (by omega))
  · by_cases k : 1 < s
    · have := (hc.chord (j := 1) (by omega)).2 (by omega) k
      exact ⟨c 1, mcs 1 hs, by omega⟩
    · have := (hd.chord (j := 1) (by omega)).2 (by omega) (by omega)
      rw [crsP_ng, ← e0, ← e1] at this
      refine ⟨d 1, mdt 1 ht, ?_⟩
      have e : crsP (c 0) (c s) (d 1) = -crsP (c s) (c 0) (d 1) := by unfold crsP crs; grind
      omega
/-- a vertex less than both of its neighbours -/
def lowP (r : List Pt) (i : Nat) : Prop := LtP (at_ r i) (at_ r ((i + r.length - 1) % r.length)) ∧ LtP (at_ r i) (at_ r ((i + 1) % r.length))
theorem turn_ne {a b p : Pt} (h : 0 < crsP a b p) : a ≠ b := fun e => by
  subst e
  have : crsP a a p = 0 := by unfold crsP crs; grind
  omega
/-- one such vertex, and a left turn everywhere: convex -/
theorem one_low {r : List Pt} (h3 : 3 ≤ r.length) (ht : ∀ i, i < r.length → 0 < crsP (at_ r i) (at_ r ((i + 1) % r.length)) (at_ r ((i + 2) % r.length)))
    {m : Nat} (hm : m < r.length) (h0 : lowP r m) (h1 : ∀ j, j < r.length → lowP r j → j = m) : ConvP r := by
  obtain ⟨n, hn⟩ : ∃ n, r.length = n := ⟨_, rfl⟩
  obtain ⟨f, hf⟩ : ∃ f : Nat → Pt, f = fun i => at_ r ((m + i) % n) := ⟨_, rfl⟩
  have ef : ∀ i, f i = at_ r ((m + i) % n) := fun i => by rw [hf]
  have per : ∀ i, f (n + i) = f i := fun i => by rw [ef, ef, show m + (n + i) = m + i + n by omega, Nat.add_mod_right]
  unfold lowP at h0 h1
  rw [hn] at h3 ht hm h0 h1
  have hlt : ∀ i, (m + i) % n < n := fun i => Nat.mod_lt _ (by omega)
  have nx : ∀ i j, (((m + i) % n) + j) % n = (m + (i + j)) % n := fun i j => by rw [Nat.mod_add_mod, Nat.add_assoc]
  have tf : ∀ i, 0 < crsP (f i) (f (i + 1)) (f (i + 2)) := fun i => by
    have := ht _ (hlt i)
    rw [nx, nx] at this
    rw [ef, ef, ef]
    exact this
  have ne : ∀ i, f i ≠ f (i + 1) := fun i => turn_ne (tf i)
  have f0 : LtP (f 0) (f (n - 1)) ∧ LtP (f 0) (f 1) := by
    have e : m % n = m := Nat.mod_eq_of_lt hm
    rw [ef, ef, ef, Nat.add_zero, e, show m + (n - 1) = m + n - 1 by omega]
    exact h0
  have uq : ∀ i, 0 < i → i < n → ¬ (LtP (f i) (f (i - 1)) ∧ LtP (f i) (f (i + 1))) := fun i hi hin ⟨a, b⟩ => by
    have e := h1 ((m + i) % n) (hlt i) ⟨by
      rw [show (m + i) % n + n - 1 = (m + i) % n + (n - 1) by omega, nx, show m + (i + (n - 1)) = m + (i - 1) + n by omega, Nat.add_mod_right, ← ef, ← ef]
      exact a, by rw [nx, ← ef, ← ef]; exact b⟩
    rcases Nat.lt_or_ge (m + i) n with k | k
    · rw [Nat.mod_eq_of_lt k] at e
      omega
    · rw [Nat.mod_eq_sub_mod k, Nat.mod_eq_of_lt (by omega)] at e
      omega
  -- the first vertex behind which it goes down
  obtain ⟨k, hk, hd, hu⟩ : ∃ k, k < n ∧ ¬ LtP (f k) (f (k + 1)) ∧ ∀ i, i < k → LtP (f i) (f (i + 1)) := by
    have last : ¬ LtP (f (n - 1)) (f (n - 1 + 1)) := by
      rw [show n - 1 + 1 = n + 0 by omega, per]
      have := f0.1
      unfold LtP at *
      omega
    have : ∀ j, j ≤ n → (∃ k, k < j ∧ ¬ LtP (f k) (f (k + 1)) ∧ ∀ i, i < k → LtP (f i) (f (i + 1))) ∨ ∀ i, i < j → LtP (f i) (f (i + 1)) := by
      intro j
      induction j with
      | zero => exact fun _ => .inr fun i hi => absurd hi (Nat.not_lt_zero i)
      | succ j ih =>
        intro hj
        rcases ih (by omega) with ⟨k, hk, a, b⟩ | g
        · exact .inl ⟨k, by omega, a, b⟩
        · by_cases c : LtP (f j) (f (j + 1))
          · refine .inr fun i hi => ?_
            by_cases e : i = j
            · subst e; exact c
            · exact g i (by omega)
          · exact .inl ⟨j, by omega, c, g⟩
    rcases this n (Nat.le_refl n) with g | g
    · exact g
    · exact absurd (g (n - 1) (by omega)) last
  have k0 : 1 ≤ k := by
    rcases Nat.eq_zero_or_pos k with rfl | h
    · exact absurd f0.2 hd
    · exact h
  have down : ∀ j, k + j < n → LtP (f (k + j + 1)) (f (k + j)) := by
    intro j
    induction j with
    | zero =>
      intro _
      rcases lt_tri (f k) (f (k + 1)) with c | c | c
      · exact absurd c hd
      · exact absurd c (ne k)
      · exact c
    | succ j ih =>
      intro hj
      have g := ih (by omega)
      rcases lt_tri (f (k + (j + 1))) (f (k + (j + 1) + 1)) with c | c | c
      · exact absurd ⟨by rw [show k + (j + 1) - 1 = k + j by omega]; exact g, c⟩ (uq (k + (j + 1)) (by omega) hj)
      · exact absurd c (ne _)
      · exact c
  have H : HullP (rotC m r) (rotC m r) := by
    refine bows_hull (c := f) (d := fun i => f (k + i)) (s := k) (t := n - k) k0 (by omega) (by omega) ⟨hu, fun i _ => tf i⟩ ⟨fun i hi => lt_ng.2 ?_, fun i _ => ?_⟩ ?_ rfl ?_ (fun i hi => ?_) (fun i hi => ?_)
    · exact down i (by omega)
    · rw [crsP_ng]; exact tf (k + i)
    · show f 0 = f (k + (n - k))
      rw [show k + (n - k) = n + 0 by omega, per]
    · rw [rotC_len (by omega), hn]; omega
    · rw [rotC_at (by omega) (by omega), hn, ← ef]
    · rw [rotC_at (by omega) (by omega), hn, ← ef]
  exact (conv_rot_iff (by omega)).1 H.conv
/-- a convex ring has one such vertex -/
theorem conv_low {r : List Pt} (h : ConvP r) : (∀ i, i < r.length → 0 < crsP (at_ r i) (at_ r ((i + 1) % r.length)) (at_ r ((i + 2) % r.length))) ∧ ∃ m, m < r.length ∧ lowP r m ∧ ∀ j, j < r.length → lowP r j → j = m := by
  obtain ⟨h3, hc⟩ := h
  obtain ⟨n, hn⟩ : ∃ n, r.length = n := ⟨_, rfl⟩
  rw [hn] at h3 hc
  have md : ∀ i, i < n → ∀ j, j < n → (i + j) % n = if i + j < n then i + j else i + j - n := fun i hi j hj => by
    split
    · rename_i g; exact Nat.mod_eq_of_lt g
    · rw [Nat.mod_eq_sub_mod (by omega), Nat.mod_eq_of_lt (by omega)]
  have pos : ∀ i k, i < n → k < n → 0 ≤ crsP (at_ r i) (at_ r ((i + 1) % n)) (at_ r k) := fun i k hi hk => by
    by_cases e : k = i
    · subst e; unfold crsP crs; grind
    by_cases e' : k = (i + 1) % n
    · subst e'; unfold crsP crs; grind
    exact Int.le_of_lt (hc i k hi hk e e')
  have inn : ∀ k, k < n → InP r (at_ r k) := fun k hk i hi => by rw [hn] at hi ⊢; exact pos i k hi hk
  have dst : ∀ i j, i < n → j < n → at_ r i = at_ r j → i = j := fun i j hi hj => conv_distinct ⟨by omega, by rw [hn]; exact hc⟩ (by omega) (by omega)
  rw [hn]
  refine ⟨fun i hi => hc i _ hi (Nat.mod_lt _ (by omega)) ?_ ?_, ?_⟩
  · rw [md i hi 2 (by omega)]; split <;> omega
  · rw [md i hi 2 (by omega), md i hi 1 (by omega)]; split <;> split <;> omega
  · obtain ⟨m, hm, hl⟩ : ∃ m, m < n ∧ ∀ k, k < n → LeP (at_ r m) (at_ r k) := by
      have : ∀ j, 1 ≤ j → j ≤ n → ∃ m, m < j ∧ ∀ k, k < j → LeP (at_ r m) (at_ r k) := by
        intro j
        induction j with
        | zero => intro h; omega
        | succ j ih =>
          intro _ hj
          rcases Nat.eq_zero_or_pos j with rfl | h0
          · refine ⟨0, by omega, fun k hk => ?_⟩
            obtain rfl : k = 0 := by omega
            exact le_refl' _
          · obtain ⟨m, hm, hl⟩ := ih h0 (by omega)
            by_cases c : LeP (at_ r m) (at_ r j)
            · exact ⟨m, by omega, fun k hk => by
                by_cases e : k = j
                · subst e; exact c
                · exact hl k (by omega)⟩
            · refine ⟨j, by omega, fun k hk => ?_⟩
              by_cases e : k = j
              · subst e; exact le_refl' _
              · have g := hl k (by omega)
                unfold LeP at c g ⊢
                omega
      exact this n (by omega) (Nat.le_refl n)
    have lt_of : ∀ i k, i < n → k < n → i ≠ k → LeP (at_ r i) (at_ r k) → LtP (at_ r i) (at_ r k) := fun i k hi hk hne g => by
      rcases lt_tri (at_ r i) (at_ r k) with c | c | c
      · exact c
      · exact absurd (dst i k hi hk c) hne
      · unfold LeP at g; unfold LtP at c ⊢; omega
    have ml : ∀ x, (x % n) < n := fun x => Nat.mod_lt _ (by omega)
    refine ⟨m, hm, ?_, fun j hj hlow => ?_⟩
    · unfold lowP
      rw [hn, show m + n - 1 = m + (n - 1) by omega]
      exact ⟨lt_of m _ hm (ml _) (by rw [md m hm (n - 1) (by omega)]; split <;> omega) (hl _ (ml _)), lt_of m _ hm (ml _) (by rw [md m hm 1 (by omega)]; split <;> omega) (hl _ (ml _))⟩
    · unfold lowP at hlow
      rw [hn] at hlow
      obtain ⟨i, hi, hij⟩ : ∃ i, i < n ∧ (i + 1) % n = j ∧ (j + n - 1) % n = i := by
        rcases Nat.eq_zero_or_pos j with rfl | h0
        · exact ⟨n - 1, by omega, by rw [show n - 1 + 1 = n by omega, Nat.mod_self], by rw [Nat.zero_add]; exact Nat.mod_eq_of_lt (by omega)⟩
        · exact ⟨j - 1, by omega, by rw [show j - 1 + 1 = j by omega]; exact Nat.mod_eq_of_lt hj, by rw [show j + n - 1 = j - 1 + n by omega, Nat.add_mod_right]; exact Nat.mod_eq_of_lt (by omega)⟩
      rw [hij.2] at hlow
      have a1 := hc j i hj hi (by have := hij.1; rw [md i hi 1 (by omega)] at this; split at this <;> omega) (by
        have := hij.1
        rw [md i hi 1 (by omega)] at this
        rw [md j hj 1 (by omega)]
        split at this <;> split <;> omega)
      have le : ∀ {a b : Pt}, LtP a b → LeP a b := fun {a b} g => by unfold LtP at g; unfold LeP; omega
      have a3 := pos i m hi hm
      rw [hij.1] at a3
      have g := cone_le a1 (le hlow.1) (le hlow.2) (pos j m hj hm) a3
      exact dst j m hj hm (le_antisymm' g (hl j hj))
end Go.Proofs.Ythbgapcplgigoaa.G

namespace Go.Proofs.Ythbgapcplgigoaa.G
open Go.RowKit Go.Proofs.Ythbgapcplgigoaa.V Go.Proofs.Ythbgapcplgigoaa.W

def sOk (p : Pt) : Bool := withinV p.1 p.2 8000
def allS (l : List Pt) : Bool := allTo l.length fun i => sOk (at_ l i)
theorem sOk_iff {p : Pt} : sOk p = true ↔ -8000 ≤ p.1 ∧ p.1 ≤ 8000 ∧ -8000 ≤ p.2 ∧ p.2 ≤ 8000 := by
  unfold sOk withinV
  rw [show w64 (-8000) = -8000 by rw [w64_eq]; omega]
  simp
  omega
theorem allS_iff {l : List Pt} : allS l = true ↔ ∀ p ∈ l, sOk p = true := by
  unfold allS
  rw [allTo_iff]
  constructor
  · intro h p hp
    obtain ⟨k, hk, e⟩ := vx_at hp
    rw [← e]
    exact h k hk
  · exact fun h i hi => h _ (at_mem hi)
theorem allS_at {l : List Pt} (h : allS l = true) {i : Nat} (hi : i < l.length) : sOk (at_ l i) = true := allTo_iff.1 h i hi
theorem sgn_lt (n : Int) : sgn n < 0 ↔ n < 0 := by rcases sgn_cases n with ⟨a, e⟩ | ⟨a, e⟩ | ⟨a, e⟩ <;> omega
theorem sgn_zero (n : Int) : sgn n = 0 ↔ n = 0 := by rcases sgn_cases n with ⟨a, e⟩ | ⟨a, e⟩ | ⟨a, e⟩ <;> omega
theorem sgn_pos (n : Int) : 0 < sgn n ↔ 0 < n := by rcases sgn_cases n with ⟨a, e⟩ | ⟨a, e⟩ | ⟨a, e⟩ <;> omega
theorem turn_small {a b c : Pt} (ha : sOk a = true) (hb : sOk b = true) (hc : sOk c = true) : turnP a b c = sgn (crsP a b c) := by
  rw [sOk_iff] at ha hb hc
  unfold turnP turnV crsP crs
  have h1 := abs_mul (x := b.1 - a.1) (y := c.2 - a.2) (by omega) (by omega)
  have h2 := abs_mul (x := b.2 - a.2) (y := c.1 - a.1) (by omega) (by omega)
  generalize (b.1 - a.1) * (c.2 - a.2) = X at *
  generalize (b.2 - a.2) * (c.1 - a.1) = Y at *
  rw [w64_id ⟨by omega, by omega⟩]
def Mid (p : Pt) : Prop := p.1.natAbs ≤ 536870912 ∧ p.2.natAbs ≤ 536870912
theorem sOk_mid {p : Pt} (h : sOk p = true) : Mid p := by
  rw [sOk_iff] at h
  unfold Mid
  omega
theorem dot_mid {a d : Pt} (ha : Mid a) (hd : Mid d) : dotV a.1 a.2 d.1 d.2 = dtP a d := by
  unfold Mid at ha hd
  unfold dotV dtP
  have h1 := abs_mul (x := a.1) (y := d.1) (by omega) (by omega)
  have h2 := abs_mul (x := a.2) (y := d.2) (by omega) (by omega)
  rw [w64_id ⟨by omega, by omega⟩]
theorem less_lt {a b : Pt} : lessV a.1 a.2 b.1 b.2 = true ↔ LtP a b := by
  unfold lessV LtP
  simp
theorem sub_small {a b : Pt} (ha : sOk a = true) (hb : sOk b = true) : w64 (a.1 - b.1) = a.1 - b.1 ∧ w64 (a.2 - b.2) = a.2 - b.2 := by
  rw [sOk_iff] at ha hb
  exact ⟨w64_id ⟨by omega, by omega⟩, w64_id ⟨by omega, by omega⟩⟩

/-- the reference's test of a pair, its convexity -/
def pairB (l : List Pt) (i k : Nat) : Bool := (k == i) || (k == (i + 1) % l.length) || decide (0 < turnP (at_ l i) (at_ l ((i + 1) % l.length)) (at_ l k))
def rowB (l : List Pt) (i : Nat) : Bool := allTo l.length fun k => pairB l i k
def convB (l : List Pt) : Bool := (decide (3 ≤ l.length) && decide (l.length ≤ 160) && allS l) && allTo l.length fun i => rowB l i
theorem convB_iff {l : List Pt} : convB l = true ↔ (l.length ≤ 160 ∧ allS l = true) ∧ ConvP l := by
  unfold convB rowB ConvP
  simp only [Bool.and_eq_true, decide_eq_true_eq, allTo_iff]
  constructor
  · rintro ⟨⟨⟨h3, h1⟩, hs⟩, hc⟩
    refine ⟨⟨h1, hs⟩, h3, fun i k hi hk n1 n2 => ?_⟩
    have := hc i hi k hk
    unfold pairB at this
    simp only [Bool.or_eq_true, beq_iff_eq, decide_eq_true_eq] at this
    rcases this with (e | e) | e
    · exact absurd e n1
    · exact absurd e n2
    · rw [turn_small (allS_at hs hi) (allS_at hs (Nat.mod_lt _ (by omega))) (allS_at hs hk), sgn_pos] at e
      exact e
  · rintro ⟨⟨h1, hs⟩, h3, hc⟩
    refine ⟨⟨⟨h3, h1⟩, hs⟩, fun i hi k hk => ?_⟩
    unfold pairB
    simp only [Bool.or_eq_true, beq_iff_eq, decide_eq_true_eq]
    by_cases n1 : k = i
    · exact .inl (.inl n1)
    by_cases n2 : k = (i + 1) % l.length
    · exact .inl (.inr n2)
    refine .inr ?_
    rw [turn_small (allS_at hs hi) (allS_at hs (Nat.mod_lt _ (by omega))) (allS_at hs hk), sgn_pos]
    exact hc i k hi hk n1 n2
/-- the program's convexity -/
def lowB (l : List Pt) (i : Nat) : Bool := lessV (at_ l i).1 (at_ l i).2 (at_ l ((i + l.length - 1) % l.length)).1 (at_ l ((i + l.length - 1) % l.length)).2 && lessV (at_ l i).1 (at_ l i).2 (at_ l ((i + 1) % l.length)).1 (at_ l ((i + 1) % l.length)).2
def lowN (l : List Pt) : Nat → Nat
  | 0 => 0
  | k + 1 => lowN l k + if lowB l k then 1 else 0
theorem lowB_iff {l : List Pt} {i : Nat} : lowB l i = true ↔ lowP l i := by
  unfold lowB lowP
  rw [Bool.and_eq_true, less_lt, less_lt]
theorem lowN_le (l : List Pt) : ∀ k, lowN l k ≤ k
  | 0 => Nat.le_refl _
  | k + 1 => by
    have := lowN_le l k
    unfold lowN
    split <;> omega
theorem lowN_count (l : List Pt) : ∀ k, (lowN l k = 0 ↔ ∀ j, j < k → ¬ lowP l j) ∧ (lowN l k = 1 ↔ ∃ m, m < k ∧ lowP l m ∧ ∀ j, j < k → lowP l j → j = m)
  | 0 => ⟨⟨fun _ j h => absurd h (Nat.not_lt_zero j), fun _ => rfl⟩, ⟨fun h => (by cases h), fun ⟨m, h, _⟩ => absurd h (Nat.not_lt_zero m)⟩⟩
  | k + 1 => by
    obtain ⟨a, b⟩ := lowN_count l k
    unfold lowN
    by_cases c : lowP l k
    · rw [if_pos (lowB_iff.2 c)]
      refine ⟨⟨fun h => by omega, fun h => absurd c (h k (by omega))⟩, ⟨fun h => ⟨k, by omega, c, fun j hj hl => ?_⟩, fun ⟨m, hm, hl, hu⟩ => ?_⟩⟩
      · by_cases e : j = k
        · exact e
        · exact absurd hl (a.1 (by omega) j (by omega))
      · have : lowN l k = 0 := a.2 fun j hj hlj => by
          have e1 := hu j (by omega) hlj
          have e2 := hu k (by omega) c
          omega
        omega
    · rw [if_neg (fun h => c (lowB_iff.1 h)), Nat.add_zero]
      refine ⟨⟨fun h j hj => ?_, fun h => a.2 fun j hj => h j (by omega)⟩, ⟨fun h => ?_, fun ⟨m, hm, hl, hu⟩ => ?_⟩⟩
      · by_cases e : j = k
        · subst e; exact c
        · exact a.1 h j (by omega)
      · obtain ⟨m, hm, hl, hu⟩ := b.1 h
        refine ⟨m, by omega, hl, fun j hj hlj => ?_⟩
        by_cases e : j = k
        · subst e; exact absurd hlj c
        · exact hu j (by omega) hlj
      · have hmk : m ≠ k := fun e => c (e ▸ hl)
        exact b.2 ⟨m, by omega, hl, fun j hj => hu j (by omega)⟩
def convQ (l : List Pt) : Bool := (decide (3 ≤ l.length) && decide (l.length ≤ 160) && allS l) && (allTo l.length (fun i => decide (0 < turnI l i)) && (lowN l l.length == 1))
theorem convQ_eq (l : List Pt) : convQ l = convB l := by
  have key : (3 ≤ l.length ∧ l.length ≤ 160 ∧ allS l = true) → ((allTo l.length (fun i => decide (0 < turnI l i)) && (lowN l l.length == 1)) = true ↔ ConvP l) := by
    rintro ⟨h3, _, hs⟩
    rw [Bool.and_eq_true, allTo_iff, beq_iff_eq, (lowN_count l l.length).2]
    have ml : ∀ x, x % l.length < l.length := fun x => Nat.mod_lt _ (by omega)
    have tn : ∀ i j k, turnP (at_ l (i % l.length)) (at_ l (j % l.length)) (at_ l (k % l.length)) = sgn (crsP (at_ l (i % l.length)) (at_ l (j % l.length)) (at_ l (k % l.length))) := fun i j k => turn_small (allS_at hs (ml i)) (allS_at hs (ml j)) (allS_at hs (ml k))
    have iff_ : (∀ i, i < l.length → decide (0 < turnI l i) = true) ↔ ∀ i, i < l.length → 0 < crsP (at_ l i) (at_ l ((i + 1) % l.length)) (at_ l ((i + 2) % l.length)) := by
      constructor
      · intro h i hi
        have := h ((i + 1) % l.length) (ml _)
        rw [decide_eq_true_eq] at this
        unfold turnI at this
        have e1 : ((i + 1) % l.length + l.length - 1) % l.length = i % l.length := by
          rw [show (i + 1) % l.length + l.length - 1 = (i + 1) % l.length + (l.length - 1) by omega, Nat.mod_add_mod, show i + 1 + (l.length - 1) = i + l.length by omega, Nat.add_mod_right]
        have e2 : ((i + 1) % l.length + 1) % l.length = (i + 2) % l.length := by rw [Nat.mod_add_mod]
        rw [e1, e2, tn, sgn_pos, Nat.mod_eq_of_lt hi] at this
        exact this
      · intro h i hi
        rw [decide_eq_true_eq]
        unfold turnI
        have := h ((i + l.length - 1) % l.length) (ml _)
        have e1 : ((i + l.length - 1) % l.length + 1) % l.length = i % l.length := by rw [Nat.mod_add_mod, show i + l.length - 1 + 1 = i + l.length by omega, Nat.add_mod_right]
        have e2 : ((i + l.length - 1) % l.length + 2) % l.length = (i + 1) % l.length := by rw [Nat.mod_add_mod, show i + l.length - 1 + 2 = i + 1 + l.length by omega, Nat.add_mod_right]
        rw [e1, e2] at this
        have t := tn (i + l.length - 1) i (i + 1)
        rw [← sgn_pos, ← t, Nat.mod_eq_of_lt hi] at this
        exact this
    rw [iff_]
    exact ⟨fun ⟨a, m, hm, b, c⟩ => one_low h3 a hm b c, fun h => conv_low h⟩
  apply Bool.eq_iff_iff.2
  rw [convB_iff]
  unfold convQ
  rw [Bool.and_eq_true, Bool.and_eq_true, Bool.and_eq_true, decide_eq_true_eq, decide_eq_true_eq]
  constructor
  · rintro ⟨⟨⟨a, b⟩, c⟩, d⟩
    exact ⟨⟨b, c⟩, (key ⟨a, b, c⟩).1 d⟩
  · rintro ⟨⟨b, c⟩, h⟩
    exact ⟨⟨⟨h.1, b⟩, c⟩, (key ⟨h.1, b, c⟩).2 h⟩
/-- where a point lies -/
def turnE (l : List Pt) (p : Pt) (i : Nat) : Int := turnP (at_ l i) (at_ l ((i + 1) % l.length)) p
def whereH (l : List Pt) (p : Pt) : Int := if convB l && sOk p then (if allTo l.length (fun i => decide (0 ≤ turnE l p i)) then (if allTo l.length (fun i => !(turnE l p i == 0)) then 2 else 1) else 0) else 0
theorem where_in {l : List Pt} {p : Pt} (hc : convB l = true) (hp : sOk p = true) : whereH l p ≠ 0 ↔ InP l p := by
  have hs := (convB_iff.1 hc).1.2
  have h3 := (convB_iff.1 hc).2.1
  have e : allTo l.length (fun i => decide (0 ≤ turnE l p i)) = true ↔ InP l p := by
    rw [allTo_iff]
    unfold InP turnE
    refine forall_congr' fun i => ⟨fun h hi => ?_, fun h hi => ?_⟩
    · have := h hi
      rw [decide_eq_true_eq, turn_small (allS_at hs hi) (allS_at hs (Nat.mod_lt _ (by omega))) hp] at this
      have := sgn_lt (crsP (at_ l i) (at_ l ((i + 1) % l.length)) p)
      omega
    · have := h hi
      rw [decide_eq_true_eq, turn_small (allS_at hs hi) (allS_at hs (Nat.mod_lt _ (by omega))) hp]
      have := sgn_lt (crsP (at_ l i) (at_ l ((i + 1) % l.length)) p)
      omega
  unfold whereH
  rw [if_pos (by rw [hc, hp]; rfl)]
  by_cases k : allTo l.length (fun i => decide (0 ≤ turnE l p i)) = true
  · rw [if_pos k]
    exact ⟨fun _ => e.1 k, fun _ => by split <;> decide⟩
  · rw [if_neg k]
    exact ⟨fun h => absurd rfl h, fun h => absurd (e.2 h) k⟩
/-- the farthest so far -/
def bestTo (d : Pt) (l : List Pt) : Nat → Pt
  | 0 => at_ l 0
  | k + 1 => bestP d (bestTo d l k) (at_ l k)
theorem take_at {l : List Pt} {k : Nat} (h : k < l.length) : l.take (k + 1) = l.take k ++ [at_ l k] := by
  rw [List.take_add_one, at_some h]; rfl
theorem best_fold (d : Pt) (l : List Pt) : ∀ k, k ≤ l.length → bestTo d l k = (l.take k).foldl (bestP d) (at_ l 0)
  | 0, _ => rfl
  | k + 1, hk => by
    rw [take_at (by omega), List.foldl_append, ← best_fold d l k (by omega)]
    rfl
theorem best_one (d : Pt) (l : List Pt) : bestTo d l 1 = at_ l 0 := by
  show bestP d (at_ l 0) (at_ l 0) = _
  unfold bestP; split <;> rfl
def farH (d : Pt) (l : List Pt) : Pt := bestTo d l l.length
theorem farH_far {d : Pt} {l : List Pt} (h : 0 < l.length) : FarP d l (farH d l) := by
  unfold farH
  rw [best_fold d l _ (Nat.le_refl _), List.take_length]
  refine far_of ?_
  cases l with
  | nil => cases h
  | cons a r => rfl
/-- the least and the greatest product so far -/
def widTo (d : Pt) (l : List Pt) : Nat → Int × Int
  | 0 => (dtP (at_ l 0) d, dtP (at_ l 0) d)
  | k + 1 => widStep d (widTo d l k) (at_ l k)
theorem wid_fold (d : Pt) (l : List Pt) : ∀ k, k ≤ l.length → widTo d l k = (l.take k).foldl (widStep d) (dtP (at_ l 0) d, dtP (at_ l 0) d)
  | 0, _ => rfl
  | k + 1, hk => by
    rw [take_at (by omega), List.foldl_append, ← wid_fold d l k (by omega)]
    rfl
def widH (d : Pt) (l : List Pt) : Int := (widTo d l l.length).2 - (widTo d l l.length).1
theorem widH_wid {d : Pt} {l : List Pt} (h : 0 < l.length) : WidP d l (widTo d l l.length).1 (widTo d l l.length).2 := by
  rw [wid_fold d l _ (Nat.le_refl _), List.take_length]
  refine wid_of ?_
  cases l with
  | nil => cases h
  | cons a r => rfl
theorem widH_far {d : Pt} {l : List Pt} (h : 0 < l.length) : widH d l = d.1 * ((farH d l).1 - (farH (ngP d) l).1) + d.2 * ((farH d l).2 - (farH (ngP d) l).2) ∧ 0 ≤ widH d l := wid_far (widH_wid h) (farH_far h) (farH_far h)
/-- the greatest squared distance so far -/
def dsV (a b : Pt) : Int := dotV (w64 (a.1 - b.1)) (w64 (a.2 - b.2)) (w64 (a.1 - b.1)) (w64 (a.2 - b.2))
def diaR (l : List Pt) (i : Nat) (s : Int) : Nat → Int
  | 0 => s
  | k + 1 => max (diaR l i s k) (dsV (at_ l i) (at_ l k))
def diaTo (l : List Pt) : Nat → Int
  | 0 => 0
  | i + 1 => diaR l i (diaTo l i) i
def diaH (l : List Pt) : Int := diaTo l l.length
theorem ds_small {a b : Pt} (ha : sOk a = true) (hb : sOk b = true) : dsV a b = sqP a b := by
  unfold dsV
  rw [(sub_small ha hb).1, (sub_small ha hb).2]
  have : Mid (a.1 - b.1, a.2 - b.2) := by
    rw [sOk_iff] at ha hb
    unfold Mid
    simp only
    omega
  have e := dot_mid this this
  simp only at e
  rw [e]
  unfold dtP sqP
  grind
theorem sq_sym (a b : Pt) : sqP a b = sqP b a := by unfold sqP; grind
theorem sq_self (a : Pt) : sqP a a = 0 := by unfold sqP; grind
theorem diaR_spec {l : List Pt} (hs : allS l = true) {i : Nat} (hi : i < l.length) (s : Int) : ∀ k, k ≤ i → s ≤ diaR l i s k ∧ (∀ j, j < k → sqP (at_ l i) (at_ l j) ≤ diaR l i s k) ∧ (diaR l i s k = s ∨ ∃ j, j < k ∧ diaR l i s k = sqP (at_ l i) (at_ l j))
  | 0, _ => ⟨Int.le_refl _, fun j h => absurd h (Nat.not_lt_zero j), .inl rfl⟩
  | k + 1, hk => by
    obtain ⟨a, b, c⟩ := diaR_spec hs hi s k (by omega)
    have e : diaR l i s (k + 1) = max (diaR l i s k) (sqP (at_ l i) (at_ l k)) := by rw [← ds_small (allS_at hs hi) (allS_at hs (by omega))]; rfl
    rw [e]
    refine ⟨by omega, fun j hj => ?_, ?_⟩
    · by_cases g : j = k
      · subst g; omega
      · have := b j (by omega); omega
    · rcases Int.le_total (diaR l i s k) (sqP (at_ l i) (at_ l k)) with g | g
      · exact .inr ⟨k, by omega, by omega⟩
      · rcases c with c | ⟨j, hj, c⟩
        · exact .inl (by omega)
        · exact .inr ⟨j, by omega, by omega⟩
theorem diaTo_spec {l : List Pt} (hs : allS l = true) : ∀ i, i ≤ l.length → 0 ≤ diaTo l i ∧ (∀ a b, b < a → a < i → sqP (at_ l a) (at_ l b) ≤ diaTo l i) ∧ (diaTo l i = 0 ∨ ∃ a b, b < a ∧ a < i ∧ diaTo l i = sqP (at_ l a) (at_ l b))
  | 0, _ => ⟨Int.le_refl _, fun a b _ h => absurd h (Nat.not_lt_zero a), .inl rfl⟩
  | i + 1, hi => by
    obtain ⟨a, b, c⟩ := diaTo_spec hs i (by omega)
    obtain ⟨a', b', c'⟩ := diaR_spec hs (i := i) (by omega) (diaTo l i) i (Nat.le_refl i)
    have e : diaTo l (i + 1) = diaR l i (diaTo l i) i := rfl
    rw [e]
    refine ⟨by omega, fun x y hxy hx => ?_, ?_⟩
    · by_cases g : x = i
      · subst g; exact b' y hxy
      · have := b x y hxy (by omega); omega
    · rcases c' with c' | ⟨j, hj, c'⟩
      · rcases c with c | ⟨x, y, hxy, hx, c⟩
        · exact .inl (by omega)
        · exact .inr ⟨x, y, hxy, by omega, by omega⟩
      · exact .inr ⟨i, j, hj, by omega, c'⟩
theorem diaH_dia {l : List Pt} (hs : allS l = true) (hc : ConvP l) : DiaP l (diaH l) := by
  obtain ⟨a, b, c⟩ := diaTo_spec hs l.length (Nat.le_refl _)
  have h3 := hc.1
  refine ⟨fun x hx y hy => ?_, ?_⟩
  · obtain ⟨i, hi, rfl⟩ := vx_at hx
    obtain ⟨j, hj, rfl⟩ := vx_at hy
    show _ ≤ diaTo l l.length
    rcases Nat.lt_trichotomy i j with k | k | k
    · have := b j i k hj
      rw [sq_sym]
      exact this
    · subst k; rw [sq_self]; exact a
    · exact b i j k hi
  · rcases c with c | ⟨x, y, hxy, hx, c⟩
    · have := b 1 0 (by omega) (by omega)
      rw [c] at this
      have g : sqP (at_ l 1) (at_ l 0) = 0 := by
        have : 0 ≤ sqP (at_ l 1) (at_ l 0) := by
          unfold sqP
          have := sq_nonneg ((at_ l 0).1 - (at_ l 1).1)
          have := sq_nonneg ((at_ l 0).2 - (at_ l 1).2)
          omega
        omega
      have := conv_distinct hc (by omega) (by omega) (sq_zero g)
      omega
    · exact ⟨x, y, hxy, hx, c.symm⟩
/-- the reference's test for a line -/
def colB (l : List Pt) : Bool := allTo l.length fun i => allTo l.length fun k => (at_ l i == at_ l 0) || (turnP (at_ l 0) (at_ l i) (at_ l k) == 0)
theorem colB_iff {l : List Pt} (hs : allS l = true) : colB l = true ↔ FlatP l := by
  unfold colB
  cases hl : l with
  | nil => exact ⟨fun _ => flat_nil, fun _ => by simp [allTo]⟩
  | cons a r =>
    rw [← hl]
    have h0 : 0 < l.length := by rw [hl]; simp
    have ha : l.head? = some (at_ l 0) := by rw [hl]; rfl
    rw [flat_iff ha]
    simp only [allTo_iff, Bool.or_eq_true, beq_iff_eq]
    constructor
    · intro h x hx y hy hne
      obtain ⟨i, hi, rfl⟩ := vx_at hx
      obtain ⟨k, hk, rfl⟩ := vx_at hy
      rcases h i hi k hk with e | e
      · exact absurd e hne
      · rwa [turn_small (allS_at hs h0) (allS_at hs hi) (allS_at hs hk), sgn_zero] at e
    · intro h i hi k hk
      by_cases e : at_ l i = at_ l 0
      · exact .inl e
      · refine .inr ?_
        rw [turn_small (allS_at hs h0) (allS_at hs hi) (allS_at hs hk), sgn_zero]
        exact h _ (at_mem hi) _ (at_mem hk) e
/-- what Hull returns -/
def hullH (l : List Pt) : List Pt × Int := if 400 < l.length then ([], 9) else if !allS l then ([], 2) else if colB l then ([], 11) else if 160 < (ringC (ascP l)).length then ([], 9) else (ringC (ascP l), 0)
end Go.Proofs.Ythbgapcplgigoaa.G

namespace Go.Proofs.Ythbgapcplgigoaa.W
open Go.RowKit Go.Proofs.Ythbgapcplgigoaa.V Go.Proofs.Ythbgapcplgigoaa.G

set_option maxRecDepth 100000 in
set_option maxHeartbeats 3200000 in
theorem hWithin_any (l : List (Int × Int)) (v : Value) (w : World) (hv : SrcV w v l) : Calls Try.prog 34 #[v] w fun e w' => e = .returned (.bool (allS l)) ∧ Nw w w' := by
  obtain ⟨A, c, rfl⟩ := hv.shape
  obtain ⟨n, hn⟩ : ∃ n, l.length = n := ⟨_, rfl⟩
  replace hv := src_n hv hn
  rw [hn]
  have HV := Lib.hid hv
  have HN := Lib.hid hn
  have hmx := src_max hv
  clear hv hn
  go_enter Try.func34, Try.ntmps34
  go_wp2_with fail
  go_loopw [7] (fun i wr => ∃ k : Nat, i = .int .i64 k ∧ k ≤ n ∧ (∀ j, j < k → sOk (at_ l j) = true) ∧ Nw w wr) (fun i _ => n - (intOf i).toNat)
  case atStart => exact ⟨0, rfl, Nat.zero_le _, fun j h => absurd h (Nat.not_lt_zero _), by repeat (first | exact Kp.refl _ _ | refine Kp.drew ?_)⟩
  case round =>
    obtain ⟨k, rfl, hk, hall, hnw⟩ := hrel
    have HA := Lib.hid hall
    have HK := Lib.hid hnw
    clear hall hnw
    by_cases hkn : k < n
    · have i0 : (0 : Int) ≤ (k : Int) := by omega
      have i1 : (k : Int) < (n : Int) := by omega
      have e3 : IntKind.i64.wrap ((k : Int) + 1) = ((k + 1 : Nat) : Int) := by rw [IntKind.wrap_i64]; omega
      obtain ⟨g, o, rfl, hg, hc⟩ := src_at HV.out (by omega)
      obtain ⟨q0, q1⟩ := hc wr HK.out k hkn
      obtain ⟨⟨px, py⟩, hp⟩ : ∃ p, at_ l k = p := ⟨_, rfl⟩
      rw [hp] at q0 q1
      have HP := Lib.hid hp
      have cw := fun w1 => within_any px py 8000 w1
      obtain ⟨b, hb⟩ : ∃ b, withinV px py 8000 = b := ⟨_, rfl⟩
      rw [hb] at cw
      have HB := Lib.hid hb
      clear hp hb hc hg
      cases b
      · go_wp2_with (first | (go_at_call 42; ((with_reducible refine (cw _).mono ?_); rintro e w5 ⟨rfl, hk5⟩)))
        go_ret
        refine ⟨by show Ending.returned (.bool false) = _; rw [show allS l = false from allTo_not (i := k) (by rw [HN.out]; exact hkn) (by rw [HP.out]; exact HB.out)], ?_⟩
        exact (by repeat (first | exact HK.out | refine Kp.alloc ?_ _ | refine Kp.drew ?_) : Nw w _).tr hk5
      · go_wp2_with (first | (go_at_call 42; ((with_reducible refine (cw _).mono ?_); rintro e w5 ⟨rfl, hk5⟩)))
        go_roundw
        case rel =>
          refine ⟨k + 1, rfl, by omega, fun j hj => ?_, (by repeat (first | exact HK.out | refine Kp.alloc ?_ _ | refine Kp.drew ?_) : Nw w _).tr hk5⟩
          rcases Nat.lt_or_ge j k with h | h
          · exact HA.out j h
          · obtain rfl : j = k := by omega
            rw [HP.out]
            exact HB.out
        case measure => (simp [intOf]; try omega)
    · obtain rfl : k = n := by omega
      have i5 : ¬ ((k : Int) < (k : Int)) := by omega
      go_wp2_with fail
      go_ret
      exact ⟨by show Ending.returned (.bool true) = _; rw [show allS l = true from allTo_iff.2 fun i hi => HA.out i (by rw [HN.out] at hi; exact hi)], HK.out⟩

set_option maxRecDepth 100000 in
set_option maxHeartbeats 3200000 in
theorem r10within_any (l : List (Int × Int)) (v : Value) (w : World) (hv : SrcV w v l) : Calls Try.prog 39 #[v] w fun e w' => e = .returned (.bool (allS l)) ∧ Nw w w' := by
  obtain ⟨A, c, rfl⟩ := hv.shape
  obtain ⟨n, hn⟩ : ∃ n, l.length = n := ⟨_, rfl⟩
  replace hv := src_n hv hn
  rw [hn]
  have HV := Lib.hid hv
  have HN := Lib.hid hn
  have hmx := src_max hv
  clear hv hn
  go_enter Try.func39, Try.ntmps39
  go_wp2_with fail
  go_loopw [3] (fun i wr => ∃ k : Nat, i = .int .i64 k ∧ k ≤ n ∧ (∀ j, j < k → sOk (at_ l j) = true) ∧ Nw w wr) (fun i _ => n - (intOf i).toNat)
  case atStart => exact ⟨0, rfl, Nat.zero_le _, fun j h => absurd h (Nat.not_lt_zero _), by repeat (first | exact Kp.refl _ _ | refine Kp.drew ?_)⟩
  case round =>
    obtain ⟨k, rfl, hk, hall, hnw⟩ := hrel
    have HA := Lib.hid hall
    have HK := Lib.hid hnw
    clear hall hnw
    by_cases hkn : k < n
    · have i0 : (0 : Int) ≤ (k : Int) := by omega
      have i1 : (k : Int) < (n : Int) := by omega
      have e3 : IntKind.i64.wrap ((k : Int) + 1) = ((k + 1 : Nat) : Int) := by rw [IntKind.wrap_i64]; omega
      obtain ⟨g, o, rfl, hg, hc⟩ := src_at HV.out (by omega)
      obtain ⟨q0, q1⟩ := hc wr HK.out k hkn
      obtain ⟨⟨px, py⟩, hp⟩ : ∃ p, at_ l k = p := ⟨_, rfl⟩
      rw [hp] at q0 q1
      have HP := Lib.hid hp
      have cw := fun w1 => rwithin_any px py 8000 w1
      obtain ⟨b, hb⟩ : ∃ b, withinV px py 8000 = b := ⟨_, rfl⟩
      rw [hb] at cw
      have HB := Lib.hid hb
      clear hp hb hc hg
      cases b
      · go_wp2_with (first | (go_at_call 29; ((with_reducible refine (cw _).mono ?_); rintro e w5 ⟨rfl, hk5⟩)))
        go_ret
        refine ⟨by show Ending.returned (.bool false) = _; rw [show allS l = false from allTo_not (i := k) (by rw [HN.out]; exact hkn) (by rw [HP.out]; exact HB.out)], ?_⟩
        exact (by repeat (first | exact HK.out | refine Kp.alloc ?_ _ | refine Kp.drew ?_) : Nw w _).tr hk5
      · go_wp2_with (first | (go_at_call 29; ((with_reducible refine (cw _).mono ?_); rintro e w5 ⟨rfl, hk5⟩)))
        go_roundw
        case rel =>
          refine ⟨k + 1, rfl, by omega, fun j hj => ?_, (by repeat (first | exact HK.out | refine Kp.alloc ?_ _ | refine Kp.drew ?_) : Nw w _).tr hk5⟩
          rcases Nat.lt_or_ge j k with h | h
          · exact HA.out j h
          · obtain rfl : j = k := by omega
            rw [HP.out]
            exact HB.out
        case measure => (simp [intOf]; try omega)
    · obtain rfl : k = n := by omega
      have i5 : ¬ ((k : Int) < (k : Int)) := by omega
      go_wp2_with fail
      go_ret
      exact ⟨by show Ending.returned (.bool true) = _; rw [show allS l = true from allTo_iff.2 fun i hi => HA.out i (by rw [HN.out] at hi; exact hi)], HK.out⟩

set_option maxRecDepth 100000 in
set_option maxHeartbeats 3200000 in
theorem small_any (l : List (Int × Int)) (v : Value) (w : World) (hv : SrcV w v l) : Calls Try.prog 25 #[v] w fun e w' => e = .returned (.bool (allS l && decide (l.length ≤ 30))) ∧ Nw w w' := by
  obtain ⟨A, c, rfl⟩ := hv.shape
  obtain ⟨n, hn⟩ : ∃ n, l.length = n := ⟨_, rfl⟩
  replace hv := src_n hv hn
  rw [hn]
  have HV := Lib.hid hv
  have HN := Lib.hid hn
  have hmx := src_max hv
  clear hv hn
  go_enter Try.func25, Try.ntmps25
  go_wp2_with fail
  go_loopw [3] (fun i wr => ∃ k : Nat, i = .int .i64 k ∧ k ≤ n ∧ (∀ j, j < k → sOk (at_ l j) = true) ∧ Nw w wr) (fun i _ => n - (intOf i).toNat)
  case atStart => exact ⟨0, rfl, Nat.zero_le _, fun j h => absurd h (Nat.not_lt_zero _), by repeat (first | exact Kp.refl _ _ | refine Kp.drew ?_)⟩
  case round =>
    obtain ⟨k, rfl, hk, hall, hnw⟩ := hrel
    have HA := Lib.hid hall
    have HK := Lib.hid hnw
    clear hall hnw
    by_cases hkn : k < n
    · have i0 : (0 : Int) ≤ (k : Int) := by omega
      have i1 : (k : Int) < (n : Int) := by omega
      have e3 : IntKind.i64.wrap ((k : Int) + 1) = ((k + 1 : Nat) : Int) := by rw [IntKind.wrap_i64]; omega
      obtain ⟨g, o, rfl, hg, hc⟩ := src_at HV.out (by omega)
      obtain ⟨q0, q1⟩ := hc wr HK.out k hkn
      obtain ⟨⟨px, py⟩, hp⟩ : ∃ p, at_ l k = p := ⟨_, rfl⟩
      rw [hp] at q0 q1
      have HP := Lib.hid hp
      have cw := fun w1 => rwithin_any px py 8000 w1
      obtain ⟨b, hb⟩ : ∃ b, withinV px py 8000 = b := ⟨_, rfl⟩
      rw [hb] at cw
      have HB := Lib.hid hb
      clear hp hb hc hg
      cases b
      · go_wp2_with (first | (go_at_call 29; ((with_reducible refine (cw _).mono ?_); rintro e w5 ⟨rfl, hk5⟩)))
        go_ret
        refine ⟨by show Ending.returned (.bool false) = _; rw [show allS l = false from allTo_not (i := k) (by rw [HN.out]; exact hkn) (by rw [HP.out]; exact HB.out)]; rfl, ?_⟩
        exact (by repeat (first | exact HK.out | refine Kp.alloc ?_ _ | refine Kp.drew ?_) : Nw w _).tr hk5
      · go_wp2_with (first | (go_at_call 29; ((with_reducible refine (cw _).mono ?_); rintro e w5 ⟨rfl, hk5⟩)))
        go_roundw
        case rel =>
          refine ⟨k + 1, rfl, by omega, fun j hj => ?_, (by repeat (first | exact HK.out | refine Kp.alloc ?_ _ | refine Kp.drew ?_) : Nw w _).tr hk5⟩
          rcases Nat.lt_or_ge j k with h | h
          · exact HA.out j h
          · obtain rfl : j = k := by omega
            rw [HP.out]
            exact HB.out
        case measure => (simp [intOf]; try omega)
    · obtain rfl : k = n := by omega
      have i5 : ¬ ((k : Int) < (k : Int)) := by omega
      go_wp2_with fail
      go_ret
      exact ⟨by rw [show allS l = true from allTo_iff.2 fun i hi => HA.out i (by rw [HN.out] at hi; exact hi)]; simp; omega, HK.out⟩

end Go.Proofs.Ythbgapcplgigoaa.W

namespace Go.Proofs.Ythbgapcplgigoaa.W
open Go.RowKit Go.Proofs.Ythbgapcplgigoaa.V

theorem eql_vecg (x1 x2 y1 y2 : Int) (w : World) : (binOp .eql 32 (.agg #[.int .i64 x1, .int .i64 x2]) (.agg #[.int .i64 y1, .int .i64 y2])).run Try.prog w = .ok (.bool (x1 == y1 && x2 == y2)) w := by
  have u3 := Try.underlying3
  have a3 := Try.isAgg3
  have z3 := Try.sizeOf3
  have hS : Try.prog.underlying 32 = some (.struct (Try.prog.fieldsOf 32)) := by kernel_rfl
  have hp : Try.prog.stoodInHeld 32 = false := by kernel_rfl
  rw [run_eql_struct, show (10000 : Nat) = 9999 + 1 from rfl, run_equalIn_agg w 9999 32 _ _ hS hp]
  simp only [Program.fieldsOf, Try.underlying32]
  go_simp
  by_cases h1 : x1 = y1 <;> by_cases h2 : x2 = y2 <;> simp [h1, h2]
end Go.Proofs.Ythbgapcplgigoaa.W
