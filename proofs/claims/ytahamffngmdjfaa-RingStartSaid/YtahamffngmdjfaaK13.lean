/-
  seg, plain: how two segments meet does not depend on their order, nor on that of their ends, and is moved with them. Conditions stand at each lemma.
  ring, plain: a ring that begins with another vertex is valid as before and has the same area; a canonical ring is its own canonical and cleaned ring. No condition.
  ring, plain: where a rational point lies: the way of the program, by edges that lead upwards, is the reference's. Conditions: the coordinates are within 2000, the point is valid.
  ring, plain: around a ring a height is crossed an even number of times; a point beyond the limits is not inside; a moved ring has the same area, turns and places. Conditions: those of each sentence.
  ring, plain: the vertices of a valid ring are distinct; a ring that begins with another vertex has the same canonical ring, and points lie at the same places; the opposite direction. No condition.
  ring, plain: a reversed valid ring is not valid, and is cleaned to the ring; so is a ring whose last vertex is repeated. No condition.
  ring: a list of vectors in memory, its elements by index; remainders by a length. No condition.
-/
import Derived.Test.YtahamffngmdjfaaK12
import Derived.Test.YtahamffngmdjfaaK04
namespace Go.Proofs.Ytahamffngmdjfaa.W
open Go.RowKit Go.Proofs.Ytahamffngmdjfaa.V Go.Proofs.Ytahamffngmdjfaa.G

theorem valid_turned (ax ay bx bz : Int) : validS bx bz ax ay = validS ax ay bx bz := by
  unfold validS
  rw [Bool.and_comm]
theorem crs_turned (ax ay bx bz px py : Int) : crs bx bz ax ay px py = -crs ax ay bx bz px py := by
  unfold crs
  grind
theorem on_turned (ax ay bx bz px py : Int) : On bx bz ax ay px py ↔ On ax ay bx bz px py := by
  unfold On dotP
  rw [crs_turned, Int.mul_comm (bx - px), Int.mul_comm (bz - py)]
  constructor <;> rintro ⟨h1, h2⟩ <;> exact ⟨by omega, h2⟩
theorem prt_turned_l (ax ay bx bz cx cy dx dy : Int) : Prt bx bz ax ay cx cy dx dy ↔ Prt ax ay bx bz cx cy dx dy := by
  unfold Prt
  rw [crs_turned ax ay bx bz cx cy, crs_turned ax ay bx bz dx dy, Int.neg_mul_neg]
theorem prt_turned_r (ax ay bx bz cx cy dx dy : Int) : Prt ax ay bx bz dx dy cx cy ↔ Prt ax ay bx bz cx cy dx dy := by
  unfold Prt
  rw [Int.mul_comm]

theorem end_lm2 {ax ay bx bz cx cy dx dy : Int} (h1 : validS ax ay bx bz = true) (h2 : validS cx cy dx dy = true) {x y : Int} (hz : (x, y) ∈ endsL ax ay bx bz cx cy dx dy) : Lm x y := by
  obtain ⟨ha, hb⟩ := valid_lm h1
  obtain ⟨hc, hd⟩ := valid_lm h2
  have : (x, y) = (ax, ay) ∨ (x, y) = (bx, bz) ∨ (x, y) = (cx, cy) ∨ (x, y) = (dx, dy) := by simpa [endsL] using hz
  rcases this with e | e | e | e <;> (injection e with e1 e2; subst e1 e2; assumption)
/-- when two pairs of segments meet in the same way -/
theorem same_way {ax ay bx bz cx cy dx dy ax' ay' bx' bz' cx' cy' dx' dy' : Int}
    (hv : (validS ax' ay' bx' bz' = true ∧ validS cx' cy' dx' dy' = true) ↔ (validS ax ay bx bz = true ∧ validS cx cy dx dy = true))
    (he : ∀ z, z ∈ endsL ax' ay' bx' bz' cx' cy' dx' dy' ↔ z ∈ endsL ax ay bx bz cx cy dx dy)
    (ho : ∀ px py, (On ax' ay' bx' bz' px py ∧ On cx' cy' dx' dy' px py) ↔ (On ax ay bx bz px py ∧ On cx cy dx dy px py))
    (hp : (Prt ax' ay' bx' bz' cx' cy' dx' dy' ∧ Prt cx' cy' dx' dy' ax' ay' bx' bz') ↔ (Prt ax ay bx bz cx cy dx dy ∧ Prt cx cy dx dy ax ay bx bz))
    (hc : denX ax' ay' bx' bz' cx' cy' dx' dy' = -denX ax ay bx bz cx cy dx dy ∧ crossX ax' ay' bx' bz' cx' cy' dx' dy' = -crossX ax ay bx bz cx cy dx dy ∧ crossY ax' ay' bx' bz' cx' cy' dx' dy' = -crossY ax ay bx bz cx cy dx dy) :
    kindS ax' ay' bx' bz' cx' cy' dx' dy' = kindS ax ay bx bz cx cy dx dy ∧ atS ax' ay' bx' bz' cx' cy' dx' dy' = atS ax ay bx bz cx cy dx dy ∧ shareS ax' ay' bx' bz' cx' cy' dx' dy' = shareS ax ay bx bz cx cy dx dy := by
  by_cases h : validS ax ay bx bz = true ∧ validS cx cy dx dy = true
  · have h' := hv.2 h
    obtain ⟨h1, h2⟩ := h
    obtain ⟨h1', h2'⟩ := h'
    have hcom : comS ax' ay' bx' bz' cx' cy' dx' dy' = comS ax ay bx bz cx cy dx dy := by
      refine asc_unique (com_asc ..) (com_asc ..) fun z => ?_
      obtain ⟨x, y⟩ := z
      rw [com_mem, com_mem, he]
      refine and_congr_right fun hz => ?_
      have hl : Lm x y := end_lm2 h1 h2 hz
      obtain ⟨ha, hb⟩ := valid_lm h1
      obtain ⟨hc, hd⟩ := valid_lm h2
      obtain ⟨ha', hb'⟩ := valid_lm h1'
      obtain ⟨hc', hd'⟩ := valid_lm h2'
      unfold bothS
      rw [Bool.and_eq_true, Bool.and_eq_true]
      show conS _ _ _ _ x y = true ∧ conS _ _ _ _ x y = true ↔ conS _ _ _ _ x y = true ∧ conS _ _ _ _ x y = true
      rw [con_lm ha hb hl, con_lm hc hd hl, con_lm ha' hb' hl, con_lm hc' hd' hl]
      exact ho x y
    obtain ⟨ha, hb⟩ := valid_lm h1
    obtain ⟨hcc, hd⟩ := valid_lm h2
    obtain ⟨ha', hb'⟩ := valid_lm h1'
    obtain ⟨hc', hd'⟩ := valid_lm h2'
    have hps : (partS ax' ay' bx' bz' cx' cy' dx' dy' && partS cx' cy' dx' dy' ax' ay' bx' bz') = (partS ax ay bx bz cx cy dx dy && partS cx cy dx dy ax ay bx bz) := by
      apply Bool.eq_iff_iff.2
      rw [Bool.and_eq_true, Bool.and_eq_true, part_lm ha hb hcc hd, part_lm hcc hd ha hb, part_lm ha' hb' hc' hd', part_lm hc' hd' ha' hb']
      exact hp
    have hk : kindS ax' ay' bx' bz' cx' cy' dx' dy' = kindS ax ay bx bz cx cy dx dy := by
      rw [kind_is h1' h2', kind_is h1 h2, hcom, hps]
    have hpp : partsS ax' ay' bx' bz' cx' cy' dx' dy' = partsS ax ay bx bz cx cy dx dy := by
      unfold partsS
      rw [h1, h2, h1', h2', hcom]
    refine ⟨hk, ?_, ?_⟩
    · unfold atS
      rw [hk, hpp]
      split
      · rfl
      · split
        · rename_i hk2
          have h0 := prt_den (kind_two hk2).2.2.1
          unfold crossS
          rw [hc.1, hc.2.1, hc.2.2]
          by_cases hn : denX ax ay bx bz cx cy dx dy < 0
          · rw [if_neg (by omega), if_pos hn]
          · rw [if_pos (by omega), if_neg hn, Int.neg_neg, Int.neg_neg, Int.neg_neg]
        · rfl
    · unfold shareS
      rw [hk, hpp]
  · have h' := fun e => h (hv.1 e)
    rw [kind_inv h, kind_inv h']
    unfold atS shareS
    rw [kind_inv h, kind_inv h']
    exact ⟨rfl, rfl, rfl⟩
theorem way_swap (ax ay bx bz cx cy dx dy : Int) : kindS cx cy dx dy ax ay bx bz = kindS ax ay bx bz cx cy dx dy ∧ atS cx cy dx dy ax ay bx bz = atS ax ay bx bz cx cy dx dy ∧ shareS cx cy dx dy ax ay bx bz = shareS ax ay bx bz cx cy dx dy := by
  refine same_way ⟨fun h => ⟨h.2, h.1⟩, fun h => ⟨h.2, h.1⟩⟩ (fun z => ?_) (fun px py => ⟨fun h => ⟨h.2, h.1⟩, fun h => ⟨h.2, h.1⟩⟩) ⟨fun h => ⟨h.2, h.1⟩, fun h => ⟨h.2, h.1⟩⟩ ⟨?_, ?_, ?_⟩
  · simp only [endsL, List.mem_cons, List.not_mem_nil, or_false]
    constructor <;> (rintro (h | h | h | h) <;> simp [h])
  · unfold denX; grind
  · unfold crossX denX numX; grind
  · unfold crossY denX numX; grind
theorem way_left (ax ay bx bz cx cy dx dy : Int) : kindS bx bz ax ay cx cy dx dy = kindS ax ay bx bz cx cy dx dy ∧ atS bx bz ax ay cx cy dx dy = atS ax ay bx bz cx cy dx dy ∧ shareS bx bz ax ay cx cy dx dy = shareS ax ay bx bz cx cy dx dy := by
  refine same_way (by rw [valid_turned]) (fun z => ?_) (fun px py => by rw [on_turned]) (by rw [prt_turned_l ax ay bx bz cx cy dx dy, prt_turned_r cx cy dx dy ax ay bx bz]) ⟨?_, ?_, ?_⟩
  · simp only [endsL, List.mem_cons, List.not_mem_nil, or_false]
    constructor <;> (rintro (h | h | h | h) <;> simp [h])
  · unfold denX; grind
  · unfold crossX denX numX; grind
  · unfold crossY denX numX; grind
theorem way_right (ax ay bx bz cx cy dx dy : Int) : kindS ax ay bx bz dx dy cx cy = kindS ax ay bx bz cx cy dx dy ∧ atS ax ay bx bz dx dy cx cy = atS ax ay bx bz cx cy dx dy ∧ shareS ax ay bx bz dx dy cx cy = shareS ax ay bx bz cx cy dx dy := by
  refine same_way (by rw [valid_turned cx cy dx dy]) (fun z => ?_) (fun px py => by rw [on_turned cx]) (by rw [prt_turned_r ax ay bx bz cx cy dx dy, prt_turned_l cx cy dx dy ax ay bx bz]) ⟨?_, ?_, ?_⟩
  · simp only [endsL, List.mem_cons, List.not_mem_nil, or_false]
    constructor <;> (rintro (h | h | h | h) <;> simp [h])
  · unfold denX; grind
  · unfold crossX denX numX; grind
  · unfold crossY denX numX; grind
theorem crs_moved (ax ay bx bz px py vx vy : Int) : crs (ax + vx) (ay + vy) (bx + vx) (bz + vy) (px + vx) (py + vy) = crs ax ay bx bz px py := by
  unfold crs
  rw [show bx + vx - (ax + vx) = bx - ax by omega, show py + vy - (ay + vy) = py - ay by omega, show bz + vy - (ay + vy) = bz - ay by omega, show px + vx - (ax + vx) = px - ax by omega]
theorem on_moved (ax ay bx bz px py vx vy : Int) : On (ax + vx) (ay + vy) (bx + vx) (bz + vy) (px + vx) (py + vy) ↔ On ax ay bx bz px py := by
  unfold On dotP
  rw [crs_moved, show ax + vx - (px + vx) = ax - px by omega, show ay + vy - (py + vy) = ay - py by omega, show bx + vx - (px + vx) = bx - px by omega, show bz + vy - (py + vy) = bz - py by omega]
def mv (vx vy : Int) (z : Int × Int) : Int × Int := (z.1 + vx, z.2 + vy)
theorem lt_mv (vx vy : Int) (x y : Int × Int) : ltV (mv vx vy x) (mv vx vy y) ↔ ltV x y := by
  rw [ltV_iff, ltV_iff]
  unfold mv
  simp only
  omega
theorem asc_mv (vx vy : Int) {L : List (Int × Int)} (h : Asc L) : Asc (L.map (mv vx vy)) := by
  refine List.pairwise_map.2 (h.imp fun {a b} hab => (lt_mv vx vy a b).2 hab)
theorem first_mv (vx vy : Int) {L : List (Int × Int)} (h : L ≠ []) : firstV (L.map (mv vx vy)) = mv vx vy (firstV L) := by
  cases L with
  | nil => exact absurd rfl h
  | cons x r => rfl
theorem last_mv (vx vy : Int) {L : List (Int × Int)} (h : L ≠ []) : lastV (L.map (mv vx vy)) = mv vx vy (lastV L) := by
  unfold lastV
  rw [List.getLast?_map, List.getLast?_eq_some_getLast h]
  rfl
theorem way_moved {ax ay bx bz cx cy dx dy : Int} (vx vy : Int) (h1 : validS ax ay bx bz = true) (h2 : validS cx cy dx dy = true) (h1' : validS (ax + vx) (ay + vy) (bx + vx) (bz + vy) = true) (h2' : validS (cx + vx) (cy + vy) (dx + vx) (dy + vy) = true) :
    kindS (ax + vx) (ay + vy) (bx + vx) (bz + vy) (cx + vx) (cy + vy) (dx + vx) (dy + vy) = kindS ax ay bx bz cx cy dx dy ∧
    ((kindS ax ay bx bz cx cy dx dy = 1 ∨ kindS ax ay bx bz cx cy dx dy = 2) → atS (ax + vx) (ay + vy) (bx + vx) (bz + vy) (cx + vx) (cy + vy) (dx + vx) (dy + vy) = ((atS ax ay bx bz cx cy dx dy).1 + vx * (atS ax ay bx bz cx cy dx dy).2.2, (atS ax ay bx bz cx cy dx dy).2.1 + vy * (atS ax ay bx bz cx cy dx dy).2.2, (atS ax ay bx bz cx cy dx dy).2.2)) ∧
    (kindS ax ay bx bz cx cy dx dy = 3 → shareS (ax + vx) (ay + vy) (bx + vx) (bz + vy) (cx + vx) (cy + vy) (dx + vx) (dy + vy) = (mv vx vy (shareS ax ay bx bz cx cy dx dy).1, mv vx vy (shareS ax ay bx bz cx cy dx dy).2)) := by
  obtain ⟨ha, hb⟩ := valid_lm h1
  obtain ⟨hc, hd⟩ := valid_lm h2
  obtain ⟨ha', hb'⟩ := valid_lm h1'
  obtain ⟨hc', hd'⟩ := valid_lm h2'
  have hcom : comS (ax + vx) (ay + vy) (bx + vx) (bz + vy) (cx + vx) (cy + vy) (dx + vx) (dy + vy) = (comS ax ay bx bz cx cy dx dy).map (mv vx vy) := by
    refine asc_unique (com_asc ..) (asc_mv vx vy (com_asc ..)) fun z => ?_
    rw [List.mem_map]
    constructor
    · intro hz
      obtain ⟨x, y⟩ := z
      obtain ⟨he, hl, o1, o2⟩ := com_lm h1' h2' hz
      have e1 : x = (x - vx) + vx := by omega
      have e2 : y = (y - vy) + vy := by omega
      rw [e1, e2, on_moved] at o1 o2
      refine ⟨(x - vx, y - vy), (com_of h1 h2 ?_ o1 o2).1, by unfold mv; simp only; rw [← e1, ← e2]⟩
      rcases he with ⟨e, e'⟩ | ⟨e, e'⟩ | ⟨e, e'⟩ | ⟨e, e'⟩
      · exact .inl ⟨by omega, by omega⟩
      · exact .inr (.inl ⟨by omega, by omega⟩)
      · exact .inr (.inr (.inl ⟨by omega, by omega⟩))
      · exact .inr (.inr (.inr ⟨by omega, by omega⟩))
    · rintro ⟨⟨x, y⟩, hz, rfl⟩
      obtain ⟨he, hl, o1, o2⟩ := com_lm h1 h2 hz
      refine (com_of h1' h2' ?_ ((on_moved ..).2 o1) ((on_moved ..).2 o2)).1
      rcases he with ⟨rfl, rfl⟩ | ⟨rfl, rfl⟩ | ⟨rfl, rfl⟩ | ⟨rfl, rfl⟩
      · exact .inl ⟨rfl, rfl⟩
      · exact .inr (.inl ⟨rfl, rfl⟩)
      · exact .inr (.inr (.inl ⟨rfl, rfl⟩))
      · exact .inr (.inr (.inr ⟨rfl, rfl⟩))
  have hps : (partS (ax + vx) (ay + vy) (bx + vx) (bz + vy) (cx + vx) (cy + vy) (dx + vx) (dy + vy) && partS (cx + vx) (cy + vy) (dx + vx) (dy + vy) (ax + vx) (ay + vy) (bx + vx) (bz + vy)) = (partS ax ay bx bz cx cy dx dy && partS cx cy dx dy ax ay bx bz) := by
    apply Bool.eq_iff_iff.2
    rw [Bool.and_eq_true, Bool.and_eq_true, part_lm ha hb hc hd, part_lm hc hd ha hb, part_lm ha' hb' hc' hd', part_lm hc' hd' ha' hb']
    unfold Prt
    rw [crs_moved, crs_moved, crs_moved, crs_moved]
  have hk : kindS (ax + vx) (ay + vy) (bx + vx) (bz + vy) (cx + vx) (cy + vy) (dx + vx) (dy + vy) = kindS ax ay bx bz cx cy dx dy := by
    rw [kind_is h1' h2', kind_is h1 h2, hcom, hps]
    cases hL : comS ax ay bx bz cx cy dx dy with
    | nil => rfl
    | cons x r =>
      rw [← hL, first_mv vx vy (by rw [hL]; simp), last_mv vx vy (by rw [hL]; simp)]
      have e : (mv vx vy (firstV (comS ax ay bx bz cx cy dx dy)) = mv vx vy (lastV (comS ax ay bx bz cx cy dx dy))) = (firstV (comS ax ay bx bz cx cy dx dy) = lastV (comS ax ay bx bz cx cy dx dy)) := by
        apply propext
        constructor
        · intro h
          unfold mv at h
          injection h with h3 h4
          exact Prod.ext (by omega) (by omega)
        · intro h; rw [h]
      simp only [e, List.isEmpty_map]
  have hpp : comS ax ay bx bz cx cy dx dy ≠ [] → partsS (ax + vx) (ay + vy) (bx + vx) (bz + vy) (cx + vx) (cy + vy) (dx + vx) (dy + vy) = (mv vx vy (partsS ax ay bx bz cx cy dx dy).1, mv vx vy (partsS ax ay bx bz cx cy dx dy).2) := fun hne => by
    rw [parts_is h1 h2 hne, parts_is h1' h2' (by rw [hcom]; simpa using hne), hcom, first_mv vx vy hne, last_mv vx vy hne]
  refine ⟨hk, fun h => ?_, fun h => ?_⟩
  · unfold atS
    rw [hk]
    rcases h with h | h
    · rw [if_pos h, if_pos h, hpp (kind_ne h1 h2 h (.inl rfl)).1]
      unfold mv
      simp
    · have h0 := prt_den (kind_two h).2.2.1
      rw [if_neg (by omega), if_pos h, if_neg (by omega), if_pos h]
      have eD : denX (ax + vx) (ay + vy) (bx + vx) (bz + vy) (cx + vx) (cy + vy) (dx + vx) (dy + vy) = denX ax ay bx bz cx cy dx dy := by unfold denX; grind
      have eX : crossX (ax + vx) (ay + vy) (bx + vx) (bz + vy) (cx + vx) (cy + vy) (dx + vx) (dy + vy) = crossX ax ay bx bz cx cy dx dy + vx * denX ax ay bx bz cx cy dx dy := by unfold crossX denX numX; grind
      have eY : crossY (ax + vx) (ay + vy) (bx + vx) (bz + vy) (cx + vx) (cy + vy) (dx + vx) (dy + vy) = crossY ax ay bx bz cx cy dx dy + vy * denX ax ay bx bz cx cy dx dy := by unfold crossY denX numX; grind
      unfold crossS
      rw [eD, eX, eY]
      by_cases hn : denX ax ay bx bz cx cy dx dy < 0
      · rw [if_pos hn, if_pos hn, show -(crossX ax ay bx bz cx cy dx dy + vx * denX ax ay bx bz cx cy dx dy) = -crossX ax ay bx bz cx cy dx dy + vx * -denX ax ay bx bz cx cy dx dy by rw [Int.mul_neg]; omega, show -(crossY ax ay bx bz cx cy dx dy + vy * denX ax ay bx bz cx cy dx dy) = -crossY ax ay bx bz cx cy dx dy + vy * -denX ax ay bx bz cx cy dx dy by rw [Int.mul_neg]; omega]
        exact low_move vx vy (by omega)
      · rw [if_neg hn, if_neg hn]
        exact low_move vx vy h0
  · unfold shareS
    rw [hk, if_pos h, if_pos h]
    exact hpp (kind_ne h1 h2 h (.inr rfl)).1
end Go.Proofs.Ytahamffngmdjfaa.W

namespace Go.Proofs.Ytahamffngmdjfaa.G
open Go.RowKit Go.Proofs.Ytahamffngmdjfaa.V Go.Proofs.Ytahamffngmdjfaa.W

theorem rot_len {l : List Pt} {k : Nat} (hk : k ≤ l.length) : (rotL l k).length = l.length := by
  unfold rotL
  rw [List.length_append, List.length_drop, List.length_take]
  omega
theorem rot_at {l : List Pt} {k i : Nat} (hk : k ≤ l.length) (hi : i < l.length) : at_ (rotL l k) i = at_ l ((i + k) % l.length) := by
  apply at_of
  unfold rotL
  rcases Nat.lt_or_ge i (l.length - k) with h | h
  · rw [List.getElem?_append_left (by rw [List.length_drop]; exact h), List.getElem?_drop, Nat.mod_eq_of_lt (by omega), Nat.add_comm]
    exact at_some (by omega)
  · rw [List.getElem?_append_right (by rw [List.length_drop]; exact h), List.length_drop, List.getElem?_take_of_lt (by omega), Nat.mod_eq_sub_mod (by omega), Nat.mod_eq_of_lt (by omega), show i - (l.length - k) = i + k - l.length by omega]
    exact at_some (by omega)
theorem mod_next (i k n : Nat) : ((i + 1) % n + k) % n = ((i + k) % n + 1) % n := by
  rw [Nat.mod_add_mod, Nat.mod_add_mod]
  congr 1
  omega
theorem mod_prev {i k n : Nat} (hn : 0 < n) : ((i + n - 1) % n + k) % n = ((i + k) % n + n - 1) % n := by
  rw [Nat.mod_add_mod, show (i + k) % n + n - 1 = (i + k) % n + (n - 1) by omega, Nat.mod_add_mod]
  congr 1
  omega
theorem rot_turn {l : List Pt} {k i : Nat} (hk : k ≤ l.length) (hi : i < l.length) : turnI (rotL l k) i = turnI l ((i + k) % l.length) := by
  have hn : 0 < l.length := by omega
  unfold turnI
  rw [rot_len hk, rot_at hk (Nat.mod_lt _ hn), rot_at hk hi, rot_at hk (Nat.mod_lt _ hn), mod_next, mod_prev hn]
theorem rot_edge {l : List Pt} {k i : Nat} (hk : k ≤ l.length) (hi : i < l.length) : edgeP (rotL l k) i = edgeP l ((i + k) % l.length) := by
  have hn : 0 < l.length := by omega
  unfold edgeP
  rw [rot_len hk, rot_at hk hi, rot_at hk (Nat.mod_lt _ hn), mod_next]
theorem rot_back {n k j : Nat} (hk : k ≤ n) (hj : j < n) : (j + n - k) % n < n ∧ ((j + n - k) % n + k) % n = j := by
  refine ⟨Nat.mod_lt _ (by omega), ?_⟩
  rw [Nat.mod_add_mod, show j + n - k + k = j + n by omega, Nat.add_mod_right, Nat.mod_eq_of_lt hj]
theorem rot_all {n k : Nat} (hk : k ≤ n) (P : Nat → Prop) : (∀ i, i < n → P ((i + k) % n)) ↔ ∀ i, i < n → P i := by
  constructor
  · intro h j hj
    obtain ⟨h1, h2⟩ := rot_back hk hj
    have := h _ h1
    rwa [h2] at this
  · intro h i hi
    exact h _ (Nat.mod_lt _ (by omega))
theorem rot_allW {l : List Pt} {k : Nat} (hk : k ≤ l.length) : allW (rotL l k) = allW l := by
  apply Bool.eq_iff_iff.2
  unfold allW
  rw [allTo_iff, allTo_iff, rot_len hk, ← rot_all hk fun i => wOk (at_ l i) = true]
  exact ⟨fun h i hi => by rw [← rot_at hk hi]; exact h i hi, fun h i hi => by rw [rot_at hk hi]; exact h i hi⟩
theorem rot_turns {l : List Pt} {k : Nat} (hk : k ≤ l.length) : turnsP (rotL l k) = turnsP l := by
  apply Bool.eq_iff_iff.2
  unfold turnsP
  rw [allTo_iff, allTo_iff, rot_len hk, ← rot_all hk fun i => (!(turnI l i == 0)) = true]
  exact ⟨fun h i hi => by rw [← rot_turn hk hi]; exact h i hi, fun h i hi => by rw [rot_turn hk hi]; exact h i hi⟩

def sumTo (f : Nat → Int) : Nat → Int
  | 0 => 0
  | k + 1 => sumTo f k + f k
theorem sum_ext {f g : Nat → Int} : ∀ {k : Nat}, (∀ i, i < k → f i = g i) → sumTo f k = sumTo g k
  | 0, _ => rfl
  | k + 1, h => by
    show sumTo f k + f k = sumTo g k + g k
    rw [sum_ext fun i hi => h i (by omega), h k (by omega)]
theorem sum_shift (g : Nat → Int) : ∀ k, sumTo (fun i => g (i + 1)) k + g 0 = sumTo g (k + 1)
  | 0 => rfl
  | k + 1 => by
    show sumTo (fun i => g (i + 1)) k + g (k + 1) + g 0 = sumTo g (k + 1) + g (k + 1)
    rw [← sum_shift g k]
    omega
theorem sum_one (g : Nat → Int) (n : Nat) : sumTo (fun i => g ((i + 1) % n)) n = sumTo g n := by
  cases n with
  | zero => rfl
  | succ n =>
    rw [← sum_shift g n]
    show sumTo (fun i => g ((i + 1) % (n + 1))) n + g ((n + 1) % (n + 1)) = _
    rw [Nat.mod_self, sum_ext (g := fun i => g (i + 1)) fun i hi => by rw [Nat.mod_eq_of_lt (by omega)]]
theorem sum_rot (g : Nat → Int) (n : Nat) : ∀ k, sumTo (fun i => g ((i + k) % n)) n = sumTo g n
  | 0 => sum_ext fun i hi => by rw [Nat.add_zero, Nat.mod_eq_of_lt hi]
  | k + 1 => by
    rw [← sum_rot g n k, ← sum_one (fun i => g ((i + k) % n)) n]
    refine sum_ext fun i hi => ?_
    rw [Nat.mod_add_mod]
    congr 2
    omega
def crossAt (l : List Pt) (i : Nat) : Int := crossP (at_ l i) (at_ l ((i + 1) % l.length))
theorem area_sum (l : List Pt) : ∀ k, areaTo l k = w64 (sumTo (crossAt l) k)
  | 0 => (w64_id (n := 0) ⟨by omega, by omega⟩).symm
  | k + 1 => by
    show w64 (areaTo l k + crossAt l k) = w64 (sumTo (crossAt l) k + crossAt l k)
    rw [area_sum l k, w64_addl]
theorem rot_area {l : List Pt} {k : Nat} (hk : k ≤ l.length) : areaP (rotL l k) = areaP l := by
  unfold areaP
  rw [area_sum, area_sum, rot_len hk, ← sum_rot (crossAt l) l.length k]
  congr 1
  refine sum_ext fun i hi => ?_
  unfold crossAt
  rw [rot_len hk, rot_at hk hi, rot_at hk (Nat.mod_lt _ (by omega)), mod_next]
theorem apart_comm (e f : Ed) : apartE e f = apartE f e := by
  unfold apartE
  rw [Bool.or_comm (decide (max e.1.1 e.2.1 < _)), Bool.or_assoc, Bool.or_comm (decide (max e.1.2 e.2.2 < _)), ← Bool.or_assoc]
theorem kind_comm (e f : Ed) : kindE e f = kindE f e := (way_swap ..).1
def Simple (l : List Pt) : Prop := ∀ i j, i < l.length → j < l.length → i ≠ j → (i + 1) % l.length ≠ j → (j + 1) % l.length ≠ i → apartE (edgeP l i) (edgeP l j) = true ∨ kindE (edgeP l i) (edgeP l j) = 0
theorem simple_iff (l : List Pt) : simpleP l = true ↔ Simple l := by
  unfold simpleP
  rw [allTo_iff]
  constructor
  · intro h
    have hlt : ∀ i j, i < l.length → j < l.length → i < j → (i + 1) % l.length ≠ j → (j + 1) % l.length ≠ i → apartE (edgeP l i) (edgeP l j) = true ∨ kindE (edgeP l i) (edgeP l j) = 0 := fun i j hi hj hij h1 h2 => by
      have := allTo_iff.1 (h i hi) j hj
      unfold pairOk at this
      have c1 : ¬ j < i + 2 := by
        intro c
        apply h1
        rw [Nat.mod_eq_of_lt (by omega)]
        omega
      simp [c1, h2] at this
      exact this
    intro i j hi hj hne h1 h2
    rcases Nat.lt_or_gt_of_ne hne with c | c
    · exact hlt i j hi hj c h1 h2
    · rw [apart_comm, kind_comm]
      exact hlt j i hj hi c h2 h1
  · intro h i hi
    refine allTo_iff.2 fun j hj => ?_
    unfold pairOk
    by_cases c1 : j < i + 2
    · simp [c1]
    · by_cases c2 : (j + 1) % l.length = i
      · simp [c2]
      · have := h i j hi hj (by omega) (by
          intro e
          rcases Nat.lt_or_ge (i + 1) l.length with c | c
          · rw [Nat.mod_eq_of_lt c] at e; omega
          · omega) c2
        simp [c1, c2]
        exact this
theorem rot_inj {n k i j : Nat} (hi : i < n) (hj : j < n) (h : (i + k) % n = (j + k) % n) : i = j := by
  have h2 := congrArg (fun z => (z + (n - k % n)) % n) h
  simp only [Nat.mod_add_mod] at h2
  have e : ∀ a, a < n → (a + k + (n - k % n)) % n = a := fun a ha => by
    have hk := Nat.mod_lt k (show 0 < n by omega)
    have hd := Nat.div_add_mod k n
    rw [show a + k + (n - k % n) = a + n + n * (k / n) by omega, Nat.add_mul_mod_self_left, Nat.add_mod_right, Nat.mod_eq_of_lt ha]
  rwa [e i hi, e j hj] at h2
theorem rot_simple {l : List Pt} {k : Nat} (hk : k ≤ l.length) (h : Simple l) : Simple (rotL l k) := by
  intro i j hi hj hne h1 h2
  rw [rot_len hk] at hi hj h1 h2
  have hn : 0 < l.length := by omega
  rw [rot_edge hk hi, rot_edge hk hj]
  refine h _ _ (Nat.mod_lt _ hn) (Nat.mod_lt _ hn) (fun e => hne (rot_inj hi hj e)) (fun e => h1 ?_) (fun e => h2 ?_)
  · rw [← mod_next] at e
    exact rot_inj (Nat.mod_lt _ hn) hj e
  · rw [← mod_next] at e
    exact rot_inj (Nat.mod_lt _ hn) hi e
theorem rot_valid {l : List Pt} {k : Nat} (hk : k ≤ l.length) (h : validR l = true) : validR (rotL l k) = true := by
  unfold validR at h ⊢
  rw [rot_len hk, rot_allW hk, rot_turns hk, rot_area hk]
  simp only [Bool.and_eq_true] at h ⊢
  exact ⟨h.1, (simple_iff _).2 (rot_simple hk ((simple_iff _).1 h.2))⟩

/-- a ring that begins with its least vertex is its own canonical ring -/
theorem low_zero {l : List Pt} : ∀ {k : Nat}, (∀ j, j < k → ¬ ltV (at_ l j) (at_ l 0)) → lowTo l k = 0
  | 0, _ => rfl
  | k + 1, h => by
    have := low_zero (l := l) (k := k) fun j hj => h j (by omega)
    unfold lowTo
    rw [this]
    exact if_neg (h k (by omega))
theorem begin_again {l : List Pt} (hl : 0 < l.length) : beginL (beginL l) = beginL l := by
  have hlow : low l < l.length := lowTo_lt hl
  have hk := Nat.le_of_lt hlow
  have h0 : low (beginL l) = 0 := by
    unfold low
    refine low_zero fun j hj => ?_
    unfold beginL at hj ⊢
    rw [rot_len hk] at hj
    rw [rot_at hk hj, rot_at hk hl, Nat.zero_add, Nat.mod_eq_of_lt hlow]
    exact (lowTo_is (l := l) (k := l.length) _ (Nat.mod_lt _ hl)).1
  show rotL (beginL l) (low (beginL l)) = beginL l
  rw [h0]
  unfold rotL
  rw [List.drop_zero, List.take_zero, List.append_nil]
theorem turn_same (a b : Pt) : turnP a b b = 0 := by
  unfold turnP turnV
  rw [show (b.1 - a.1) * (b.2 - a.2) - (b.2 - a.2) * (b.1 - a.1) = 0 by rw [Int.mul_comm]; omega]
  decide +kernel
theorem no_spare {l : List Pt} (h : turnsP l = true) : need l = l.length := by
  refine need_of (Nat.le_refl _) (fun j hj => ?_) fun c => absurd c (Nat.lt_irrefl _)
  have ht := allTo_iff.1 h j hj
  unfold spare
  rw [Bool.or_eq_false_iff]
  refine ⟨?_, by simpa using ht⟩
  rw [Bool.eq_false_iff]
  intro e
  have e := eq_of_beq e
  unfold turnI at ht
  rw [← e, turn_same] at ht
  simp at ht
theorem valid_parts {l : List Pt} (h : validR l = true) : 3 ≤ l.length ∧ l.length ≤ 40 ∧ allW l = true ∧ turnsP l = true ∧ 0 < areaP l := by
  unfold validR at h
  simp only [Bool.and_eq_true, decide_eq_true_eq] at h
  exact ⟨h.1.1.1.1.1, h.1.1.1.1.2, h.1.1.1.2, h.1.1.2, h.1.2⟩
theorem clean_valid {l : List Pt} (h : validR l = true) : cleanR l = (beginL l, 0) := by
  obtain ⟨h1, h2, h3, h4, h5⟩ := valid_parts h
  have hc : cleanL l = l := clean_end (by rw [no_spare h4]; exact Nat.lt_irrefl _)
  have ht : turnedL l = l := if_neg (by omega)
  unfold cleanR
  rw [if_neg (by omega), h3, hc, ht, h]
  rfl
theorem clean_result {l : List Pt} (h : (cleanR l).2 = 0) : validR (cleanR l).1 = true ∧ cleanR (cleanR l).1 = ((cleanR l).1, 0) ∧ canonR (cleanR l).1 = (cleanR l).1 := by
  unfold cleanR at h
  split at h
  · cases h
  · rename_i h200
    split at h
    · cases h
    · rename_i hw
      split at h
      · cases h
      · rename_i hv
        have hv : validR (turnedL (cleanL l)) = true := by simpa using hv
        have e : cleanR l = (beginL (turnedL (cleanL l)), 0) := by
          unfold cleanR
          rw [if_neg h200, if_neg hw, hv]
          rfl
        rw [e]
        have h3 := (valid_parts hv).1
        have hb : validR (beginL (turnedL (cleanL l))) = true := rot_valid (Nat.le_of_lt (lowTo_lt (by omega))) hv
        refine ⟨hb, ?_, ?_⟩
        · rw [clean_valid hb, begin_again (by omega)]
        · unfold canonR
          rw [hb]
          exact begin_again (by omega)
theorem clean_none {l : List Pt} (h : (cleanR l).2 ≠ 0) : (cleanR l).1 = [] := by
  unfold cleanR at h ⊢
  split at h
  · rename_i c; rw [if_pos c]
  · rename_i c
    rw [if_neg c]
    split at h
    · rename_i c2; rw [if_pos c2]
    · rename_i c2
      rw [if_neg c2]
      split at h
      · rename_i c3; rw [if_pos c3]
      · exact absurd rfl h
end Go.Proofs.Ytahamffngmdjfaa.G

namespace Go.Proofs.Ytahamffngmdjfaa.G
open Go.RowKit Go.Proofs.Ytahamffngmdjfaa.V Go.Proofs.Ytahamffngmdjfaa.W

/-- the edge, its lower end first -/
def upE (e : Ed) : Ed := if lessV e.2.1 e.2.2 e.1.1 e.1.2 then (e.2, e.1) else e
def onU (e : Ed) (x y d : Int) : Bool := (sideP e x y d == 0) && !lessV x y (e.1.1 * d) (e.1.2 * d) && !lessV (e.2.1 * d) (e.2.2 * d) x y
def crU (e : Ed) (x y d : Int) : Bool := decide (0 < sideP e x y d) && decide (e.1.2 * d ≤ y) && decide (y < e.2.2 * d)
theorem side_turn (a b : Pt) (x y d : Int) : sideP (b, a) x y d = -sideP (a, b) x y d := by unfold sideP; grind
theorem on_turn (a b : Pt) (x y d : Int) : onP (b, a) x y d = onP (a, b) x y d := by
  unfold onP
  rw [side_turn, Int.min_comm, Int.max_comm, Int.min_comm b.2, Int.max_comm b.2]
  congr 1
  apply Bool.eq_iff_iff.2
  simp only [beq_iff_eq]
  omega
theorem cross_turn (a b : Pt) (x y d : Int) : crossesP (b, a) x y d = crossesP (a, b) x y d := by
  unfold crossesP upP downP
  rw [side_turn]
  apply Bool.eq_iff_iff.2
  simp only [Bool.or_eq_true, Bool.and_eq_true, decide_eq_true_eq]
  omega
theorem le_of_mul {k a b : Int} (hk : 0 < k) (h : k * a ≤ k * b) : a ≤ b := Int.le_of_mul_le_mul_left h hk
theorem on_low {ax ay bx bz x y d : Int} (hd : 0 < d) (hl : ay < bz ∨ ay = bz ∧ ax ≤ bx) : onU ((ax, ay), (bx, bz)) x y d = onP ((ax, ay), (bx, bz)) x y d := by
  apply Bool.eq_iff_iff.2
  unfold onU onP sideP lessV
  simp only [Bool.and_eq_true, Bool.not_eq_true', Bool.or_eq_false_iff, Bool.and_eq_false_iff, decide_eq_false_iff_not, decide_eq_true_eq, beq_iff_eq]
  rcases hl with hl | ⟨rfl, hl⟩
  · rw [Int.min_eq_left (Int.le_of_lt hl), Int.max_eq_right (Int.le_of_lt hl)]
    have hh : ay * d < bz * d := Int.mul_lt_mul_of_pos_right hl hd
    constructor
    · rintro ⟨⟨h0, h1⟩, h2⟩
      have t1 : ay * d ≤ y := by omega
      have t2 : y ≤ bz * d := by omega
      have q1 : 0 ≤ y - ay * d := by omega
      have q2 : y - ay * d ≤ (bz - ay) * d := by rw [Int.sub_mul]; omega
      have hk : 0 < bz - ay := by omega
      have e : (bz - ay) * (x - ax * d) = (bx - ax) * (y - ay * d) := by omega
      rcases Int.le_total ax bx with hx | hx
      · rw [Int.min_eq_left hx, Int.max_eq_right hx]
        have p1 : 0 ≤ (bx - ax) * (y - ay * d) := Int.mul_nonneg (by omega) q1
        have p2 : (bx - ax) * (y - ay * d) ≤ (bx - ax) * ((bz - ay) * d) := Int.mul_le_mul_of_nonneg_left q2 (by omega)
        have r1 : 0 ≤ x - ax * d := le_of_mul hk (by rw [Int.mul_zero, e]; exact p1)
        have r2 : x - ax * d ≤ (bx - ax) * d := le_of_mul hk (by rw [e]; refine Int.le_trans p2 (Int.le_of_eq ?_); grind)
        rw [Int.sub_mul] at r2
        exact ⟨⟨⟨⟨by omega, by omega⟩, t1⟩, t2⟩, h0⟩
      · rw [Int.min_eq_right hx, Int.max_eq_left hx]
        have p1 : (bx - ax) * (y - ay * d) ≤ 0 := Int.mul_nonpos_of_nonpos_of_nonneg (by omega) q1
        have p2 : (bx - ax) * ((bz - ay) * d) ≤ (bx - ax) * (y - ay * d) := Int.mul_le_mul_of_nonpos_left (by omega) q2
        have r1 : x - ax * d ≤ 0 := le_of_mul hk (by rw [Int.mul_zero, e]; exact p1)
        have r2 : (bx - ax) * d ≤ x - ax * d := le_of_mul hk (by rw [e]; refine Int.le_trans (Int.le_of_eq ?_) p2; grind)
        rw [Int.sub_mul] at r2
        exact ⟨⟨⟨⟨by omega, by omega⟩, t1⟩, t2⟩, h0⟩
    · rintro ⟨⟨⟨⟨h1, h2⟩, h3⟩, h4⟩, h0⟩
      refine ⟨⟨h0, by omega, ?_⟩, by omega, ?_⟩
      · rcases Int.lt_or_eq_of_le h3 with h | h
        · exact .inl (by omega)
        · have e : (bz - ay) * (x - ax * d) = 0 := by rw [← h, Int.sub_self, Int.mul_zero] at h0; omega
          rcases Int.mul_eq_zero.1 e with e | e
          · omega
          · exact .inr (by omega)
      · rcases Int.lt_or_eq_of_le h4 with h | h
        · exact .inl (by omega)
        · have e : (bz - ay) * (x - bx * d) = 0 := by
            rw [h] at h0
            have e2 : (bx - ax) * (bz * d - ay * d) - (bz - ay) * (x - ax * d) = -((bz - ay) * (x - bx * d)) := by grind
            omega
          rcases Int.mul_eq_zero.1 e with e | e
          · omega
          · exact .inr (by omega)
  · rw [Int.min_eq_left hl, Int.max_eq_right hl, Int.min_self, Int.max_self, Int.sub_self, Int.zero_mul]
    constructor
    · rintro ⟨⟨h0, h1⟩, h2⟩
      exact ⟨⟨⟨⟨by omega, by omega⟩, by omega⟩, by omega⟩, h0⟩
    · rintro ⟨⟨⟨⟨h1, h2⟩, h3⟩, h4⟩, h0⟩
      exact ⟨⟨h0, by omega, by omega⟩, by omega, by omega⟩
theorem cr_low {ax ay bx bz x y d : Int} (hd : 0 < d) (hl : ay < bz ∨ ay = bz ∧ ax ≤ bx) : crU ((ax, ay), (bx, bz)) x y d = crossesP ((ax, ay), (bx, bz)) x y d := by
  apply Bool.eq_iff_iff.2
  unfold crU crossesP upP downP
  simp only [Bool.and_eq_true, Bool.or_eq_true, decide_eq_true_eq]
  have h : ay * d ≤ bz * d := Int.mul_le_mul_of_nonneg_right (by omega) (Int.le_of_lt hd)
  omega
theorem up_low (e : Ed) : (upE e).1.2 < (upE e).2.2 ∨ (upE e).1.2 = (upE e).2.2 ∧ (upE e).1.1 ≤ (upE e).2.1 := by
  unfold upE
  by_cases h : lessV e.2.1 e.2.2 e.1.1 e.1.2 = true
  · rw [if_pos h]
    have := (ltV_iff e.2 e.1).1 h
    show e.2.2 < e.1.2 ∨ e.2.2 = e.1.2 ∧ e.2.1 ≤ e.1.1
    omega
  · rw [if_neg h]
    have : ¬ (e.2.2 < e.1.2 ∨ e.2.2 = e.1.2 ∧ e.2.1 < e.1.1) := fun hh => h ((ltV_iff e.2 e.1).2 hh)
    omega
theorem on_up (e : Ed) {x y d : Int} (hd : 0 < d) : onU (upE e) x y d = onP e x y d := by
  rw [show upE e = (((upE e).1.1, (upE e).1.2), ((upE e).2.1, (upE e).2.2)) from rfl, on_low hd (up_low e)]
  show onP (upE e) x y d = _
  unfold upE
  split
  · exact on_turn _ _ _ _ _
  · rfl
theorem cr_up (e : Ed) {x y d : Int} (hd : 0 < d) : crU (upE e) x y d = crossesP e x y d := by
  rw [show upE e = (((upE e).1.1, (upE e).1.2), ((upE e).2.1, (upE e).2.2)) from rfl, cr_low hd (up_low e)]
  show crossesP (upE e) x y d = _
  unfold upE
  split
  · exact cross_turn _ _ _ _ _
  · rfl
/-- the wrapped numbers are the numbers themselves -/
structure PtOk (x y d : Int) : Prop where
  d1 : 1 ≤ d
  d2 : d ≤ 134217728
  x1 : -536870912000 ≤ x
  x2 : x ≤ 536870912000
  y1 : -536870912000 ≤ y
  y2 : y ≤ 536870912000
theorem pt_ok {x y d : Int} (h : validP x y d = true) : PtOk x y d := by
  unfold validP at h
  rw [Bool.and_eq_true] at h
  obtain ⟨⟨h1, h2⟩, ⟨h3, h4, h5, h6⟩, h7, h8⟩ := in_mid (m := 4000) (by omega) h.1
  exact ⟨h1, h2, by omega, by omega, by omega, by omega⟩
theorem scaled {p : Pt} (hp : wOk p = true) {x y d : Int} (h : PtOk x y d) : (-268435456000 ≤ p.1 * d ∧ p.1 * d ≤ 268435456000 ∧ -268435456000 ≤ p.2 * d ∧ p.2 * d ≤ 268435456000) ∧ w64 (d * p.1) = p.1 * d ∧ w64 (d * p.2) = p.2 * d ∧ w64 (p.1 * d) = p.1 * d ∧ w64 (p.2 * d) = p.2 * d := by
  obtain ⟨g1, g2, g3, g4⟩ := (w_lm hp).1
  obtain ⟨d1, d2⟩ := And.intro h.d1 h.d2
  have a1 := abs_le_mul (x := p.1) (y := d) (A := 2000) (B := 134217728) (by omega) (by omega)
  have a2 := abs_le_mul (x := p.2) (y := d) (A := 2000) (B := 134217728) (by omega) (by omega)
  rw [Int.mul_comm d, Int.mul_comm d]
  exact ⟨by omega, w64_id ⟨by omega, by omega⟩, w64_id ⟨by omega, by omega⟩, w64_id ⟨by omega, by omega⟩, w64_id ⟨by omega, by omega⟩⟩
theorem side_cross {e : Ed} (h1 : wOk e.1 = true) (h2 : wOk e.2 = true) {x y d : Int} (h : PtOk x y d) : crossV (w64 (e.2.1 - e.1.1)) (w64 (e.2.2 - e.1.2)) (w64 (x - e.1.1 * d)) (w64 (y - e.1.2 * d)) = sideP e x y d := by
  obtain ⟨⟨b1, b2, b3, b4⟩, _⟩ := scaled h1 h
  obtain ⟨g1, g2, g3, g4⟩ := (w_lm h1).1
  obtain ⟨k1, k2, k3, k4⟩ := (w_lm h2).1
  obtain ⟨_, _, x1, x2, y1, y2⟩ := h
  rw [w64_id (n := e.2.1 - e.1.1) ⟨by omega, by omega⟩, w64_id (n := e.2.2 - e.1.2) ⟨by omega, by omega⟩, w64_id (n := x - e.1.1 * d) ⟨by omega, by omega⟩, w64_id (n := y - e.1.2 * d) ⟨by omega, by omega⟩]
  have a1 := abs_le_mul (x := e.2.1 - e.1.1) (y := y - e.1.2 * d) (A := 4000) (B := 900000000000) (by omega) (by omega)
  have a2 := abs_le_mul (x := e.2.2 - e.1.2) (y := x - e.1.1 * d) (A := 4000) (B := 900000000000) (by omega) (by omega)
  unfold crossV sideP
  exact w64_id ⟨by omega, by omega⟩
end Go.Proofs.Ytahamffngmdjfaa.G

namespace Go.Proofs.Ytahamffngmdjfaa.G
open Go.RowKit Go.Proofs.Ytahamffngmdjfaa.V Go.Proofs.Ytahamffngmdjfaa.W

theorem sum_add (f g : Nat → Int) : ∀ k, sumTo (fun i => f i + g i) k = sumTo f k + sumTo g k
  | 0 => rfl
  | k + 1 => by
    show sumTo (fun i => f i + g i) k + (f k + g k) = sumTo f k + f k + (sumTo g k + g k)
    rw [sum_add f g k]
    omega
theorem sum_mul (c : Int) (f : Nat → Int) : ∀ k, sumTo (fun i => c * f i) k = c * sumTo f k
  | 0 => (Int.mul_zero c).symm
  | k + 1 => by
    show sumTo (fun i => c * f i) k + c * f k = c * (sumTo f k + f k)
    rw [sum_mul c f k, Int.mul_add]
theorem sum_even (f g : Nat → Int) (h : ∀ i, ∃ c, f i = g i + 2 * c) : ∀ k, ∃ c, sumTo f k = sumTo g k + 2 * c
  | 0 => ⟨0, rfl⟩
  | k + 1 => by
    obtain ⟨a, ha⟩ := sum_even f g h k
    obtain ⟨b, hb⟩ := h k
    refine ⟨a + b, ?_⟩
    show sumTo f k + f k = sumTo g k + g k + 2 * (a + b)
    rw [ha, hb]
    omega
/-- 1 where it holds -/
def ind (b : Bool) : Int := if b then 1 else 0
theorem filter_sum (p : Nat → Bool) : ∀ n, (((List.range n).filter p).length : Int) = sumTo (fun i => ind (p i)) n
  | 0 => rfl
  | n + 1 => by
    rw [List.range_succ, List.filter_append, List.length_append]
    show _ = sumTo (fun i => ind (p i)) n + ind (p n)
    rw [← filter_sum p n]
    cases h : p n <;> simp [ind, h]
/-- around a ring, a mark changes an even number of times -/
theorem around_even (F : Nat → Bool) (n : Nat) : ∃ c, sumTo (fun i => ind (F i != F ((i + 1) % n))) n = 2 * c := by
  obtain ⟨c, hc⟩ := sum_even (fun i => ind (F i != F ((i + 1) % n))) (fun i => ind (F ((i + 1) % n)) + -1 * ind (F i)) (fun i => by
    cases F i <;> cases F ((i + 1) % n) <;> simp [ind]
    · exact ⟨0, rfl⟩
    · exact ⟨0, rfl⟩
    · exact ⟨1, rfl⟩
    · exact ⟨0, rfl⟩) n
  rw [sum_add, sum_mul, sum_one (fun i => ind (F i))] at hc
  exact ⟨c, by rw [hc]; omega⟩
theorem count_sum {l : List Pt} (h2 : ¬ l.length < 2) (x y d : Int) : (countP (edgesP l) x y d : Int) = sumTo (fun i => ind (crossesP (edgeP l i) x y d)) l.length := by
  unfold countP edgesP
  rw [if_neg h2, List.filter_map, List.length_map]
  exact filter_sum _ _
theorem any_iff {l : List Pt} (h2 : ¬ l.length < 2) (x y d : Int) : anyOn (edgesP l) x y d = true ↔ ∃ i, i < l.length ∧ onP (edgeP l i) x y d = true := by
  unfold anyOn edgesP
  rw [if_neg h2, List.any_eq_true]
  constructor
  · rintro ⟨e, he, h⟩
    obtain ⟨i, hi, rfl⟩ := List.mem_map.1 he
    exact ⟨i, List.mem_range.1 hi, h⟩
  · rintro ⟨i, hi, h⟩
    exact ⟨_, List.mem_map.2 ⟨i, List.mem_range.2 hi, rfl⟩, h⟩

theorem side_out {a b : Pt} {X Y : Int} (ha : a.1 < X) (hb : b.1 < X) (h : a.2 ≤ Y ∧ Y < b.2) : sideP (a, b) X Y 1 < 0 := by
  unfold sideP
  simp only [Int.mul_one]
  have h1 : (b.2 - a.2) * (X - a.1) > 0 := Int.mul_pos (by omega) (by omega)
  rcases Int.le_total b.1 a.1 with c | c
  · have := Int.mul_nonpos_of_nonpos_of_nonneg (show b.1 - a.1 ≤ 0 by omega) (show 0 ≤ Y - a.2 by omega)
    omega
  · have e1 : (b.1 - a.1) * (Y - a.2) ≤ (b.1 - a.1) * (b.2 - a.2) := Int.mul_le_mul_of_nonneg_left (by omega) (by omega)
    have e2 : (b.2 - a.2) * (b.1 - a.1) < (b.2 - a.2) * (X - a.1) := Int.mul_lt_mul_of_pos_left (by omega) (by omega)
    rw [Int.mul_comm (b.2 - a.2) (b.1 - a.1)] at e2
    omega
theorem side_in {a b : Pt} {X Y : Int} (ha : X < a.1) (hb : X < b.1) (h : a.2 ≤ Y ∧ Y < b.2) : 0 < sideP (a, b) X Y 1 := by
  have := side_out (a := (-a.1, a.2)) (b := (-b.1, b.2)) (X := -X) (Y := Y) (by simp; omega) (by simp; omega) h
  unfold sideP at this ⊢
  simp only [Int.mul_one] at this ⊢
  have e : (-b.1 - -a.1) * (Y - a.2) - (b.2 - a.2) * (-X - -a.1) = -((b.1 - a.1) * (Y - a.2) - (b.2 - a.2) * (X - a.1)) := by grind
  omega
/-- a point beyond the limits of a list lies on no edge, and the count is even -/
theorem beyond {l : List Pt} (h3 : 3 ≤ l.length) (hw : allW l = true) {X Y : Int} (h : X < -2000 ∨ 2000 < X ∨ Y < -2000 ∨ 2000 < Y) : anyOn (edgesP l) X Y 1 = false ∧ countP (edgesP l) X Y 1 % 2 = 0 := by
  have hb : ∀ i, i < l.length → (-2000 ≤ (at_ l i).1 ∧ (at_ l i).1 ≤ 2000 ∧ -2000 ≤ (at_ l i).2 ∧ (at_ l i).2 ≤ 2000) := fun i hi => (w_lm (allTo_iff.1 hw i hi)).1
  have hn : 0 < l.length := by omega
  constructor
  · rw [← Bool.not_eq_true, any_iff (by omega)]
    rintro ⟨i, hi, ho⟩
    have a := hb i hi
    have b := hb ((i + 1) % l.length) (Nat.mod_lt _ hn)
    unfold onP edgeP at ho
    simp only [Bool.and_eq_true, decide_eq_true_eq, Int.mul_one] at ho
    omega
  · have hs := count_sum (l := l) (by omega) X Y 1
    have hz : ∀ (c : Int), sumTo (fun i => ind (crossesP (edgeP l i) X Y 1)) l.length = 2 * c → countP (edgesP l) X Y 1 % 2 = 0 := fun c hc => by
      rw [hc] at hs
      omega
    have hno : (∀ i, i < l.length → crossesP (edgeP l i) X Y 1 = false) → countP (edgesP l) X Y 1 % 2 = 0 := fun hc => hz 0 (by
      rw [sum_ext (g := fun _ => 0) fun i hi => by rw [hc i hi]; rfl]
      have := sum_mul 0 (fun _ => 0) l.length
      simpa using this)
    by_cases hx : X < -2000
    · obtain ⟨c, hc⟩ := around_even (fun i => decide ((at_ l i).2 ≤ Y)) l.length
      refine hz c ?_
      rw [← hc]
      refine sum_ext fun i hi => ?_
      have a := hb i hi
      have b := hb ((i + 1) % l.length) (Nat.mod_lt _ hn)
      congr 1
      unfold crossesP upP downP edgeP
      simp only [Int.mul_one]
      generalize at_ l i = p at *
      generalize at_ l ((i + 1) % l.length) = q at *
      by_cases c1 : p.2 ≤ Y <;> by_cases c2 : q.2 ≤ Y
      · have n1 : ¬ Y < p.2 := by omega
        have n2 : ¬ Y < q.2 := by omega
        simp [c1, c2, n1, n2]
      · have n1 : ¬ Y < p.2 := by omega
        have n2 : Y < q.2 := by omega
        have := side_in (a := p) (b := q) (X := X) (Y := Y) (by omega) (by omega) ⟨c1, n2⟩
        simp [c1, c2, n1, n2, this]
      · have n1 : Y < p.2 := by omega
        have n2 : ¬ Y < q.2 := by omega
        have := side_in (a := q) (b := p) (X := X) (Y := Y) (by omega) (by omega) ⟨c2, n1⟩
        rw [show (q, p) = ((q, p) : Ed) from rfl, side_turn] at this
        simp [c1, c2, n1, n2]
        omega
      · have n1 : Y < p.2 := by omega
        have n2 : Y < q.2 := by omega
        simp [c1, c2, n1, n2]
    · refine hno fun i hi => ?_
      have a := hb i hi
      have b := hb ((i + 1) % l.length) (Nat.mod_lt _ hn)
      rw [Bool.eq_false_iff]
      intro hc
      unfold crossesP upP downP edgeP at hc
      simp only [Int.mul_one, Bool.or_eq_true, Bool.and_eq_true, decide_eq_true_eq] at hc
      generalize at_ l i = p at *
      generalize at_ l ((i + 1) % l.length) = q at *
      rcases hc with ⟨⟨c1, c2⟩, c3⟩ | ⟨⟨c1, c2⟩, c3⟩
      · have := side_out (a := p) (b := q) (X := X) (Y := Y) (by omega) (by omega) ⟨c1, c2⟩
        omega
      · have := side_out (a := q) (b := p) (X := X) (Y := Y) (by omega) (by omega) ⟨c1, c2⟩
        rw [side_turn] at this
        omega
end Go.Proofs.Ytahamffngmdjfaa.G

namespace Go.Proofs.Ytahamffngmdjfaa.G
open Go.RowKit Go.Proofs.Ytahamffngmdjfaa.V Go.Proofs.Ytahamffngmdjfaa.W

theorem simple_of {l : List Pt} (hv : validR l = true) : Simple l := (simple_iff l).1 (by unfold validR at hv; simp only [Bool.and_eq_true] at hv; exact hv.2)
theorem next_ne {l : List Pt} (hv : validR l = true) {i : Nat} (hi : i < l.length) : at_ l i ≠ at_ l ((i + 1) % l.length) := by
  obtain ⟨h3, h40, hwl, ht, ha⟩ := valid_parts hv
  have h := no_spare ht
  obtain ⟨_, hb, _⟩ := need_is (l := l)
  have := hb i (by rw [h]; exact hi)
  unfold spare at this
  rw [Bool.or_eq_false_iff] at this
  intro e
  rw [e] at this
  simp at this
theorem distinct {l : List Pt} (hv : validR l = true) {i j : Nat} (hi : i < l.length) (hj : j < l.length) (h : at_ l i = at_ l j) : i = j := by
  obtain ⟨h3, h40, hwl, ht, ha⟩ := valid_parts hv
  have hn : 0 < l.length := by omega
  apply Classical.byContradiction
  intro hne
  have h1 : (i + 1) % l.length ≠ j := fun e => next_ne hv hi (by rw [h, e])
  have h2 : (j + 1) % l.length ≠ i := fun e => next_ne hv hj (by rw [← h, e])
  have hk : kindE (edgeP l i) (edgeP l j) = 0 := by
    rcases simple_of hv i j hi hj hne h1 h2 with c | c
    · exact kind_apart c (edge_valid hwl hi) (edge_valid hwl hj)
    · exact c
  have v1 := edge_valid hwl hi
  have v2 := edge_valid hwl hj
  have hl := (w_lm (allTo_iff.1 hwl i hi)).2
  have hc := common0 v1 v2 hl hk
  rw [← Bool.not_eq_true] at hc
  apply hc
  rw [both_iff v1 v2 hl]
  refine ⟨on_end_l, ?_⟩
  show On (at_ l j).1 (at_ l j).2 _ _ (at_ l i).1 (at_ l i).2
  rw [h]
  exact on_end_l
theorem rot_mem {l : List Pt} {k : Nat} {z : Pt} : z ∈ rotL l k ↔ z ∈ l := by
  unfold rotL
  rw [List.mem_append]
  constructor
  · rintro (h | h)
    · exact List.mem_of_mem_drop h
    · exact List.mem_of_mem_take h
  · intro h
    rw [← List.take_append_drop k l, List.mem_append] at h
    exact h.symm
theorem low_le {l : List Pt} {z : Pt} (h : z ∈ l) : ¬ ltV z (at_ l (low l)) := by
  obtain ⟨i, hi, rfl⟩ := List.mem_iff_getElem.1 h
  have := (lowTo_is (l := l) (k := l.length) i hi).1
  rw [show at_ l i = l[i] from at_of (List.getElem?_eq_getElem hi)] at this
  exact this
/-- two rings, each of which is a rotation of one valid ring to its least vertex, are the same -/
theorem rot_begin {l : List Pt} {k : Nat} (hk : k < l.length) (hv : validR l = true) : beginL (rotL l k) = beginL l := by
  have hkl := Nat.le_of_lt hk
  have hn : 0 < l.length := by omega
  have hq : low (rotL l k) < l.length := by
    have := lowTo_lt (l := rotL l k) (k := (rotL l k).length) (by rw [rot_len hkl]; exact hn)
    unfold low
    rw [rot_len hkl] at this ⊢
    exact this
  have hp : low l < l.length := lowTo_lt hn
  have e : at_ (rotL l k) (low (rotL l k)) = at_ l (low l) := by
    have m1 : at_ (rotL l k) (low (rotL l k)) ∈ l := rot_mem.1 (at_mem (by rw [rot_len hkl]; exact hq))
    have m2 : at_ l (low l) ∈ rotL l k := rot_mem.2 (at_mem hp)
    rcases ltV_tri (at_ (rotL l k) (low (rotL l k))) (at_ l (low l)) with c | c | c
    · exact absurd c (low_le m1)
    · exact c
    · exact absurd c (low_le m2)
  rw [rot_at hkl hq] at e
  have hi := distinct hv (Nat.mod_lt _ hn) hp e
  apply List.ext_getElem?
  intro i
  have l1 : (beginL (rotL l k)).length = l.length := by
    unfold beginL
    rw [rot_len (by rw [rot_len hkl]; exact Nat.le_of_lt hq), rot_len hkl]
  have l2 : (beginL l).length = l.length := rot_len (Nat.le_of_lt hp)
  rcases Nat.lt_or_ge i l.length with c | c
  · rw [at_some (by rw [l1]; exact c), at_some (by rw [l2]; exact c)]
    congr 1
    unfold beginL
    rw [rot_at (by rw [rot_len hkl]; exact Nat.le_of_lt hq) (by rw [rot_len hkl]; exact c), rot_len hkl, rot_at hkl (Nat.mod_lt _ hn), rot_at (Nat.le_of_lt hp) c, ← hi, Nat.mod_add_mod, Nat.add_mod_mod]
    congr 2
    omega
  · rw [List.getElem?_eq_none (by rw [l1]; exact c), List.getElem?_eq_none (by rw [l2]; exact c)]
theorem rot_where {l : List Pt} {k : Nat} (hk : k < l.length) (hv : validR l = true) (x y d : Int) : whereR (rotL l k) x y d = whereR l x y d := by
  have hkl := Nat.le_of_lt hk
  have h3 := (valid_parts hv).1
  have hany : anyOn (edgesP (rotL l k)) x y d = anyOn (edgesP l) x y d := by
    apply Bool.eq_iff_iff.2
    rw [any_iff (by rw [rot_len hkl]; omega), any_iff (by omega), rot_len hkl]
    constructor
    · rintro ⟨i, hi, h⟩
      rw [rot_edge hkl hi] at h
      exact ⟨_, Nat.mod_lt _ (by omega), h⟩
    · rintro ⟨j, hj, h⟩
      obtain ⟨a, b⟩ := rot_back hkl hj
      exact ⟨_, a, by rw [rot_edge hkl a, b]; exact h⟩
  have hcount : countP (edgesP (rotL l k)) x y d = countP (edgesP l) x y d := by
    have h1 := count_sum (l := rotL l k) (by rw [rot_len hkl]; omega) x y d
    have h2 := count_sum (l := l) (by omega) x y d
    rw [rot_len hkl, sum_ext (g := fun i => ind (crossesP (edgeP l ((i + k) % l.length)) x y d)) fun i hi => by rw [rot_edge hkl hi], sum_rot (fun i => ind (crossesP (edgeP l i) x y d))] at h1
    omega
  unfold whereR
  rw [rot_valid hkl hv, hv, hany, hcount]
end Go.Proofs.Ytahamffngmdjfaa.G

namespace Go.Proofs.Ytahamffngmdjfaa.G
open Go.RowKit Go.Proofs.Ytahamffngmdjfaa.V Go.Proofs.Ytahamffngmdjfaa.W

theorem rev_at {l : List Pt} {i : Nat} (hi : i < l.length) : at_ l.reverse i = at_ l (l.length - 1 - i) := by
  apply at_of
  rw [List.getElem?_reverse hi]
  exact at_some (by omega)
theorem rev_next {n i : Nat} (hi : i < n) : n - 1 - (i + 1) % n = (n - 1 - i + n - 1) % n := by
  rcases Nat.lt_or_ge (i + 1) n with h | h
  · rw [Nat.mod_eq_of_lt h, show n - 1 - i + n - 1 = (n - 1 - (i + 1)) + n by omega, Nat.add_mod_right, Nat.mod_eq_of_lt (by omega)]
  · rw [show i + 1 = n by omega, Nat.mod_self, show n - 1 - i + n - 1 = n - 1 by omega, Nat.mod_eq_of_lt (by omega)]
    omega
theorem rev_prev {n i : Nat} (hi : i < n) : n - 1 - (i + n - 1) % n = (n - 1 - i + 1) % n := by
  rcases Nat.eq_zero_or_pos i with h | h
  · subst h
    rw [Nat.zero_add, Nat.mod_eq_of_lt (by omega), show n - 1 - 0 + 1 = n by omega, Nat.mod_self]
    omega
  · rw [show i + n - 1 = (i - 1) + n by omega, Nat.add_mod_right, Nat.mod_eq_of_lt (by omega), Nat.mod_eq_of_lt (by omega)]
    omega
theorem turn_rev {a b c : Pt} (ha : Lm a.1 a.2) (hb : Lm b.1 b.2) (hc : Lm c.1 c.2) : turnP c b a = 0 ↔ turnP a b c = 0 := by
  unfold turnP
  rw [turn_lm hc hb ha, turn_lm ha hb hc, sgn_zero_iff, sgn_zero_iff]
  have : crs c.1 c.2 b.1 b.2 a.1 a.2 = -crs a.1 a.2 b.1 b.2 c.1 c.2 := by unfold crs; grind
  rw [this]
  omega
theorem rev_turns {l : List Pt} (hw : allW l = true) (h : turnsP l = true) : turnsP l.reverse = true := by
  refine allTo_iff.2 fun i hi => ?_
  rw [List.length_reverse] at hi
  have hn : 0 < l.length := by omega
  have hm := fun (a b : Nat) => Nat.mod_lt a hn
  have ht := allTo_iff.1 h (l.length - 1 - i) (by omega)
  have lm := fun j (hj : j < l.length) => (w_lm (allTo_iff.1 hw j hj)).2
  unfold turnI at ht ⊢
  rw [List.length_reverse, rev_at (Nat.mod_lt _ hn), rev_at hi, rev_at (Nat.mod_lt _ hn), rev_next hi, rev_prev hi]
  have hz := turn_rev (a := at_ l ((l.length - 1 - i + l.length - 1) % l.length)) (b := at_ l (l.length - 1 - i)) (c := at_ l ((l.length - 1 - i + 1) % l.length)) (lm _ (Nat.mod_lt _ hn)) (lm _ (by omega)) (lm _ (Nat.mod_lt _ hn))
  simp only [Bool.not_eq_true', beq_eq_false_iff_ne, ne_eq] at ht ⊢
  exact fun e => ht (hz.1 e)
theorem sum_rev (f : Nat → Int) : ∀ n, sumTo (fun i => f (n - 1 - i)) n = sumTo f n
  | 0 => rfl
  | n + 1 => by
    rw [← sum_shift]
    have e := sum_rev f n
    show _ = sumTo f n + f n
    rw [← e]
    congr 1
    refine sum_ext fun i hi => ?_
    congr 1
    omega
theorem cross_neg {a b : Pt} (ha : wOk a = true) (hb : wOk b = true) : crossP b a = -crossP a b ∧ -8000000 ≤ crossP a b ∧ crossP a b ≤ 8000000 := by
  obtain ⟨h1, h2, h3, h4⟩ := (w_lm ha).1
  obtain ⟨g1, g2, g3, g4⟩ := (w_lm hb).1
  have a1 := abs_le_mul (x := a.1) (y := b.2) (A := 2000) (B := 2000) (by omega) (by omega)
  have a2 := abs_le_mul (x := a.2) (y := b.1) (A := 2000) (B := 2000) (by omega) (by omega)
  unfold crossP crossV
  rw [Int.mul_comm b.1, Int.mul_comm b.2]
  rw [w64_id ⟨by omega, by omega⟩, w64_id ⟨by omega, by omega⟩]
  omega
theorem sum_bound {f : Nat → Int} {B : Int} : ∀ {n : Nat}, (∀ i, i < n → -B ≤ f i ∧ f i ≤ B) → -(B * n) ≤ sumTo f n ∧ sumTo f n ≤ B * n
  | 0, _ => by simp [sumTo]
  | n + 1, h => by
    have a := sum_bound (n := n) fun i hi => h i (by omega)
    have b := h n (by omega)
    show -(B * ((n + 1 : Nat) : Int)) ≤ sumTo f n + f n ∧ sumTo f n + f n ≤ B * ((n + 1 : Nat) : Int)
    rw [Int.natCast_succ, Int.mul_add, Int.mul_one]
    omega
theorem rev_area {l : List Pt} (hw : allW l = true) (hl : l.length ≤ 100) : areaP l.reverse = -areaP l := by
  have ok := fun j (hj : j < l.length) => allTo_iff.1 hw j hj
  have hb : ∀ i, i < l.length → -8000000 ≤ crossAt l i ∧ crossAt l i ≤ 8000000 := fun i hi => (cross_neg (ok i hi) (ok _ (Nat.mod_lt _ (by omega)))).2
  have hs := sum_bound hb
  have e : sumTo (crossAt l.reverse) l.length = -sumTo (crossAt l) l.length := by
    rw [sum_ext (g := fun i => -1 * crossAt l ((l.length - 1 - i + l.length - 1) % l.length)) fun i hi => by
      have hn : 0 < l.length := by omega
      unfold crossAt
      rw [List.length_reverse, rev_at hi, rev_at (Nat.mod_lt _ hn), rev_next hi]
      have hq := Nat.mod_lt (l.length - 1 - i + l.length - 1) hn
      rw [show ((l.length - 1 - i + l.length - 1) % l.length + 1) % l.length = l.length - 1 - i by
        rw [Nat.mod_add_mod, show l.length - 1 - i + l.length - 1 + 1 = l.length - 1 - i + l.length by omega, Nat.add_mod_right, Nat.mod_eq_of_lt (by omega)]]
      rw [(cross_neg (ok _ hq) (ok (l.length - 1 - i) (by omega))).1]
      omega]
    rw [sum_mul]
    rw [sum_rev (fun j => crossAt l ((j + l.length - 1) % l.length)) l.length]
    have hrot := sum_rot (crossAt l) l.length (l.length - 1)
    rw [sum_ext (f := fun j => crossAt l ((j + l.length - 1) % l.length)) (g := fun i => crossAt l ((i + (l.length - 1)) % l.length)) fun i hi => by rw [show i + l.length - 1 = i + (l.length - 1) by omega], hrot]
    omega
  unfold areaP
  rw [area_sum, area_sum, List.length_reverse, e]
  have : (8000000 : Int) * (l.length : Int) ≤ 800000000 := by omega
  rw [w64_id ⟨by omega, by omega⟩, w64_id ⟨by omega, by omega⟩]
theorem rev_allW {l : List Pt} (hw : allW l = true) : allW l.reverse = true := allTo_iff.2 fun i hi => by
  rw [List.length_reverse] at hi
  rw [rev_at hi]
  exact allTo_iff.1 hw _ (by omega)
theorem rev_not {l : List Pt} (hv : validR l = true) : validR l.reverse = false := by
  obtain ⟨h3, h40, hwl, ht, ha⟩ := valid_parts hv
  rw [← Bool.not_eq_true]
  intro hc
  have := (valid_parts hc).2.2.2.2
  rw [rev_area hwl (by omega)] at this
  omega
theorem clean_rev {l : List Pt} (hv : validR l = true) : cleanR l.reverse = (beginL l, 0) := by
  obtain ⟨h3, h40, hwl, ht, ha⟩ := valid_parts hv
  have hc : cleanL l.reverse = l.reverse := clean_end (by rw [no_spare (rev_turns hwl ht)]; exact Nat.lt_irrefl _)
  have htl : turnedL l.reverse = l := by
    unfold turnedL
    rw [rev_area hwl (by omega), if_pos (by omega), List.reverse_reverse]
  unfold cleanR
  rw [if_neg (by rw [List.length_reverse]; omega), rev_allW hwl, hc, htl, hv]
  rfl
theorem clean_twice {l : List Pt} (hv : validR l = true) : cleanR (l ++ [at_ l (l.length - 1)]) = (beginL l, 0) := by
  obtain ⟨h3, h40, hwl, ht, ha⟩ := valid_parts hv
  obtain ⟨m, hm⟩ : ∃ m, l ++ [at_ l (l.length - 1)] = m := ⟨_, rfl⟩
  rw [hm]
  have hlen : m.length = l.length + 1 := by rw [← hm]; simp
  have h1 : ∀ i, i < l.length → at_ m i = at_ l i := fun i hi => at_of (by rw [← hm, List.getElem?_append_left hi]; exact at_some hi)
  have h2 : at_ m l.length = at_ l (l.length - 1) := at_of (by rw [← hm, List.getElem?_append_right (Nat.le_refl _)]; simp)
  have hwm : allW m = true := allTo_iff.2 fun i hi => by
    rw [hlen] at hi
    rcases Nat.lt_or_ge i l.length with c | c
    · rw [h1 i c]; exact allTo_iff.1 hwl i c
    · rw [show i = l.length by omega, h2]; exact allTo_iff.1 hwl _ (by omega)
  have hneed : need m = l.length - 1 := by
    refine need_of (by omega) (fun j hj => ?_) fun _ => ?_
    · have hs : spare l j = false := by
        have := no_spare ht
        exact (need_is (l := l)).2.1 j (by omega)
      unfold spare at hs ⊢
      have e1 : (j + 1) % m.length = (j + 1) % l.length := by rw [hlen, Nat.mod_eq_of_lt (by omega), Nat.mod_eq_of_lt (by omega)]
      have e2 : at_ m ((j + m.length - 1) % m.length) = at_ l ((j + l.length - 1) % l.length) := by
        rcases Nat.eq_zero_or_pos j with c | c
        · subst c
          rw [Nat.zero_add, Nat.zero_add, hlen, show l.length + 1 - 1 = l.length by omega, Nat.mod_eq_of_lt (by omega), Nat.mod_eq_of_lt (by omega), h2]
        · rw [show j + m.length - 1 = j - 1 + m.length by omega, show j + l.length - 1 = j - 1 + l.length by omega, Nat.add_mod_right, Nat.add_mod_right, Nat.mod_eq_of_lt (by omega), Nat.mod_eq_of_lt (by omega), h1 _ (by omega)]
      have hq : (j + 1) % l.length < l.length := Nat.mod_lt _ (by omega)
      unfold turnI at hs ⊢
      rw [e1, e2, h1 j (by omega), h1 _ hq]
      exact hs
    · unfold spare
      rw [hlen, Nat.mod_eq_of_lt (show l.length - 1 + 1 < l.length + 1 by omega), show l.length - 1 + 1 = l.length by omega, h1 _ (by omega), h2]
      simp
  have her : m.eraseIdx (need m) = l := by
    rw [hneed, ← hm, List.eraseIdx_eq_take_drop_succ, List.take_append_of_le_length (by omega), List.drop_append_of_le_length (by omega), show l.length - 1 + 1 = l.length by omega, List.drop_length, List.nil_append]
    have hla : at_ l (l.length - 1) = l[l.length - 1]'(by omega) := at_of (List.getElem?_eq_getElem _)
    rw [hla, List.take_append_getElem (by omega)]
    exact List.take_of_length_le (by omega)
  have hc : cleanL m = l := by
    rw [← clean_step (by rw [hneed]; omega), her]
    exact clean_end (by rw [no_spare ht]; exact Nat.lt_irrefl _)
  have htl : turnedL l = l := if_neg (by omega)
  unfold cleanR
  rw [if_neg (by omega), hwm, hc, htl, hv]
  rfl
end Go.Proofs.Ytahamffngmdjfaa.G

namespace Go.Proofs.Ytahamffngmdjfaa.W
open Go.RowKit Go.Proofs.Ytahamffngmdjfaa.V Go.Proofs.Ytahamffngmdjfaa.G

abbrev SrcN (w : World) (A : Option Addr) (n c : Nat) (l : List (Int × Int)) : Prop := Src w 2 (.slice A n c) n (l.flatMap vC)
theorem src_n {w : World} {A : Option Addr} {n c : Nat} {l : List (Int × Int)} (h : SrcV w (.slice A l.length c) l) (hn : l.length = n) : SrcN w A n c l := by subst hn; exact h
theorem src_v {w : World} {A : Option Addr} {n c : Nat} {l : List (Int × Int)} (h : SrcN w A n c l) (hn : l.length = n) : SrcV w (.slice A n c) l := by subst hn; exact h
theorem src_max {w : World} {A : Option Addr} {n c : Nat} {l : List (Int × Int)} (h : SrcN w A n c l) : n ≤ c ∧ c ≤ 9223372036854775807 ∧ c ≤ maxLen := by
  obtain ⟨_, A', c', e, h1, h2, _⟩ := h
  injection e with _ _ e3
  subst e3
  exact ⟨h1, by unfold maxLen at h2; omega, h2⟩
theorem src_len {w : World} {A : Option Addr} {n c : Nat} {l : List (Int × Int)} (h : SrcN w A n c l) : l.length = n := by
  have := h.1
  rw [flatV_len] at this
  omega
/-- where a list's elements lie, in all later worlds -/
theorem src_at {w : World} {A : Option Addr} {n c : Nat} {l : List (Int × Int)} (h : SrcN w A n c l) (hn : 0 < n) :
    ∃ g o, A = some ⟨g, o, none⟩ ∧ g < w.heap.size ∧ ∀ w', Nw w w' → ∀ k, k < n → w'.cell? ⟨g, o + k * 2, none⟩ = some (.int .i64 (at_ l k).1) ∧ w'.cell? ⟨g, o + k * 2 + 1, none⟩ = some (.int .i64 (at_ l k).2) := by
  have hl := src_len h
  obtain ⟨_, A', c', e, _, _, hc⟩ := h
  injection e with e1 e2 e3
  subst e1
  obtain ⟨g, o, rfl, hg, hc⟩ := hc (by omega)
  refine ⟨g, o, rfl, hg, fun w' hk k hkn => ?_⟩
  obtain ⟨f1, f2⟩ := flatV_at l k _ (at_some (by omega))
  exact ⟨(hk.cell (p := ⟨g, o + k * 2, none⟩) hg id).trans (hc _ _ f1), (hk.cell (p := ⟨g, o + (k * 2 + 1), none⟩) hg id).trans (hc _ _ f2)⟩
theorem wrapI (n : Int) : IntKind.i64.wrap n = w64 n := by
  rw [IntKind.wrap_i64, w64_eq]
theorem tmod_nat (a b : Nat) : Int.tmod (a : Int) (b : Int) = ((a % b : Nat) : Int) := by
  rw [Int.tmod_eq_emod_of_nonneg (by omega)]
  omega
end Go.Proofs.Ytahamffngmdjfaa.W
