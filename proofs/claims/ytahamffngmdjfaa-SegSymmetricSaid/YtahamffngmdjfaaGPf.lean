/-
  seg, plain: how two segments meet does not depend on their order, nor on that of their ends, and is moved with them. Conditions stand at each lemma.
-/
import Derived.Test.YtahamffngmdjfaaGPe
namespace Go.Proofs.Ytahamffngmdjfaa.W
open Go.RowKit Go.Proofs.Ytahamffngmdjfaa.V Go.Proofs.Ytahamffngmdjfaa.G

theorem valid_turned (ax ay bx bz : Int) : validS bx bz ax ay = validS ax ay bx bz := by
  unfold validS
  rw [Bool.and_comm]
theorem crs_turned (ax ay bx bz px py : Int) : crs bx bz ax ay px py = -crs ax ay bx bz px py := by
  unfold crs
  grind
theorem on_turned (ax ay bx bz px py : Int) : On bx bz ax ay px py ↔ On ax ay bx bz px py := by
  unfold On dotP
  rw [crs_turned, Int.mul_comm (bx - px), Int.mul_comm (bz - py)]
  constructor <;> rintro ⟨h1, h2⟩ <;> exact ⟨by omega, h2⟩
theorem prt_turned_l (ax ay bx bz cx cy dx dy : Int) : Prt bx bz ax ay cx cy dx dy ↔ Prt ax ay bx bz cx cy dx dy := by
  unfold Prt
  rw [crs_turned ax ay bx bz cx cy, crs_turned ax ay bx bz dx dy, Int.neg_mul_neg]
theorem prt_turned_r (ax ay bx bz cx cy dx dy : Int) : Prt ax ay bx bz dx dy cx cy ↔ Prt ax ay bx bz cx cy dx dy := by
  unfold Prt
  rw [Int.mul_comm]

theorem end_lm2 {ax ay bx bz cx cy dx dy : Int} (h1 : validS ax ay bx bz = true) (h2 : validS cx cy dx dy = true) {x y : Int} (hz : (x, y) ∈ endsL ax ay bx bz cx cy dx dy) : Lm x y := by
  obtain ⟨ha, hb⟩ := valid_lm h1
  obtain ⟨hc, hd⟩ := valid_lm h2
  have : (x, y) = (ax, ay) ∨ (x, y) = (bx, bz) ∨ (x, y) = (cx, cy) ∨ (x, y) = (dx, dy) := by simpa [endsL] using hz
  rcases this with e | e | e | e <;> (injection e with e1 e2; subst e1 e2; assumption)
/-- when two pairs of segments meet in the same way -/
theorem same_way {ax ay bx bz cx cy dx dy ax' ay' bx' bz' cx' cy' dx' dy' : Int}
    (hv : (validS ax' ay' bx' bz' = true ∧ validS cx' cy' dx' dy' = true) ↔ (validS ax ay bx bz = true ∧ validS cx cy dx dy = true))
    (he : ∀ z, z ∈ endsL ax' ay' bx' bz' cx' cy' dx' dy' ↔ z ∈ endsL ax ay bx bz cx cy dx dy)
    (ho : ∀ px py, (On ax' ay' bx' bz' px py ∧ On cx' cy' dx' dy' px py) ↔ (On ax ay bx bz px py ∧ On cx cy dx dy px py))
    (hp : (Prt ax' ay' bx' bz' cx' cy' dx' dy' ∧ Prt cx' cy' dx' dy' ax' ay' bx' bz') ↔ (Prt ax ay bx bz cx cy dx dy ∧ Prt cx cy dx dy ax ay bx bz))
    (hc : denX ax' ay' bx' bz' cx' cy' dx' dy' = -denX ax ay bx bz cx cy dx dy ∧ crossX ax' ay' bx' bz' cx' cy' dx' dy' = -crossX ax ay bx bz cx cy dx dy ∧ crossY ax' ay' bx' bz' cx' cy' dx' dy' = -crossY ax ay bx bz cx cy dx dy) :
    kindS ax' ay' bx' bz' cx' cy' dx' dy' = kindS ax ay bx bz cx cy dx dy ∧ atS ax' ay' bx' bz' cx' cy' dx' dy' = atS ax ay bx bz cx cy dx dy ∧ shareS ax' ay' bx' bz' cx' cy' dx' dy' = shareS ax ay bx bz cx cy dx dy := by
  by_cases h : validS ax ay bx bz = true ∧ validS cx cy dx dy = true
  · have h' := hv.2 h
    obtain ⟨h1, h2⟩ := h
    obtain ⟨h1', h2'⟩ := h'
    have hcom : comS ax' ay' bx' bz' cx' cy' dx' dy' = comS ax ay bx bz cx cy dx dy := by
      refine asc_unique (com_asc ..) (com_asc ..) fun z => ?_
      obtain ⟨x, y⟩ := z
      rw [com_mem, com_mem, he]
      refine and_congr_right fun hz => ?_
      have hl : Lm x y := end_lm2 h1 h2 hz
      obtain ⟨ha, hb⟩ := valid_lm h1
      obtain ⟨hc, hd⟩ := valid_lm h2
      obtain ⟨ha', hb'⟩ := valid_lm h1'
      obtain ⟨hc', hd'⟩ := valid_lm h2'
      unfold bothS
      rw [Bool.and_eq_true, Bool.and_eq_true]
      show conS _ _ _ _ x y = true ∧ conS _ _ _ _ x y = true ↔ conS _ _ _ _ x y = true ∧ conS _ _ _ _ x y = true
      rw [con_lm ha hb hl, con_lm hc hd hl, con_lm ha' hb' hl, con_lm hc' hd' hl]
      exact ho x y
    obtain ⟨ha, hb⟩ := valid_lm h1
    obtain ⟨hcc, hd⟩ := valid_lm h2
    obtain ⟨ha', hb'⟩ := valid_lm h1'
    obtain ⟨hc', hd'⟩ := valid_lm h2'
    have hps : (partS ax' ay' bx' bz' cx' cy' dx' dy' && partS cx' cy' dx' dy' ax' ay' bx' bz') = (partS ax ay bx bz cx cy dx dy && partS cx cy dx dy ax ay bx bz) := by
      apply Bool.eq_iff_iff.2
      rw [Bool.and_eq_true, Bool.and_eq_true, part_lm ha hb hcc hd, part_lm hcc hd ha hb, part_lm ha' hb' hc' hd', part_lm hc' hd' ha' hb']
      exact hp
    have hk : kindS ax' ay' bx' bz' cx' cy' dx' dy' = kindS ax ay bx bz cx cy dx dy := by
      rw [kind_is h1' h2', kind_is h1 h2, hcom, hps]
    have hpp : partsS ax' ay' bx' bz' cx' cy' dx' dy' = partsS ax ay bx bz cx cy dx dy := by
      unfold partsS
      rw [h1, h2, h1', h2', hcom]
    refine ⟨hk, ?_, ?_⟩
    · unfold atS
      rw [hk, hpp]
      split
      · rfl
      · split
        · rename_i hk2
          have h0 := prt_den (kind_two hk2).2.2.1
          unfold crossS
          rw [hc.1, hc.2.1, hc.2.2]
          by_cases hn : denX ax ay bx bz cx cy dx dy < 0
          · rw [if_neg (by omega), if_pos hn]
          · rw [if_pos (by omega), if_neg hn, Int.neg_neg, Int.neg_neg, Int.neg_neg]
        · rfl
    · unfold shareS
      rw [hk, hpp]
  · have h' := fun e => h (hv.1 e)
    rw [kind_inv h, kind_inv h']
    unfold atS shareS
    rw [kind_inv h, kind_inv h']
    exact ⟨rfl, rfl, rfl⟩
theorem way_swap (ax ay bx bz cx cy dx dy : Int) : kindS cx cy dx dy ax ay bx bz = kindS ax ay bx bz cx cy dx dy ∧ atS cx cy dx dy ax ay bx bz = atS ax ay bx bz cx cy dx dy ∧ shareS cx cy dx dy ax ay bx bz = shareS ax ay bx bz cx cy dx dy := by
  refine same_way ⟨fun h => ⟨h.2, h.1⟩, fun h => ⟨h.2, h.1⟩⟩ (fun z => ?_) (fun px py => ⟨fun h => ⟨h.2, h.1⟩, fun h => ⟨h.2, h.1⟩⟩) ⟨fun h => ⟨h.2, h.1⟩, fun h => ⟨h.2, h.1⟩⟩ ⟨?_, ?_, ?_⟩
  · simp only [endsL, List.mem_cons, List.not_mem_nil, or_false]
    constructor <;> (rintro (h | h | h | h) <;> simp [h])
  · unfold denX; grind
  · unfold crossX denX numX; grind
  · unfold crossY denX numX; grind
theorem way_left (ax ay bx bz cx cy dx dy : Int) : kindS bx bz ax ay cx cy dx dy = kindS ax ay bx bz cx cy dx dy ∧ atS bx bz ax ay cx cy dx dy = atS ax ay bx bz cx cy dx dy ∧ shareS bx bz ax ay cx cy dx dy = shareS ax ay bx bz cx cy dx dy := by
  refine same_way (by rw [valid_turned]) (fun z => ?_) (fun px py => by rw [on_turned]) (by rw [prt_turned_l ax ay bx bz cx cy dx dy, prt_turned_r cx cy dx dy ax ay bx bz]) ⟨?_, ?_, ?_⟩
  · simp only [endsL, List.mem_cons, List.not_mem_nil, or_false]
    constructor <;> (rintro (h | h | h | h) <;> simp [h])
  · unfold denX; grind
  · unfold crossX denX numX; grind
  · unfold crossY denX numX; grind
theorem way_right (ax ay bx bz cx cy dx dy : Int) : kindS ax ay bx bz dx dy cx cy = kindS ax ay bx bz cx cy dx dy ∧ atS ax ay bx bz dx dy cx cy = atS ax ay bx bz cx cy dx dy ∧ shareS ax ay bx bz dx dy cx cy = shareS ax ay bx bz cx cy dx dy := by
  refine same_way (by rw [valid_turned cx cy dx dy]) (fun z => ?_) (fun px py => by rw [on_turned cx]) (by rw [prt_turned_r ax ay bx bz cx cy dx dy, prt_turned_l cx cy dx dy ax ay bx bz]) ⟨?_, ?_, ?_⟩
  · simp only [endsL, List.mem_cons, List.not_mem_nil, or_false]
    constructor <;> (rintro (h | h | h | h) <;> simp [h])
  · unfold denX; grind
  · unfold crossX denX numX; grind
  · unfold crossY denX numX; grind
theorem crs_moved (ax ay bx bz px py vx vy : Int) : crs (ax + vx) (ay + vy) (bx + vx) (bz + vy) (px + vx) (py + vy) = crs ax ay bx bz px py := by
  unfold crs
  rw [show bx + vx - (ax + vx) = bx - ax by omega, show py + vy - (ay + vy) = py - ay by omega, show bz + vy - (ay + vy) = bz - ay by omega, show px + vx - (ax + vx) = px - ax by omega]
theorem on_moved (ax ay bx bz px py vx vy : Int) : On (ax + vx) (ay + vy) (bx + vx) (bz + vy) (px + vx) (py + vy) ↔ On ax ay bx bz px py := by
  unfold On dotP
  rw [crs_moved, show ax + vx - (px + vx) = ax - px by omega, show ay + vy - (py + vy) = ay - py by omega, show bx + vx - (px + vx) = bx - px by omega, show bz + vy - (py + vy) = bz - py by omega]
def mv (vx vy : Int) (z : Int × Int) : Int × Int := (z.1 + vx, z.2 + vy)
theorem lt_mv (vx vy : Int) (x y : Int × Int) : ltV (mv vx vy x) (mv vx vy y) ↔ ltV x y := by
  rw [ltV_iff, ltV_iff]
  unfold mv
  simp only
  omega
theorem asc_mv (vx vy : Int) {L : List (Int × Int)} (h : Asc L) : Asc (L.map (mv vx vy)) := by
  refine List.pairwise_map.2 (h.imp fun {a b} hab => (lt_mv vx vy a b).2 hab)
theorem first_mv (vx vy : Int) {L : List (Int × Int)} (h : L ≠ []) : firstV (L.map (mv vx vy)) = mv vx vy (firstV L) := by
  cases L with
  | nil => exact absurd rfl h
  | cons x r => rfl
theorem last_mv (vx vy : Int) {L : List (Int × Int)} (h : L ≠ []) : lastV (L.map (mv vx vy)) = mv vx vy (lastV L) := by
  unfold lastV
  rw [List.getLast?_map, List.getLast?_eq_some_getLast h]
  rfl
theorem way_moved {ax ay bx bz cx cy dx dy : Int} (vx vy : Int) (h1 : validS ax ay bx bz = true) (h2 : validS cx cy dx dy = true) (h1' : validS (ax + vx) (ay + vy) (bx + vx) (bz + vy) = true) (h2' : validS (cx + vx) (cy + vy) (dx + vx) (dy + vy) = true) :
    kindS (ax + vx) (ay + vy) (bx + vx) (bz + vy) (cx + vx) (cy + vy) (dx + vx) (dy + vy) = kindS ax ay bx bz cx cy dx dy ∧
    ((kindS ax ay bx bz cx cy dx dy = 1 ∨ kindS ax ay bx bz cx cy dx dy = 2) → atS (ax + vx) (ay + vy) (bx + vx) (bz + vy) (cx + vx) (cy + vy) (dx + vx) (dy + vy) = ((atS ax ay bx bz cx cy dx dy).1 + vx * (atS ax ay bx bz cx cy dx dy).2.2, (atS ax ay bx bz cx cy dx dy).2.1 + vy * (atS ax ay bx bz cx cy dx dy).2.2, (atS ax ay bx bz cx cy dx dy).2.2)) ∧
    (kindS ax ay bx bz cx cy dx dy = 3 → shareS (ax + vx) (ay + vy) (bx + vx) (bz + vy) (cx + vx) (cy + vy) (dx + vx) (dy + vy) = (mv vx vy (shareS ax ay bx bz cx cy dx dy).1, mv vx vy (shareS ax ay bx bz cx cy dx dy).2)) := by
  obtain ⟨ha, hb⟩ := valid_lm h1
  obtain ⟨hc, hd⟩ := valid_lm h2
  obtain ⟨ha', hb'⟩ := valid_lm h1'
  obtain ⟨hc', hd'⟩ := valid_lm h2'
  have hcom : comS (ax + vx) (ay + vy) (bx + vx) (bz + vy) (cx + vx) (cy + vy) (dx + vx) (dy + vy) = (comS ax ay bx bz cx cy dx dy).map (mv vx vy) := by
    refine asc_unique (com_asc ..) (asc_mv vx vy (com_asc ..)) fun z => ?_
    rw [List.mem_map]
    constructor
    · intro hz
      obtain ⟨x, y⟩ := z
      obtain ⟨he, hl, o1, o2⟩ := com_lm h1' h2' hz
      have e1 : x = (x - vx) + vx := by omega
      have e2 : y = (y - vy) + vy := by omega
      rw [e1, e2, on_moved] at o1 o2
      refine ⟨(x - vx, y - vy), (com_of h1 h2 ?_ o1 o2).1, by unfold mv; simp only; rw [← e1, ← e2]⟩
      rcases he with ⟨e, e'⟩ | ⟨e, e'⟩ | ⟨e, e'⟩ | ⟨e, e'⟩
      · exact .inl ⟨by omega, by omega⟩
      · exact .inr (.inl ⟨by omega, by omega⟩)
      · exact .inr (.inr (.inl ⟨by omega, by omega⟩))
      · exact .inr (.inr (.inr ⟨by omega, by omega⟩))
    · rintro ⟨⟨x, y⟩, hz, rfl⟩
      obtain ⟨he, hl, o1, o2⟩ := com_lm h1 h2 hz
      refine (com_of h1' h2' ?_ ((on_moved ..).2 o1) ((on_moved ..).2 o2)).1
      rcases he with ⟨rfl, rfl⟩ | ⟨rfl, rfl⟩ | ⟨rfl, rfl⟩ | ⟨rfl, rfl⟩
      · exact .inl ⟨rfl, rfl⟩
      · exact .inr (.inl ⟨rfl, rfl⟩)
      · exact .inr (.inr (.inl ⟨rfl, rfl⟩))
      · exact .inr (.inr (.inr ⟨rfl, rfl⟩))
  have hps : (partS (ax + vx) (ay + vy) (bx + vx) (bz + vy) (cx + vx) (cy + vy) (dx + vx) (dy + vy) && partS (cx + vx) (cy + vy) (dx + vx) (dy + vy) (ax + vx) (ay + vy) (bx + vx) (bz + vy)) = (partS ax ay bx bz cx cy dx dy && partS cx cy dx dy ax ay bx bz) := by
    apply Bool.eq_iff_iff.2
    rw [Bool.and_eq_true, Bool.and_eq_true, part_lm ha hb hc hd, part_lm hc hd ha hb, part_lm ha' hb' hc' hd', part_lm hc' hd' ha' hb']
    unfold Prt
    rw [crs_moved, crs_moved, crs_moved, crs_moved]
  have hk : kindS (ax + vx) (ay + vy) (bx + vx) (bz + vy) (cx + vx) (cy + vy) (dx + vx) (dy + vy) = kindS ax ay bx bz cx cy dx dy := by
    rw [kind_is h1' h2', kind_is h1 h2, hcom, hps]
    cases hL : comS ax ay bx bz cx cy dx dy with
    | nil => rfl
    | cons x r =>
      rw [← hL, first_mv vx vy (by rw [hL]; simp), last_mv vx vy (by rw [hL]; simp)]
      have e : (mv vx vy (firstV (comS ax ay bx bz cx cy dx dy)) = mv vx vy (lastV (comS ax ay bx bz cx cy dx dy))) = (firstV (comS ax ay bx bz cx cy dx dy) = lastV (comS ax ay bx bz cx cy dx dy)) := by
        apply propext
        constructor
        · intro h
          unfold mv at h
          injection h with h3 h4
          exact Prod.ext (by omega) (by omega)
        · intro h; rw [h]
      simp only [e, List.isEmpty_map]
  have hpp : comS ax ay bx bz cx cy dx dy ≠ [] → partsS (ax + vx) (ay + vy) (bx + vx) (bz + vy) (cx + vx) (cy + vy) (dx + vx) (dy + vy) = (mv vx vy (partsS ax ay bx bz cx cy dx dy).1, mv vx vy (partsS ax ay bx bz cx cy dx dy).2) := fun hne => by
    rw [parts_is h1 h2 hne, parts_is h1' h2' (by rw [hcom]; simpa using hne), hcom, first_mv vx vy hne, last_mv vx vy hne]
  refine ⟨hk, fun h => ?_, fun h => ?_⟩
  · unfold atS
    rw [hk]
    rcases h with h | h
    · rw [if_pos h, if_pos h, hpp (kind_ne h1 h2 h (.inl rfl)).1]
      unfold mv
      simp
    · have h0 := prt_den (kind_two h).2.2.1
      rw [if_neg (by omega), if_pos h, if_neg (by omega), if_pos h]
      have eD : denX (ax + vx) (ay + vy) (bx + vx) (bz + vy) (cx + vx) (cy + vy) (dx + vx) (dy + vy) = denX ax ay bx bz cx cy dx dy := by unfold denX; grind
      have eX : crossX (ax + vx) (ay + vy) (bx + vx) (bz + vy) (cx + vx) (cy + vy) (dx + vx) (dy + vy) = crossX ax ay bx bz cx cy dx dy + vx * denX ax ay bx bz cx cy dx dy := by unfold crossX denX numX; grind
      have eY : crossY (ax + vx) (ay + vy) (bx + vx) (bz + vy) (cx + vx) (cy + vy) (dx + vx) (dy + vy) = crossY ax ay bx bz cx cy dx dy + vy * denX ax ay bx bz cx cy dx dy := by unfold crossY denX numX; grind
      unfold crossS
      rw [eD, eX, eY]
      by_cases hn : denX ax ay bx bz cx cy dx dy < 0
      · rw [if_pos hn, if_pos hn, show -(crossX ax ay bx bz cx cy dx dy + vx * denX ax ay bx bz cx cy dx dy) = -crossX ax ay bx bz cx cy dx dy + vx * -denX ax ay bx bz cx cy dx dy by rw [Int.mul_neg]; omega, show -(crossY ax ay bx bz cx cy dx dy + vy * denX ax ay bx bz cx cy dx dy) = -crossY ax ay bx bz cx cy dx dy + vy * -denX ax ay bx bz cx cy dx dy by rw [Int.mul_neg]; omega]
        exact low_move vx vy (by omega)
      · rw [if_neg hn, if_neg hn]
        exact low_move vx vy h0
  · unfold shareS
    rw [hk, if_pos h, if_pos h]
    exact hpp (kind_ne h1 h2 h (.inr rfl)).1
end Go.Proofs.Ytahamffngmdjfaa.W
