/-
  seg: At: the only point that two segments have in common. No condition.
  RingConvex: the midpoint of two points as the law makes it. Condition: the coordinates are within 4000.
  ring, plain: lists of points by index, turns, areas, edges; no program. No condition.
-/
import Derived.Test.YthifljljaejfmaaJ12
import Derived.Test.YthifljljaejfmaaJ05
import Derived.Test.YthifljljaejfmaaJ09
import Derived.Test.YthifljljaejfmaaJ04
namespace Go.Proofs.Ythifljljaejfmaa.W
open Go.RowKit Go.Proofs.Ythifljljaejfmaa.V Go.Proofs.Ythifljljaejfmaa.G

theorem valid_lm {ax ay bx bz : Int} (h : validS ax ay bx bz = true) : Lm ax ay ∧ Lm bx bz := by
  unfold validS withinV at h
  rw [show w64 (-4000) = -4000 from w64_id ⟨by omega, by omega⟩] at h
  simp at h
  unfold Lm
  omega
theorem turn_lm {ax ay bx bz cx cy : Int} (ha : Lm ax ay) (hb : Lm bx bz) (hc : Lm cx cy) : turnV ax ay bx bz cx cy = sgn (crs ax ay bx bz cx cy) := by
  unfold Lm at ha hb hc
  unfold turnV crs
  have h1 := abs_le_mul (x := bx - ax) (y := cy - ay) (A := 8000) (B := 8000) (by omega) (by omega)
  have h2 := abs_le_mul (x := bz - ay) (y := cx - ax) (A := 8000) (B := 8000) (by omega) (by omega)
  rw [w64_id ⟨by omega, by omega⟩]
theorem part_lm {ax ay bx bz cx cy dx dy : Int} (ha : Lm ax ay) (hb : Lm bx bz) (hc : Lm cx cy) (hd : Lm dx dy) : partS ax ay bx bz cx cy dx dy = true ↔ Prt ax ay bx bz cx cy dx dy := by
  unfold partS Prt
  rw [turn_lm ha hb hc, turn_lm ha hb hd, decide_eq_true_eq]
  generalize crs ax ay bx bz cx cy = x
  generalize crs ax ay bx bz dx dy = y
  rcases sgn_cases x with ⟨h, e⟩ | ⟨h, e⟩ | ⟨h, e⟩ <;> rcases sgn_cases y with ⟨g, k⟩ | ⟨g, k⟩ | ⟨g, k⟩ <;> rw [e, k]
  · exact ⟨fun h' => absurd h' (by decide), fun h' => by have := Int.mul_pos_of_neg_of_neg h g; omega⟩
  · subst g; simp
  · exact ⟨fun _ => Int.mul_neg_of_neg_of_pos h g, fun _ => by decide⟩
  · subst h; simp
  · subst h; simp
  · subst h; simp
  · exact ⟨fun _ => Int.mul_neg_of_pos_of_neg h g, fun _ => by decide⟩
  · subst g; simp
  · exact ⟨fun h' => absurd h' (by decide), fun h' => by have := Int.mul_pos h g; omega⟩
theorem kind_two {ax ay bx bz cx cy dx dy : Int} (h : kindS ax ay bx bz cx cy dx dy = 2) : (Lm ax ay ∧ Lm bx bz) ∧ (Lm cx cy ∧ Lm dx dy) ∧ Prt ax ay bx bz cx cy dx dy ∧ Prt cx cy dx dy ax ay bx bz ∧ comS ax ay bx bz cx cy dx dy = [] := by
  unfold kindS at h
  split at h
  · rename_i hv
    simp only [Bool.and_eq_true] at hv
    have v1 := valid_lm hv.1
    have v2 := valid_lm hv.2
    split at h
    · rename_i he
      split at h
      · rename_i hp
        simp only [Bool.and_eq_true] at hp
        exact ⟨v1, v2, (part_lm v1.1 v1.2 v2.1 v2.2).1 hp.1, (part_lm v2.1 v2.2 v1.1 v1.2).1 hp.2, by simpa using he⟩
      · omega
    · split at h <;> omega
  · omega
def atS (ax ay bx bz cx cy dx dy : Int) : Int × Int × Int := if kindS ax ay bx bz cx cy dx dy = 1 then ((partsS ax ay bx bz cx cy dx dy).1.1, (partsS ax ay bx bz cx cy dx dy).1.2, 1) else if kindS ax ay bx bz cx cy dx dy = 2 then crossS ax ay bx bz cx cy dx dy else (0, 0, 0)
def atV (ax ay bx bz cx cy dx dy : Int) : Value := .tuple #[pV (atS ax ay bx bz cx cy dx dy).1 (atS ax ay bx bz cx cy dx dy).2.1 (atS ax ay bx bz cx cy dx dy).2.2, .bool (kindS ax ay bx bz cx cy dx dy == 1 || kindS ax ay bx bz cx cy dx dy == 2)]

end Go.Proofs.Ythifljljaejfmaa.W

namespace Go.Proofs.Ythifljljaejfmaa.W
open Go.RowKit Go.Proofs.Ythifljljaejfmaa.V Go.Proofs.Ythifljljaejfmaa.G


def midX (ax ay bx bz : Int) : Int := if (ax + bx).tmod 2 = 0 ∧ (ay + bz).tmod 2 = 0 then (ax + bx).tdiv 2 else ax + bx
def midY (ax ay bx bz : Int) : Int := if (ax + bx).tmod 2 = 0 ∧ (ay + bz).tmod 2 = 0 then (ay + bz).tdiv 2 else ay + bz
def midD (ax ay bx bz : Int) : Int := if (ax + bx).tmod 2 = 0 ∧ (ay + bz).tmod 2 = 0 then 1 else 2
theorem Blk.laym {w : World} {g : Nat} {t : TypeId} {a b c : Value} (h : Blk w g t #[a, b, c]) (x y z : Value) : Blk (((w.setCell ⟨g, 0, none⟩ x).setCell ⟨g, 1, none⟩ y).setCell ⟨g, 2, none⟩ z) g t #[x, y, z] := ((h.set_ 0 x).set_ 1 y).set_ 2 z
theorem mid_is {ax ay bx bz : Int} : 0 < midD ax ay bx bz ∧ 2 * midX ax ay bx bz = midD ax ay bx bz * (ax + bx) ∧ 2 * midY ax ay bx bz = midD ax ay bx bz * (ay + bz) := by
  unfold midX midY midD
  split
  · rename_i h
    have h1 := Int.mul_tdiv_add_tmod (ax + bx) 2
    have h2 := Int.mul_tdiv_add_tmod (ay + bz) 2
    omega
  · omega

set_option maxRecDepth 100000 in
set_option maxHeartbeats 3200000 in
theorem middle_any (ax ay bx bz : Int) (ha : Lm ax ay) (hb : Lm bx bz) (w : World) : Calls Try.prog 9 #[vV ax ay, vV bx bz] w fun e w' => e = .returned (pV (midX ax ay bx bz) (midY ax ay bx bz) (midD ax ay bx bz)) ∧ Nw w w' := by
  unfold Lm at ha hb
  have a1 : IntKind.i64.wrap (ax + bx) = ax + bx := by rw [IntKind.wrap_i64]; omega
  have a2 : IntKind.i64.wrap (ay + bz) = ay + bz := by rw [IntKind.wrap_i64]; omega
  unfold midX midY midD
  obtain ⟨x, hx⟩ : ∃ x, ax + bx = x := ⟨_, rfl⟩
  obtain ⟨y, hy⟩ : ∃ y, ay + bz = y := ⟨_, rfl⟩
  replace a1 := a1.trans hx
  replace a2 := a2.trans hy
  rw [hx, hy]
  have t1 := tm_way x 2 (by omega)
  have t2 := tm_way y 2 (by omega)
  have a3 : IntKind.i64.wrap (x.tdiv 2) = x.tdiv 2 := by rw [IntKind.wrap_i64]; omega
  have a4 : IntKind.i64.wrap (y.tdiv 2) = y.tdiv 2 := by rw [IntKind.wrap_i64]; omega
  have a5 : IntKind.i64.wrap (x.tmod 2) = x.tmod 2 := by rw [IntKind.wrap_i64]; omega
  have a6 : IntKind.i64.wrap (y.tmod 2) = y.tmod 2 := by rw [IntKind.wrap_i64]; omega
  obtain ⟨p, hp⟩ : ∃ p, x.tmod 2 = p := ⟨_, rfl⟩
  obtain ⟨q, hq⟩ : ∃ q, y.tmod 2 = q := ⟨_, rfl⟩
  obtain ⟨s, hs⟩ : ∃ s, x.tdiv 2 = s := ⟨_, rfl⟩
  obtain ⟨t, ht⟩ : ∃ t, y.tdiv 2 = t := ⟨_, rfl⟩
  rw [hs] at a3
  rw [ht] at a4
  rw [hp] at a5
  rw [hq] at a6
  clear t1 t2
  have HW := Lib.hid (show Nw w (((w.alloc (.cells #[.int .i64 ax, .int .i64 ay] 28)).alloc (.cells #[.int .i64 bx, .int .i64 bz] 28)).alloc (.cells #[.int .i64 0, .int .i64 0, .int .i64 0] 31)) from ((nw_alloc _ _).alloc _).alloc _)
  have HRL := Lib.hid (show w.heap.size ≤ w.heap.size + 1 + 1 from by omega)
  have HP := Lib.hid (fun p : KeptW (((w.alloc (.cells #[.int .i64 ax, .int .i64 ay] 28)).alloc (.cells #[.int .i64 bx, .int .i64 bz] 28)).alloc (.cells #[.int .i64 0, .int .i64 0, .int .i64 0] 31)) => (Blk.new_at ((w.alloc (.cells #[.int .i64 ax, .int .i64 ay] 28)).alloc (.cells #[.int .i64 bx, .int .i64 bz] 28)) 31 #[.int .i64 0, .int .i64 0, .int .i64 0] (n := w.heap.size + 1 + 1) (by simp)).kept p)
  have y0 := fun p => (HP.out p).frozen 0
  have y1 := fun p => (HP.out p).frozen 1
  have y2 := fun p => (HP.out p).frozen 2
  have hb0 := Blk.new_at w 28 #[.int .i64 ax, .int .i64 ay] (n := w.heap.size) (by simp)
  have hb1 := Blk.new_at (w.alloc (.cells #[.int .i64 ax, .int .i64 ay] 28)) 28 #[.int .i64 bx, .int .i64 bz] (n := w.heap.size + 1) (by simp)
  have hb2 := Blk.new_at ((w.alloc (.cells #[.int .i64 ax, .int .i64 ay] 28)).alloc (.cells #[.int .i64 bx, .int .i64 bz] 28)) 31 #[.int .i64 0, .int .i64 0, .int .i64 0] (n := w.heap.size + 1 + 1) (by simp)
  have hk0 : ∀ p : KeptW (((w.alloc (.cells #[.int .i64 ax, .int .i64 ay] 28)).alloc (.cells #[.int .i64 bx, .int .i64 bz] 28)).alloc (.cells #[.int .i64 0, .int .i64 0, .int .i64 0] 31)), Blk p.wd (w.heap.size) 28 #[.int .i64 ax, .int .i64 ay] := fun p => ((hb0.alloc _).alloc _).kept p
  have q0 := fun p => (hk0 p).cell 0
  have q1 := fun p => (hk0 p).cell 1
  have hk1 : ∀ p : KeptW (((w.alloc (.cells #[.int .i64 ax, .int .i64 ay] 28)).alloc (.cells #[.int .i64 bx, .int .i64 bz] 28)).alloc (.cells #[.int .i64 0, .int .i64 0, .int .i64 0] 31)), Blk p.wd (w.heap.size + 1) 28 #[.int .i64 bx, .int .i64 bz] := fun p => (hb1.alloc _).kept p
  have q2 := fun p => (hk1 p).cell 0
  have q3 := fun p => (hk1 p).cell 1
  have hk2 : ∀ p : KeptW (((w.alloc (.cells #[.int .i64 ax, .int .i64 ay] 28)).alloc (.cells #[.int .i64 bx, .int .i64 bz] 28)).alloc (.cells #[.int .i64 0, .int .i64 0, .int .i64 0] 31)), Blk p.wd (w.heap.size + 1 + 1) 31 #[.int .i64 0, .int .i64 0, .int .i64 0] := fun p => hb2.kept p
  have q4 := fun p => (hk2 p).cell 0
  have q5 := fun p => (hk2 p).cell 1
  have q6 := fun p => (hk2 p).cell 2
  skip
  clear hb0 hk0 hb1 hk1 hb2 hk2
  skip
  have hmix := mixed7
  by_cases h1 : p = 0
  · by_cases h2 : q = 0
    · have z1 : (p == 0) = true := by simp [h1]
      have z2 : (q == 0) = true := by simp [h2]
      rw [if_pos ⟨hp.trans h1, hq.trans h2⟩, if_pos ⟨hp.trans h1, hq.trans h2⟩, if_pos ⟨hp.trans h1, hq.trans h2⟩, hs, ht]
      clear h1 h2 hx hy ha hb
      go_enter Try.func9, Try.ntmps9
      go_wp2_with fail
      refine wp_region_kept (Kp.refl _ _) (by assumption) (by kernel_rfl) ?_
      repeat (with_reducible refine wpQuiet_step (fun K hK => ?_); go_simp; first | ((with_reducible refine hK _ ?_); clear hK K) | (with_reducible apply Exists.intro; (with_reducible refine ⟨fun _ => ?_, hK _ ?_⟩); (fail); clear hK K) | (simp only [undef, reduceCtorEq, if_false]; (with_reducible refine hK _ ?_); clear hK K))
      with_reducible refine wpQuiet_nil ?_
      rintro _ ⟨p, rfl⟩
      go_wp2_with fail
      generalize hw9 : World.setCell (World.setCell (World.setCell _ _ _) _ _) _ _ = w9
      have h9 : Blk w9 (w.heap.size + 1 + 1) 31 #[.int .i64 s, .int .i64 t, .int .i64 1] := by rw [← hw9]; exact (HP.out p).laym _ _ _
      have hn9 : Nw w w9 := by rw [← hw9]; exact (((HW.out.tr p.since).new HRL.out _ _).new HRL.out _ _).new HRL.out _ _
      obtain ⟨x0, x1, x2, _, _⟩ := h9.three
      exact bodyPost_ret (v := pV s t 1) (by simp [results, Try.results9, go_sem, x0, x1, x2]) rfl ⟨rfl, hn9⟩
    · have z1 : (p == 0) = true := by simp [h1]
      have z2 : (q == 0) = false := by simp [h2]
      rw [if_neg (fun e => h2 (hq.symm.trans e.2)), if_neg (fun e => h2 (hq.symm.trans e.2)), if_neg (fun e => h2 (hq.symm.trans e.2))]
      clear h1 h2 hx hy ha hb
      go_enter Try.func9, Try.ntmps9
      go_wp2_with fail
      refine wp_region_kept (Kp.refl _ _) (by assumption) (by kernel_rfl) ?_
      repeat (with_reducible refine wpQuiet_step (fun K hK => ?_); go_simp; first | ((with_reducible refine hK _ ?_); clear hK K) | (with_reducible apply Exists.intro; (with_reducible refine ⟨fun _ => ?_, hK _ ?_⟩); (fail); clear hK K) | (simp only [undef, reduceCtorEq, if_false]; (with_reducible refine hK _ ?_); clear hK K))
      with_reducible refine wpQuiet_nil ?_
      rintro _ ⟨p, rfl⟩
      go_wp2_with fail
      generalize hw9 : World.setCell (World.setCell (World.setCell _ _ _) _ _) _ _ = w9
      have h9 : Blk w9 (w.heap.size + 1 + 1) 31 #[.int .i64 x, .int .i64 y, .int .i64 2] := by rw [← hw9]; exact (HP.out p).laym _ _ _
      have hn9 : Nw w w9 := by rw [← hw9]; exact (((HW.out.tr p.since).new HRL.out _ _).new HRL.out _ _).new HRL.out _ _
      obtain ⟨x0, x1, x2, _, _⟩ := h9.three
      exact bodyPost_ret (v := pV x y 2) (by simp [results, Try.results9, go_sem, x0, x1, x2]) rfl ⟨rfl, hn9⟩
  · have z1 : (p == 0) = false := by simp [h1]
    rw [if_neg (fun e => h1 (hp.symm.trans e.1)), if_neg (fun e => h1 (hp.symm.trans e.1)), if_neg (fun e => h1 (hp.symm.trans e.1))]
    clear h1 hx hy ha hb
    go_enter Try.func9, Try.ntmps9
    go_wp2_with fail
    refine wp_region_kept (Kp.refl _ _) (by assumption) (by kernel_rfl) ?_
    repeat (with_reducible refine wpQuiet_step (fun K hK => ?_); go_simp; first | ((with_reducible refine hK _ ?_); clear hK K) | (with_reducible apply Exists.intro; (with_reducible refine ⟨fun _ => ?_, hK _ ?_⟩); (fail); clear hK K) | (simp only [undef, reduceCtorEq, if_false]; (with_reducible refine hK _ ?_); clear hK K))
    with_reducible refine wpQuiet_nil ?_
    rintro _ ⟨p, rfl⟩
    go_wp2_with fail
    generalize hw9 : World.setCell (World.setCell (World.setCell _ _ _) _ _) _ _ = w9
    have h9 : Blk w9 (w.heap.size + 1 + 1) 31 #[.int .i64 x, .int .i64 y, .int .i64 2] := by rw [← hw9]; exact (HP.out p).laym _ _ _
    have hn9 : Nw w w9 := by rw [← hw9]; exact (((HW.out.tr p.since).new HRL.out _ _).new HRL.out _ _).new HRL.out _ _
    obtain ⟨x0, x1, x2, _, _⟩ := h9.three
    exact bodyPost_ret (v := pV x y 2) (by simp [results, Try.results9, go_sem, x0, x1, x2]) rfl ⟨rfl, hn9⟩

end Go.Proofs.Ythifljljaejfmaa.W

namespace Go.Proofs.Ythifljljaejfmaa.G
open Go.RowKit Go.Proofs.Ythifljljaejfmaa.V Go.Proofs.Ythifljljaejfmaa.W

abbrev Pt := Int × Int
abbrev Ed := Pt × Pt
def at_ (l : List Pt) (i : Nat) : Pt := l.getD i (0, 0)
theorem at_of {l : List Pt} {i : Nat} {p : Pt} (h : l[i]? = some p) : at_ l i = p := by unfold at_; rw [List.getD_eq_getElem?_getD, h]; rfl
theorem at_some {l : List Pt} {i : Nat} (h : i < l.length) : l[i]? = some (at_ l i) := by
  unfold at_
  rw [List.getD_eq_getElem?_getD, List.getElem?_eq_getElem h]
  rfl
theorem at_mem {l : List Pt} {i : Nat} (h : i < l.length) : at_ l i ∈ l := List.mem_of_getElem? (at_some h)
def turnP (a b c : Pt) : Int := turnV a.1 a.2 b.1 b.2 c.1 c.2
def crossP (a b : Pt) : Int := crossV a.1 a.2 b.1 b.2
def allTo (n : Nat) (p : Nat → Bool) : Bool := (List.range n).all p
theorem allTo_iff {n : Nat} {p : Nat → Bool} : allTo n p = true ↔ ∀ i, i < n → p i = true := by simp [allTo]
theorem allTo_not {n i : Nat} {p : Nat → Bool} (hi : i < n) (h : p i = false) : allTo n p = false := by
  rw [← Bool.not_eq_true, allTo_iff]
  intro hh
  rw [hh i hi] at h
  cases h
def turnI (l : List Pt) (i : Nat) : Int := turnP (at_ l ((i + l.length - 1) % l.length)) (at_ l i) (at_ l ((i + 1) % l.length))
def wOk (p : Pt) : Bool := withinV p.1 p.2 2000
def allW (l : List Pt) : Bool := allTo l.length fun i => wOk (at_ l i)
def turnsP (l : List Pt) : Bool := allTo l.length fun i => !(turnI l i == 0)
def areaTo (l : List Pt) : Nat → Int
  | 0 => 0
  | k + 1 => w64 (areaTo l k + crossP (at_ l k) (at_ l ((k + 1) % l.length)))
def areaP (l : List Pt) : Int := areaTo l l.length
def edgeP (l : List Pt) (i : Nat) : Ed := (at_ l i, at_ l ((i + 1) % l.length))
def edgesP (l : List Pt) : List Ed := if l.length < 2 then [] else (List.range l.length).map (edgeP l)
def apartE (e f : Ed) : Bool := decide (max e.1.1 e.2.1 < min f.1.1 f.2.1) || decide (max f.1.1 f.2.1 < min e.1.1 e.2.1) || decide (max e.1.2 e.2.2 < min f.1.2 f.2.2) || decide (max f.1.2 f.2.2 < min e.1.2 e.2.2)
theorem edges_len {l : List Pt} : (edgesP l).length = if l.length < 2 then 0 else l.length := by unfold edgesP; split <;> simp
theorem edges_at {l : List Pt} {i : Nat} (h2 : ¬ l.length < 2) (hi : i < l.length) : (edgesP l)[i]? = some (edgeP l i) := by
  unfold edgesP
  rw [if_neg h2, List.getElem?_map, List.getElem?_range hi]
  rfl
end Go.Proofs.Ythifljljaejfmaa.G
