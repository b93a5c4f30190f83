/-
  ratio.integer: times, plus: what they return. Condition: at most 100000 words.
-/
import Derived.Test.YthefkomalakfeaaQNd
import Derived.Deep.RegionHeld3
namespace Go.Proofs.Ythefkomalakfeaa.W
open Go.RowKit Go.Proofs.Ythefkomalakfeaa.Q

theorem Is.shape {w : World} {v : Value} {N : Nat} (h : Is w v N) : ∃ A n c, v = .slice A n c := by
  obtain ⟨l, ⟨_, A, c, rfl, _⟩, _⟩ := h
  exact ⟨A, _, c, rfl⟩
/-- two cells of a block that holds no words are laid -/
theorem Is.two_ {w0 w : World} {v : Value} {N g : Nat} {t : TypeId} {cs : Array Value} (h : Is w v N) (hb : Blk w0 g t cs) (hk : Nw w0 w) (x y : Value) (ht : 48 ≠ t) : Is ((w.setCell ⟨g, 0, none⟩ x).setCell ⟨g, 1, none⟩ y) v N := by
  refine h.kp (kp_two w g x y) fun k c hc e => ?_
  subst e
  exact Blk.ne_ hc (hb.kp hk id) ht rfl
/-- the sign that a flag gives to a size -/
def signed (neg : Bool) (n : Nat) : Int := if neg then -(n : Int) else n

set_option maxRecDepth 100000 in
set_option maxHeartbeats 1600000 in
theorem itimes_any (neg : Bool) (v : Value) (N f : Nat) (w : World) (hv : Is w v N) (hN : Few N) (hf : f < 18446744073709551616) :
    Calls Try.prog 65 #[.agg #[.bool neg, v], .int .u64 f] w fun e w' => ∃ v', e = .returned (.agg #[.bool neg, v']) ∧ Is w' v' (N * f) ∧ Nw w w' := by
  obtain ⟨A, n, c, rfl⟩ := hv.shape
  have ht := fun w1 h1 => times_any N f (.slice A n c) w1 h1 hN hf
  have HB := Lib.hid (blk2 w 60 #[.bool neg, .slice A n c] #[.bool false, .slice none 0 0])
  have HV := Lib.hid hv
  clear hv hN hf
  go_enter Try.func65, Try.ntmps65
  go_wp2_with fail
  generalize hw2 : (w.alloc (.cells #[.bool neg, .slice A n c] 60)).alloc (.cells #[.bool false, .slice none 0 0] 60) = w2
  have HK2 := Lib.hid (hw2 ▸ (nw_alloc w _).alloc _ : Nw w w2)
  have HB2 := Lib.hid (hw2 ▸ HB.out : Blk w2 w.heap.size 60 #[.bool neg, .slice A n c] ∧ Blk w2 (w.heap.size + 1) 60 #[.bool false, .slice none 0 0])
  have HV2 := Lib.hid (HV.out.nw HK2.out)
  clear hw2
  obtain ⟨k0, k1, _, _⟩ := HB2.out.1.two
  have l1 := HB2.out.1.lt
  go_region_held3 (fun w' : World => w'.cell? (⟨w.heap.size, 0, none⟩ : Addr) = some (.bool neg) ∧ w'.cell? (⟨w.heap.size, 1, none⟩ : Addr) = some (.slice A n c))
    (first | go_keep | exact ⟨(hk.cell (p := ⟨w.heap.size, 0, none⟩) l1 (fun e => e)).trans k0, (hk.cell (p := ⟨w.heap.size, 1, none⟩) l1 (fun e => e)).trans k1⟩)
    ((go_at_call 64; ((with_reducible refine (ht _ (HV2.out.nw (Kp.drew (Kp.refl _ _)))).mono ?_); rintro e w1 ⟨v', rfl, his, hk⟩; obtain ⟨A', n', c', rfl⟩ := his.shape; obtain ⟨r0, r1, r2, r3⟩ := (HB2.out.2.drew.kp hk (fun e => e)).two)))
  go_wp2
  refine bodyPost_ret (v := .agg #[.bool neg, .slice A' n' c']) (by simp [results, Try.results65, go_sem, r0, r1]) rfl ⟨_, rfl, ?_, ?_⟩
  · exact his.two_ HB2.out.2 (hk.undrew) _ _ (by decide)
  · exact ((HK2.out.drew.tr hk).new (by omega) _ _).new (by omega) _ _

theorem kcell (w : World) {b p i : Nat} (x y : Value) (hp : p < w.heap.size) (hb : p ≠ b) : ((w.setCell ⟨b, 0, none⟩ x).setCell ⟨b, 1, none⟩ y).cell? ⟨p, i, none⟩ = w.cell? ⟨p, i, none⟩ := (kp_two w b x y).cell (p := ⟨p, i, none⟩) hp hb
/-- an integer as Go's struct -/
def IZ (w : World) (v : Value) (z : Int) : Prop := ∃ neg A n c, v = .agg #[.bool neg, .slice A n c] ∧ Is w (.slice A n c) z.natAbs ∧ (z ≠ 0 → (neg = true ↔ z < 0))
theorem IZ.nw {w w' : World} {v : Value} {z : Int} (h : IZ w v z) (hk : Nw w w') : IZ w' v z := by
  obtain ⟨neg, A, n, c, h1, h2, h3⟩ := h
  exact ⟨neg, A, n, c, h1, h2.nw hk, h3⟩
theorem zadd_same {a b : Int} {s : Bool} (ha : a ≠ 0 → (s = true ↔ a < 0)) (hb : b ≠ 0 → (s = true ↔ b < 0)) : (a + b).natAbs = a.natAbs + b.natAbs ∧ (a + b ≠ 0 → (s = true ↔ a + b < 0)) := by
  cases s <;> simp at ha hb ⊢ <;> omega
theorem zadd_more {a b : Int} {s t : Bool} (hn : s ≠ t) (ha : a ≠ 0 → (s = true ↔ a < 0)) (hb : b ≠ 0 → (t = true ↔ b < 0)) (h : ¬ a.natAbs < b.natAbs) : (a + b).natAbs = a.natAbs - b.natAbs ∧ (a + b ≠ 0 → (s = true ↔ a + b < 0)) := by
  cases s <;> cases t <;> simp at ha hb hn ⊢ <;> omega
theorem zadd_less {a b : Int} {s t : Bool} (hn : s ≠ t) (ha : a ≠ 0 → (s = true ↔ a < 0)) (hb : b ≠ 0 → (t = true ↔ b < 0)) (h : a.natAbs < b.natAbs) : (a + b).natAbs = b.natAbs - a.natAbs ∧ (a + b ≠ 0 → (t = true ↔ a + b < 0)) := by
  cases s <;> cases t <;> simp at ha hb hn ⊢ <;> omega

set_option maxRecDepth 100000 in
set_option maxHeartbeats 3200000 in
theorem iplus_any (a b : Int) (x y : Value) (w : World) (hx : IZ w x a) (hy : IZ w y b) (ha : Few a.natAbs) (hb : Few b.natAbs) :
    Calls Try.prog 66 #[x, y] w fun e w' => ∃ v', e = .returned v' ∧ IZ w' v' (a + b) ∧ Nw w w' := by
  obtain ⟨s, A, n, c, rfl, hX, hs⟩ := hx
  obtain ⟨t, A2, n2, c2, rfl, hY, ht⟩ := hy
  have hp := fun w1 h1 h2 => plus_any a.natAbs b.natAbs (.slice A n c) (.slice A2 n2 c2) w1 h1 h2 ha hb
  have hl := fun w1 h1 h2 => isLess_any a.natAbs b.natAbs (.slice A n c) (.slice A2 n2 c2) w1 h1 h2 ha hb
  have hm1 := fun w1 h1 h2 h3 => minus_any a.natAbs b.natAbs (.slice A n c) (.slice A2 n2 c2) w1 h1 h2 ha h3
  have hm2 := fun w1 h1 h2 h3 => minus_any b.natAbs a.natAbs (.slice A2 n2 c2) (.slice A n c) w1 h1 h2 hb h3
  have HB := Lib.hid (blk3 w 60 #[.bool s, .slice A n c] #[.bool t, .slice A2 n2 c2] #[.bool false, .slice none 0 0])
  have HX := Lib.hid hX
  have HY := Lib.hid hY
  have HS := Lib.hid hs
  have HT := Lib.hid ht
  clear hX hY hs ht ha hb
  by_cases hst : s = t
  · subst hst
    have hz := Lib.hid (zadd_same HS.out HT.out)
    clear hl hm1 hm2
    go_enter Try.func66, Try.ntmps66
    go_wp2_with fail
    generalize hw2 : ((w.alloc (.cells #[.bool s, .slice A n c] 60)).alloc (.cells #[.bool s, .slice A2 n2 c2] 60)).alloc (.cells #[.bool false, .slice none 0 0] 60) = w2
    have HK2 := Lib.hid (hw2 ▸ ((nw_alloc w _).alloc _).alloc _ : Nw w w2)
    have HB2 := Lib.hid (hw2 ▸ HB.out : Blk w2 w.heap.size 60 #[.bool s, .slice A n c] ∧ Blk w2 (w.heap.size + 1) 60 #[.bool s, .slice A2 n2 c2] ∧ Blk w2 (w.heap.size + 2) 60 #[.bool false, .slice none 0 0])
    have HX2 := Lib.hid (HX.out.nw HK2.out)
    have HY2 := Lib.hid (HY.out.nw HK2.out)
    clear hw2
    obtain ⟨k0, k1, _, _⟩ := HB2.out.1.two
    obtain ⟨_, k2, _, _⟩ := HB2.out.2.1.two
    have l1 := HB2.out.1.lt
    have l2 := HB2.out.2.1.lt
    go_region_held3 (fun w' : World => w'.cell? (⟨w.heap.size, 0, none⟩ : Addr) = some (.bool s) ∧ w'.cell? (⟨w.heap.size, 1, none⟩ : Addr) = some (.slice A n c) ∧ w'.cell? (⟨w.heap.size + 1, 1, none⟩ : Addr) = some (.slice A2 n2 c2))
      (first | exact ⟨k0, k1, k2⟩ | exact ⟨m0, m1, m2⟩ | exact ⟨(kcell w1 _ _ l3 (by omega)).trans m0, (kcell w1 _ _ l3 (by omega)).trans m1, (kcell w1 _ _ l4 (by omega)).trans m2⟩)
      ((go_at_call 75; ((with_reducible refine (hp _ (HX2.out.nw (Kp.drew (Kp.refl _ _))) (HY2.out.nw (Kp.drew (Kp.refl _ _)))).mono ?_); rintro e w1 ⟨v', rfl, his, hk⟩; obtain ⟨A', n', c', rfl⟩ := his.shape; obtain ⟨r0, r1, r2, r3⟩ := (HB2.out.2.2.drew.kp hk (fun e => e)).two; have m0 := (hk.cell (p := ⟨w.heap.size, 0, none⟩) l1 (fun e => e)).trans k0; have m1 := (hk.cell (p := ⟨w.heap.size, 1, none⟩) l1 (fun e => e)).trans k1; have m2 := (hk.cell (p := ⟨w.heap.size + 1, 1, none⟩) l2 (fun e => e)).trans k2; have l3 := Nat.lt_of_lt_of_le l1 hk.size; have l4 := Nat.lt_of_lt_of_le l2 hk.size)))
    go_wp2
    refine bodyPost_ret (v := .agg #[.bool s, .slice A' n' c']) (by simp [results, Try.results66, go_sem, r0, r1]) rfl ⟨_, rfl, ⟨s, A', n', c', rfl, ?_, hz.out.2⟩, ?_⟩
    · rw [hz.out.1]
      exact his.two_ HB2.out.2.2 hk.undrew _ _ (by decide)
    · exact ((HK2.out.drew.tr hk).new (by omega) _ _).new (by omega) _ _
  · have est : (s == t) = false := by simpa using hst
    clear hp
    go_enter Try.func66, Try.ntmps66
    go_wp2_with fail
    refine (hl _ (HX.out.nw (((nw_alloc w _).alloc _).alloc _)) (HY.out.nw (((nw_alloc w _).alloc _).alloc _))).mono ?_
    rintro e w2 ⟨rfl, hk2⟩
    have HB2 := Lib.hid (And.intro (HB.out.1.kp hk2 id) (And.intro (HB.out.2.1.kp hk2 id) (HB.out.2.2.kp hk2 id)))
    have HK2 := Lib.hid ((((nw_alloc w _).alloc _).alloc _).tr hk2)
    clear hk2 hl
    by_cases h : a.natAbs < b.natAbs
    · have e1 : decide (a.natAbs < b.natAbs) = true := decide_eq_true h
      have hz := Lib.hid (zadd_less hst HS.out HT.out h)
      have hle := Nat.le_of_lt h
      clear hm1 h
      obtain ⟨q0, q1, q2, q3⟩ := HB2.out.1.two
      obtain ⟨p0, p1, p2, p3⟩ := HB2.out.2.1.two
      go_upto_region 5 with fail
      have b0 := HB2.out.1.lay2 (.bool t) (.slice A2 n2 c2)
      have b1 := ((HB2.out.2.1.far (p := ⟨w.heap.size, 0, none⟩) (by simp) (.bool t)).far (p := ⟨w.heap.size, 1, none⟩) (by simp) (.slice A2 n2 c2)).lay2 (.bool s) (.slice A n c)
      have b2 := (((HB2.out.2.2.far (p := ⟨w.heap.size, 0, none⟩) (by simp) (.bool t)).far (p := ⟨w.heap.size, 1, none⟩) (by simp) (.slice A2 n2 c2)).far (p := ⟨w.heap.size + 1, 0, none⟩) (by simp) (.bool s)).far (p := ⟨w.heap.size + 1, 1, none⟩) (by simp) (.slice A n c)
      have b0 := (b0.far (p := ⟨w.heap.size + 1, 0, none⟩) (by simp) (.bool s)).far (p := ⟨w.heap.size + 1, 1, none⟩) (by simp) (.slice A n c)
      have x0 := (HX.out.nw HK2.out).two_ HB2.out.1 (Kp.refl _ _) (.bool t) (.slice A2 n2 c2) (by decide)
      have y0 := (HY.out.nw HK2.out).two_ HB2.out.1 (Kp.refl _ _) (.bool t) (.slice A2 n2 c2) (by decide)
      have x0 := x0.two_ (HB2.out.2.1.far (p := ⟨w.heap.size, 0, none⟩) (by simp) (.bool t)|>.far (p := ⟨w.heap.size, 1, none⟩) (by simp) (.slice A2 n2 c2)) (Kp.refl _ _) (.bool s) (.slice A n c) (by decide)
      have y0 := y0.two_ (HB2.out.2.1.far (p := ⟨w.heap.size, 0, none⟩) (by simp) (.bool t)|>.far (p := ⟨w.heap.size, 1, none⟩) (by simp) (.slice A2 n2 c2)) (Kp.refl _ _) (.bool s) (.slice A n c) (by decide)
      have hk3 := (((HK2.out.new (b := w.heap.size) (by omega) 0 (.bool t)).new (b := w.heap.size) (by omega) 1 (.slice A2 n2 c2)).new (b := w.heap.size + 1) (by omega) 0 (.bool s)).new (b := w.heap.size + 1) (by omega) 1 (.slice A n c)
      generalize (((w2.setCell ⟨w.heap.size, 0, none⟩ (.bool t)).setCell ⟨w.heap.size, 1, none⟩ (.slice A2 n2 c2)).setCell ⟨w.heap.size + 1, 0, none⟩ (.bool s)).setCell ⟨w.heap.size + 1, 1, none⟩ (.slice A n c) = w3 at *
      clear q0 q1 q2 q3 p0 p1 p2 p3
      have HX2 := Lib.hid x0
      have HY2 := Lib.hid y0
      have HB3 := Lib.hid b2
      have HK3 := Lib.hid hk3
      obtain ⟨k0, k1, _, _⟩ := b0.two
      obtain ⟨_, k2, _, _⟩ := b1.two
      have l1 := b0.lt
      have l2 := b1.lt
      clear b0 b1 b2 x0 y0 hk3
      go_region_held3 (fun w' : World => w'.cell? (⟨w.heap.size, 0, none⟩ : Addr) = some (.bool t) ∧ w'.cell? (⟨w.heap.size, 1, none⟩ : Addr) = some (.slice A2 n2 c2) ∧ w'.cell? (⟨w.heap.size + 1, 1, none⟩ : Addr) = some (.slice A n c))
        (first | exact ⟨k0, k1, k2⟩ | exact ⟨m0, m1, m2⟩ | exact ⟨(kcell w1 _ _ l3 (by omega)).trans m0, (kcell w1 _ _ l3 (by omega)).trans m1, (kcell w1 _ _ l4 (by omega)).trans m2⟩)
        ((go_at_call 77; ((with_reducible refine (hm2 _ (HY2.out.nw (Kp.drew (Kp.refl _ _))) (HX2.out.nw (Kp.drew (Kp.refl _ _))) hle).mono ?_); rintro e w1 ⟨v', rfl, his, hk⟩; obtain ⟨A', n', c', rfl⟩ := his.shape; obtain ⟨r0, r1, r2, r3⟩ := (HB3.out.drew.kp hk (fun e => e)).two; have m0 := (hk.cell (p := ⟨w.heap.size, 0, none⟩) l1 (fun e => e)).trans k0; have m1 := (hk.cell (p := ⟨w.heap.size, 1, none⟩) l1 (fun e => e)).trans k1; have m2 := (hk.cell (p := ⟨w.heap.size + 1, 1, none⟩) l2 (fun e => e)).trans k2; have l3 := Nat.lt_of_lt_of_le l1 hk.size; have l4 := Nat.lt_of_lt_of_le l2 hk.size)))
      go_wp2
      refine bodyPost_ret (v := .agg #[.bool t, .slice A' n' c']) (by simp [results, Try.results66, go_sem, r0, r1]) rfl ⟨_, rfl, ⟨t, A', n', c', rfl, ?_, hz.out.2⟩, ?_⟩
      · rw [hz.out.1]
        exact his.two_ HB3.out hk.undrew _ _ (by decide)
      · exact ((HK3.out.drew.tr hk).new (by omega) _ _).new (by omega) _ _
    · have e1 : decide (a.natAbs < b.natAbs) = false := decide_eq_false h
      have hz := Lib.hid (zadd_more hst HS.out HT.out h)
      have hle := Nat.le_of_not_lt h
      have HX2 := Lib.hid (HX.out.nw HK2.out)
      have HY2 := Lib.hid (HY.out.nw HK2.out)
      clear hm2 h
      go_upto_region 5 with fail
      obtain ⟨k0, k1, _, _⟩ := HB2.out.1.two
      obtain ⟨_, k2, _, _⟩ := HB2.out.2.1.two
      have l1 := HB2.out.1.lt
      have l2 := HB2.out.2.1.lt
      go_region_held3 (fun w' : World => w'.cell? (⟨w.heap.size, 0, none⟩ : Addr) = some (.bool s) ∧ w'.cell? (⟨w.heap.size, 1, none⟩ : Addr) = some (.slice A n c) ∧ w'.cell? (⟨w.heap.size + 1, 1, none⟩ : Addr) = some (.slice A2 n2 c2))
        (first | exact ⟨k0, k1, k2⟩ | exact ⟨m0, m1, m2⟩ | exact ⟨(kcell w1 _ _ l3 (by omega)).trans m0, (kcell w1 _ _ l3 (by omega)).trans m1, (kcell w1 _ _ l4 (by omega)).trans m2⟩)
        ((go_at_call 77; ((with_reducible refine (hm1 _ (HX2.out.nw (Kp.drew (Kp.refl _ _))) (HY2.out.nw (Kp.drew (Kp.refl _ _))) hle).mono ?_); rintro e w1 ⟨v', rfl, his, hk⟩; obtain ⟨A', n', c', rfl⟩ := his.shape; obtain ⟨r0, r1, r2, r3⟩ := (HB2.out.2.2.drew.kp hk (fun e => e)).two; have m0 := (hk.cell (p := ⟨w.heap.size, 0, none⟩) l1 (fun e => e)).trans k0; have m1 := (hk.cell (p := ⟨w.heap.size, 1, none⟩) l1 (fun e => e)).trans k1; have m2 := (hk.cell (p := ⟨w.heap.size + 1, 1, none⟩) l2 (fun e => e)).trans k2; have l3 := Nat.lt_of_lt_of_le l1 hk.size; have l4 := Nat.lt_of_lt_of_le l2 hk.size)))
      go_wp2
      refine bodyPost_ret (v := .agg #[.bool s, .slice A' n' c']) (by simp [results, Try.results66, go_sem, r0, r1]) rfl ⟨_, rfl, ⟨s, A', n', c', rfl, ?_, hz.out.2⟩, ?_⟩
      · rw [hz.out.1]
        exact his.two_ HB2.out.2.2 hk.undrew _ _ (by decide)
      · exact ((HK2.out.drew.tr hk).new (by omega) _ _).new (by omega) _ _
end Go.Proofs.Ythefkomalakfeaa.W
