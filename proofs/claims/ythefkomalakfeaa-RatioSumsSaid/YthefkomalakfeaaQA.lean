/-
  ratio: Add, Sub: what they return; awake: that it is true. Condition: the parts are ints.
-/
import Derived.Test.YthefkomalakfeaaQS
namespace Go.Proofs.Ythefkomalakfeaa.W
open Go.RowKit Go.Proofs.Ythefkomalakfeaa.Q

theorem src_blk {w : World} {g : Nat} {l : List (Int × Int)} (h : Blk w g 23 (l.flatMap rtC).toArray) (hl : l.length ≤ 1099511627776) : SrcR w (.slice (some ⟨g, 0, none⟩) l.length l.length) l := by
  refine ⟨?_, _, _, rfl, Nat.le_refl _, by unfold maxLen; omega, fun _ => ⟨g, 0, rfl, h.lt, fun j u hu => ?_⟩⟩
  · rw [List.length_flatMap]
    clear h hl
    induction l with
    | nil => rfl
    | cons x r ih => rw [List.map_cons, List.sum_cons, ih, List.length_cons]; show 2 + r.length * 2 = _; omega
  · rw [Nat.zero_add, h.cell j, List.getElem?_toArray]
    exact hu
theorem add_way2 (an ad bn bd : Int) : sumR [(an, ad), (bn, bd)] = addR an ad bn bd := by
  unfold sumR addR both
  by_cases ha : Vld an ad
  · by_cases hb : Vld bn bd
    · rw [if_pos (by simp [ha, hb]), if_neg (by simp), good_rat ha, good_rat hb]
      simp [total, Rat.zero_add]
    · rw [if_neg (by simp [ha, hb]), good_rat ha, val_good hb]
  · rw [if_neg (by simp [ha]), val_good ha]
theorem sub_way2 (an ad bn bd : Int) : addR an ad (negR bn bd).1 (negR bn bd).2 = subR an ad bn bd := by
  unfold subR addR negR
  by_cases hb : Vld bn bd
  · rw [if_pos hb, good_rat hb]
    simp only []
    have hn : Vld (-bn) bd := vld_neg.2 hb
    rw [good_rat hn]
    unfold both
    cases val an ad
    · rfl
    · simp only []
      rw [Rat.sub_eq_add_neg, Rat.neg_divInt]
  · rw [if_neg hb, val_good hb, val_good (show ¬ Vld ((0, 0) : Int × Int).1 ((0, 0) : Int × Int).2 from not_vld0)]
    unfold both
    cases val an ad <;> rfl

set_option maxRecDepth 100000 in
set_option maxHeartbeats 1600000 in
theorem add_any (an ad bn bd : Int) (ha1 : I64 an) (ha2 : I64 ad) (hb1 : I64 bn) (hb2 : I64 bd) (w : World) : Calls Try.prog 10 #[raV an ad, raV bn bd] w fun e w' => e = .returned (resV (addR an ad bn bd)) ∧ Nw w w' := by
  have HB := Lib.hid (blk3 w 23 #[.int .i64 an, .int .i64 ad] #[.int .i64 bn, .int .i64 bd] #[.int .i64 0, .int .i64 0])
  have hs := fun v w1 h => sum_any [(an, ad), (bn, bd)] v w1 h (by intro p hp; simp at hp; rcases hp with rfl | rfl; exact ⟨ha1, ha2⟩; exact ⟨hb1, hb2⟩) (by simp)
  rw [add_way2] at hs
  clear ha1 ha2 hb1 hb2
  go_enter Try.func10, Try.ntmps10
  go_wp2_with fail
  have hsz : (((w.alloc (.cells #[.int .i64 an, .int .i64 ad] 23)).alloc (.cells #[.int .i64 bn, .int .i64 bd] 23)).alloc (.cells #[.int .i64 0, .int .i64 0] 23)).heap.size = w.heap.size + 1 + 1 + 1 := by simp
  refine (hs _ _ (src_blk (Blk.new_at _ _ _ hsz) (by simp))).mono ?_
  rintro e w1 ⟨rfl, hk1⟩
  obtain ⟨t0, t1, t2, t3⟩ := ((HB.out.2.2.alloc _).kp hk1 id).two
  go_wp2
  exact bodyPost_ret (v := resV (addR an ad bn bd)) (by simp [results, Try.results10, go_sem, t0, t1]) rfl ⟨rfl, (((((nw_alloc w _).alloc _).alloc _).alloc _).tr hk1).new (by omega) _ _ |>.new (by omega) _ _⟩

set_option maxRecDepth 100000 in
set_option maxHeartbeats 3200000 in
theorem sub_any (an ad bn bd : Int) (ha1 : I64 an) (ha2 : I64 ad) (hb1 : I64 bn) (hb2 : I64 bd) (w : World) : Calls Try.prog 12 #[raV an ad, raV bn bd] w fun e w' => e = .returned (resV (subR an ad bn bd)) ∧ Nw w w' := by
  have hB := blk3 w 23 #[.int .i64 an, .int .i64 ad] #[.int .i64 bn, .int .i64 bd] #[.int .i64 0, .int .i64 0]
  have hn := fun w1 => neg_any bn bd hb1 hb2 w1
  obtain ⟨f1, f2⟩ := neg_fits (n := bn) hb2
  have ha := fun w1 => add_any an ad (negR bn bd).1 (negR bn bd).2 ha1 ha2 f1 f2 w1
  rw [sub_way2] at ha
  generalize (negR bn bd).1 = n at *
  generalize (negR bn bd).2 = d at *
  generalize subR an ad bn bd = r at *
  have HB := Lib.hid hB
  have HK0 := Lib.hid (((nw_alloc w (.cells #[.int .i64 an, .int .i64 ad] 23)).alloc (.cells #[.int .i64 bn, .int .i64 bd] 23)).alloc (.cells #[.int .i64 0, .int .i64 0] 23))
  clear hB f1 f2 ha1 ha2 hb1 hb2
  go_enter Try.func12, Try.ntmps12
  go_wp2_with fail
  generalize hw0 : ((w.alloc (.cells #[.int .i64 an, .int .i64 ad] 23)).alloc (.cells #[.int .i64 bn, .int .i64 bd] 23)).alloc (.cells #[.int .i64 0, .int .i64 0] 23) = w0
  rw [hw0] at HB HK0
  clear hw0
  obtain ⟨k0, k1, _, _⟩ := HB.out.1.two
  obtain ⟨k2, k3, _, _⟩ := HB.out.2.1.two
  have l1 := HB.out.1.lt
  have l2 := HB.out.2.1.lt
  have hP : ∀ w' : World, Nw w0 w' → w'.cell? (⟨w.heap.size, 0, none⟩ : Addr) = some (.int .i64 an) ∧ w'.cell? (⟨w.heap.size, 1, none⟩ : Addr) = some (.int .i64 ad) ∧ w'.cell? (⟨w.heap.size + 1, 0, none⟩ : Addr) = some (.int .i64 bn) ∧ w'.cell? (⟨w.heap.size + 1, 1, none⟩ : Addr) = some (.int .i64 bd) :=
    fun w' h => ⟨(h.cell (p := ⟨w.heap.size, 0, none⟩) l1 id).trans k0, (h.cell (p := ⟨w.heap.size, 1, none⟩) l1 id).trans k1, (h.cell (p := ⟨w.heap.size + 1, 0, none⟩) l2 id).trans k2, (h.cell (p := ⟨w.heap.size + 1, 1, none⟩) l2 id).trans k3⟩
  have hQ : ∀ w' : World, Nw w0 w' → ∀ x y : Value, ((w'.setCell ⟨w.heap.size + 2, 0, none⟩ x).setCell ⟨w.heap.size + 2, 1, none⟩ y).cell? (⟨w.heap.size, 0, none⟩ : Addr) = some (.int .i64 an) ∧ ((w'.setCell ⟨w.heap.size + 2, 0, none⟩ x).setCell ⟨w.heap.size + 2, 1, none⟩ y).cell? (⟨w.heap.size, 1, none⟩ : Addr) = some (.int .i64 ad) ∧ ((w'.setCell ⟨w.heap.size + 2, 0, none⟩ x).setCell ⟨w.heap.size + 2, 1, none⟩ y).cell? (⟨w.heap.size + 1, 0, none⟩ : Addr) = some (.int .i64 bn) ∧ ((w'.setCell ⟨w.heap.size + 2, 0, none⟩ x).setCell ⟨w.heap.size + 2, 1, none⟩ y).cell? (⟨w.heap.size + 1, 1, none⟩ : Addr) = some (.int .i64 bd) :=
    fun w' h x y => by
      obtain ⟨p0, p1, p2, p3⟩ := hP w' h
      exact ⟨(kcell w' x y (Nat.lt_of_lt_of_le l1 h.size) (by omega)).trans p0, (kcell w' x y (Nat.lt_of_lt_of_le l1 h.size) (by omega)).trans p1, (kcell w' x y (Nat.lt_of_lt_of_le l2 h.size) (by omega)).trans p2, (kcell w' x y (Nat.lt_of_lt_of_le l2 h.size) (by omega)).trans p3⟩
  have HP := Lib.hid hP
  have HQ := Lib.hid hQ
  clear hP hQ k0 k1 k2 k3
  go_region_held3 (fun w' : World => w'.cell? (⟨w.heap.size, 0, none⟩ : Addr) = some (.int .i64 an) ∧ w'.cell? (⟨w.heap.size, 1, none⟩ : Addr) = some (.int .i64 ad) ∧ w'.cell? (⟨w.heap.size + 1, 0, none⟩ : Addr) = some (.int .i64 bn) ∧ w'.cell? (⟨w.heap.size + 1, 1, none⟩ : Addr) = some (.int .i64 bd))
    (first | exact HP.out _ (Kp.refl _ _) | exact HP.out _ (Kp.drew (Kp.refl _ _)) | exact HP.out _ hb | exact HQ.out _ hb _ _ | fail)
    (first
      | (go_at_call 23; ((with_reducible refine (hn _).mono ?_); rintro e w1 ⟨rfl, hk1⟩; have hb : Nw w0 w1 := (Kp.drew (Kp.refl _ _)).tr hk1))
      | (go_at_call 10; ((with_reducible refine (ha _).mono ?_); rintro e w2 ⟨rfl, hk2⟩; have hb : Nw w0 w2 := hb.tr hk2; obtain ⟨t0, t1, t2, t3⟩ := (HB.out.2.2.kp hb id).two)))
  go_wp2
  exact bodyPost_ret (v := resV r) (by simp [results, Try.results12, go_sem, t0, t1]) rfl ⟨rfl, ((HK0.out.tr hb).new (by omega) _ _).new (by omega) _ _⟩
end Go.Proofs.Ythefkomalakfeaa.W
