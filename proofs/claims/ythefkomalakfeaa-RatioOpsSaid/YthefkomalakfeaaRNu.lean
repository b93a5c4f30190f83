/-
  The reference's Sub: what it returns. Condition: the parts are ints.
-/
import Derived.Test.YthefkomalakfeaaRNo
import Derived.Test.YthefkomalakfeaaQA
namespace Go.Proofs.Ythefkomalakfeaa.W
open Go.RowKit Go.Proofs.Ythefkomalakfeaa.Q

set_option maxRecDepth 100000 in
set_option maxHeartbeats 3200000 in
theorem refSub_any (an ad bn bd : Int) (ha1 : I64 an) (ha2 : I64 ad) (hb1 : I64 bn) (hb2 : I64 bd) (w : World) : Calls Try.prog 13 #[raV an ad, raV bn bd] w fun e w' => e = .returned (resV (subR an ad bn bd)) ∧ Nw w w' := by
  have hB := blk3 w 23 #[.int .i64 an, .int .i64 ad] #[.int .i64 bn, .int .i64 bd] #[.int .i64 0, .int .i64 0]
  have hn := fun w1 => refNeg_any bn bd hb1 hb2 w1
  obtain ⟨f1, f2⟩ := neg_fits (n := bn) hb2
  have ha := fun w1 => refAdd_any an ad (negR bn bd).1 (negR bn bd).2 ha1 ha2 f1 f2 w1
  rw [sub_way2] at ha
  generalize (negR bn bd).1 = n at *
  generalize (negR bn bd).2 = d at *
  generalize subR an ad bn bd = r at *
  have HB := Lib.hid hB
  have HK0 := Lib.hid (((nw_alloc w (.cells #[.int .i64 an, .int .i64 ad] 23)).alloc (.cells #[.int .i64 bn, .int .i64 bd] 23)).alloc (.cells #[.int .i64 0, .int .i64 0] 23))
  clear hB f1 f2 ha1 ha2 hb1 hb2
  go_enter Try.func13, Try.ntmps13
  go_wp2_with fail
  generalize hw0 : ((w.alloc (.cells #[.int .i64 an, .int .i64 ad] 23)).alloc (.cells #[.int .i64 bn, .int .i64 bd] 23)).alloc (.cells #[.int .i64 0, .int .i64 0] 23) = w0
  rw [hw0] at HB HK0
  clear hw0
  obtain ⟨k0, k1, _, _⟩ := HB.out.1.two
  obtain ⟨k2, k3, _, _⟩ := HB.out.2.1.two
  have l1 := HB.out.1.lt
  have l2 := HB.out.2.1.lt
  have hP : ∀ w' : World, Nw w0 w' → w'.cell? (⟨w.heap.size, 0, none⟩ : Addr) = some (.int .i64 an) ∧ w'.cell? (⟨w.heap.size, 1, none⟩ : Addr) = some (.int .i64 ad) ∧ w'.cell? (⟨w.heap.size + 1, 0, none⟩ : Addr) = some (.int .i64 bn) ∧ w'.cell? (⟨w.heap.size + 1, 1, none⟩ : Addr) = some (.int .i64 bd) :=
    fun w' h => ⟨(h.cell (p := ⟨w.heap.size, 0, none⟩) l1 id).trans k0, (h.cell (p := ⟨w.heap.size, 1, none⟩) l1 id).trans k1, (h.cell (p := ⟨w.heap.size + 1, 0, none⟩) l2 id).trans k2, (h.cell (p := ⟨w.heap.size + 1, 1, none⟩) l2 id).trans k3⟩
  have hQ : ∀ w' : World, Nw w0 w' → ∀ x y : Value, ((w'.setCell ⟨w.heap.size + 2, 0, none⟩ x).setCell ⟨w.heap.size + 2, 1, none⟩ y).cell? (⟨w.heap.size, 0, none⟩ : Addr) = some (.int .i64 an) ∧ ((w'.setCell ⟨w.heap.size + 2, 0, none⟩ x).setCell ⟨w.heap.size + 2, 1, none⟩ y).cell? (⟨w.heap.size, 1, none⟩ : Addr) = some (.int .i64 ad) ∧ ((w'.setCell ⟨w.heap.size + 2, 0, none⟩ x).setCell ⟨w.heap.size + 2, 1, none⟩ y).cell? (⟨w.heap.size + 1, 0, none⟩ : Addr) = some (.int .i64 bn) ∧ ((w'.setCell ⟨w.heap.size + 2, 0, none⟩ x).setCell ⟨w.heap.size + 2, 1, none⟩ y).cell? (⟨w.heap.size + 1, 1, none⟩ : Addr) = some (.int .i64 bd) :=
    fun w' h x y => by
      obtain ⟨p0, p1, p2, p3⟩ := hP w' h
      exact ⟨(kcell w' x y (Nat.lt_of_lt_of_le l1 h.size) (by omega)).trans p0, (kcell w' x y (Nat.lt_of_lt_of_le l1 h.size) (by omega)).trans p1, (kcell w' x y (Nat.lt_of_lt_of_le l2 h.size) (by omega)).trans p2, (kcell w' x y (Nat.lt_of_lt_of_le l2 h.size) (by omega)).trans p3⟩
  have HP := Lib.hid hP
  have HQ := Lib.hid hQ
  clear hP hQ k0 k1 k2 k3
  go_region_held3 (fun w' : World => w'.cell? (⟨w.heap.size, 0, none⟩ : Addr) = some (.int .i64 an) ∧ w'.cell? (⟨w.heap.size, 1, none⟩ : Addr) = some (.int .i64 ad) ∧ w'.cell? (⟨w.heap.size + 1, 0, none⟩ : Addr) = some (.int .i64 bn) ∧ w'.cell? (⟨w.heap.size + 1, 1, none⟩ : Addr) = some (.int .i64 bd))
    (first | exact HP.out _ (Kp.refl _ _) | exact HP.out _ (Kp.drew (Kp.refl _ _)) | exact HP.out _ hb | exact HQ.out _ hb _ _ | fail)
    (first
      | (go_at_call 24; ((with_reducible refine (hn _).mono ?_); rintro e w1 ⟨rfl, hk1⟩; have hb : Nw w0 w1 := (Kp.drew (Kp.refl _ _)).tr hk1))
      | (go_at_call 11; ((with_reducible refine (ha _).mono ?_); rintro e w2 ⟨rfl, hk2⟩; have hb : Nw w0 w2 := hb.tr hk2; obtain ⟨t0, t1, t2, t3⟩ := (HB.out.2.2.kp hb id).two)))
  go_wp2
  exact bodyPost_ret (v := resV r) (by simp [results, Try.results13, go_sem, t0, t1]) rfl ⟨rfl, ((HK0.out.tr hb).new (by omega) _ _).new (by omega) _ _⟩
end Go.Proofs.Ythefkomalakfeaa.W
