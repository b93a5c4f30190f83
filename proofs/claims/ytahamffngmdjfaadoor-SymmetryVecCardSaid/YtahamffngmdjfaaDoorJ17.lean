/-
  symmetry and its reference: Box: what it returns. Conditions: the table of the quarter turns for the program, and coordinates that an int holds.
-/
import Derived.Test.YtahamffngmdjfaaDoorJ04
import Derived.Test.YtahamffngmdjfaaDoorJ05
import Derived.Test.YtahamffngmdjfaaDoorJ09
import Derived.Test.YtahamffngmdjfaaDoorJ11
import Derived.Test.YtahamffngmdjfaaDoorJ16
namespace Go.Proofs.YtahamffngmdjfaaDoor.W
open Go.RowKit Go.Proofs.YtahamffngmdjfaaDoor.V Go.Proofs.YtahamffngmdjfaaDoor.G

/-- the box of the mapped corners -/
def mapB (t a b c d : Int) : Int × Int × Int × Int := if validT t then (boxOf [mapV t a b, mapV t c d]).1 else (a, b, c, d)
section
variable {wd u3 : World} {g : Nat} {x1 x2 x3 x4 a b c d : Value}
theorem boxEnd1 (h : Nw wd u3) : ∃ k, Value.pointer (some ⟨u3.heap.size, 0, none⟩) = .pointer (some ⟨k, 0, none⟩) ∧ Blk (u3.alloc (.cells #[a, b, c, d] 25)) k 25 #[a, b, c, d] ∧ Nw wd (u3.alloc (.cells #[a, b, c, d] 25)) :=
  ⟨_, rfl, Blk.new _ _ _, h.alloc _⟩
theorem boxEnd2 (h : Nw wd u3) (b0 : Blk u3 g 25 #[x1, x2, x3, x4]) (hg : wd.heap.size ≤ g) : ∃ k, Value.pointer (some ⟨g, 0, none⟩) = .pointer (some ⟨k, 0, none⟩) ∧ Blk ((((u3.setCell ⟨g, 0, none⟩ a).setCell ⟨g, 1, none⟩ b).setCell ⟨g, 2, none⟩ c).setCell ⟨g, 3, none⟩ d) k 25 #[a, b, c, d] ∧ Nw wd ((((u3.setCell ⟨g, 0, none⟩ a).setCell ⟨g, 1, none⟩ b).setCell ⟨g, 2, none⟩ c).setCell ⟨g, 3, none⟩ d) :=
  ⟨_, rfl, (((b0.set_ 0 a).set_ 1 b).set_ 2 c).set_ 3 d, (((h.new hg _ _).new hg _ _).new hg _ _).new hg _ _⟩
end

set_option maxRecDepth 100000 in
set_option maxHeartbeats 6400000 in
theorem tbox_any (t a b c d : Int) (w : World) (hT : TabQ w) (ha : I64 a) (hb : I64 b) (hc : I64 c) (hd : I64 d) : Calls Tryd.prog 14 #[.int .i64 t, bV a b c d] w fun e w' => e = .returned (boxV (mapB t a b c d)) ∧ Nw w w' := by
  have hmix := mixed7
  by_cases hv : validT t = true
  · have c1 := fun w1 => tvalid_any t w1
    rw [hv] at c1
    obtain ⟨⟨mx, my⟩, h1⟩ : ∃ m, mapV t a b = m := ⟨_, rfl⟩
    obtain ⟨⟨nx, ny⟩, h2⟩ : ∃ m, mapV t c d = m := ⟨_, rfl⟩
    obtain ⟨⟨r1, r2, r3, r4⟩, hr⟩ : ∃ r, (boxOf [(mx, my), (nx, ny)]).1 = r := ⟨_, rfl⟩
    obtain ⟨ok, hok⟩ : ∃ r, (boxOf [(mx, my), (nx, ny)]).2 = r := ⟨_, rfl⟩
    have hres : mapB t a b c d = (r1, r2, r3, r4) := by unfold mapB; rw [if_pos hv, h1, h2, hr]
    rw [hres]
    clear hres
    go_enter Tryd.func14, Tryd.ntmps14
    go_upto_region 3 with (first | (go_at_call 10; ((with_reducible refine (c1 _).mono ?_); rintro e _ ⟨rfl, rfl⟩)) | fail)
    have hbb := (Blk.new_at w 25 #[.int .i64 a, .int .i64 b, .int .i64 c, .int .i64 d] (n := w.heap.size) rfl).alloc (.cells #[.int .i64 0, .int .i64 0, .int .i64 0, .int .i64 0] 25)
    have hbz := Blk.new_at (w.alloc (.cells #[.int .i64 a, .int .i64 b, .int .i64 c, .int .i64 d] 25)) 25 #[.int .i64 0, .int .i64 0, .int .i64 0, .int .i64 0] (n := w.heap.size + 1) (by simp)
    have hnw := (nw_alloc w (.cells #[.int .i64 a, .int .i64 b, .int .i64 c, .int .i64 d] 25)).alloc (.cells #[.int .i64 0, .int .i64 0, .int .i64 0, .int .i64 0] 25)
    generalize hwd : (w.alloc (.cells #[.int .i64 a, .int .i64 b, .int .i64 c, .int .i64 d] 25)).alloc (.cells #[.int .i64 0, .int .i64 0, .int .i64 0, .int .i64 0] 25) = wd at *
    clear hwd
    have HT := Lib.hid (hT.nw hnw)
    have HW := Lib.hid hnw
    have HZ := Lib.hid hbz
    have HP := Lib.hid (show ∀ w', Nw wd w' → w'.cell? (⟨w.heap.size, 0, none⟩ : Addr) = some (.int .i64 a) ∧ w'.cell? (⟨w.heap.size, 1, none⟩ : Addr) = some (.int .i64 b) ∧ w'.cell? (⟨w.heap.size, 2, none⟩ : Addr) = some (.int .i64 c) ∧ w'.cell? (⟨w.heap.size, 3, none⟩ : Addr) = some (.int .i64 d) from fun w' h => by
      have hk := hbb.kp h id
      exact ⟨hk.cell 0, hk.cell 1, hk.cell 2, hk.cell 3⟩)
    have z0 := hbb.cell 0
    have z1 := hbb.cell 1
    have z2 := hbb.cell 2
    have z3 := hbb.cell 3
    have c6 := fun w1 (h : Nw wd w1) => tvec_any t a b w1 (HT.out.nw h) ha hb
    have c7 := fun w1 (h : Nw wd w1) => tvec_any t c d w1 (HT.out.nw h) hc hd
    rw [h1] at c6
    rw [h2] at c7
    have c8 : ∀ (w1 : World) (g : Nat), Blk w1 g 23 #[.int .i64 mx, .int .i64 my, .int .i64 nx, .int .i64 ny] → Calls Tryd.prog 40 #[.slice (some ⟨g, 0, none⟩) 2 2] w1 fun e w' => e = .returned (.tuple #[bV r1 r2 r3 r4, .bool ok]) ∧ Nw w1 w' := fun w1 g hg => by
      have h := boxOf_any [(mx, my), (nx, ny)] (.slice (some ⟨g, 0, none⟩) 2 2) w1 (RowB.src (l := [(mx, my), (nx, ny)]) hg rfl (by decide +kernel))
      rw [hr, hok] at h
      exact h
    clear hbb hbz hnw h1 h2 hr hok hv hT ha hb hc hd
    go_cut [5] from 6 to 24 (fun pv wx => ∃ g, pv = .pointer (some ⟨g, 0, none⟩) ∧ Blk wx g 25 #[.int .i64 r1, .int .i64 r2, .int .i64 r3, .int .i64 r4] ∧ Nw wd wx)
    case first =>
      go_wp2_with fail
      go_region_held3 (fun w' : World => w'.cell? (⟨w.heap.size, 0, none⟩ : Addr) = some (.int .i64 a) ∧ w'.cell? (⟨w.heap.size, 1, none⟩ : Addr) = some (.int .i64 b) ∧ w'.cell? (⟨w.heap.size, 2, none⟩ : Addr) = some (.int .i64 c) ∧ w'.cell? (⟨w.heap.size, 3, none⟩ : Addr) = some (.int .i64 d))
        (first | ((refine HP.out _ ?_); (repeat (first | exact hb3 | exact hb2 | exact hb1 | exact Kp.refl _ _ | refine Kp.alloc ?_ _ | refine Kp.drew ?_ | refine Kp.new ?_ (by omega) _ _))) | fail)
        (first | (go_at_call 12; ((with_reducible refine (c6 _ ?_).mono ?_); (repeat (first | exact hb3 | exact hb2 | exact hb1 | exact Kp.refl _ _ | refine Kp.alloc ?_ _ | refine Kp.drew ?_ | refine Kp.new ?_ (by omega) _ _)); rintro e u1 ⟨rfl, hk1⟩; have hb1 : Nw wd u1 := Kp.tr (by repeat (first | exact hb3 | exact hb2 | exact hb1 | exact Kp.refl _ _ | refine Kp.alloc ?_ _ | refine Kp.drew ?_ | refine Kp.new ?_ (by omega) _ _)) hk1; have l1 := hb1.size; with_reducible (first | (have p0 := Blk.nw (Blk.drew (Blk.new_at _ 25 #[.int .i64 0, .int .i64 0, .int .i64 0, .int .i64 0] (n := wd.heap.size) (by simp))) hk1; have t0 := p0.cell 0; have t1 := p0.cell 1; have t2 := p0.cell 2; have t3 := p0.cell 3; have f0 := p0.frozen 0; have f1 := p0.frozen 1; have f2 := p0.frozen 2; have f3 := p0.frozen 3; have t9 := p0.lt) | skip))) | (go_at_call 12; ((with_reducible refine (c7 _ ?_).mono ?_); (repeat (first | exact hb3 | exact hb2 | exact hb1 | exact Kp.refl _ _ | refine Kp.alloc ?_ _ | refine Kp.drew ?_ | refine Kp.new ?_ (by omega) _ _)); rintro e u2 ⟨rfl, hk2⟩; have hb2 : Nw wd u2 := Kp.tr (by repeat (first | exact hb3 | exact hb2 | exact hb1 | exact Kp.refl _ _ | refine Kp.alloc ?_ _ | refine Kp.drew ?_ | refine Kp.new ?_ (by omega) _ _)) hk2; have l2 := hb2.size; with_reducible (first | (have t := p0; have pp := Blk.nw p0 hk2; have t0 := pp.cell 0; have t1 := pp.cell 1; have t2 := pp.cell 2; have t3 := pp.cell 3; have f0 := pp.frozen 0; have f1 := pp.frozen 1; have f2 := pp.frozen 2; have f3 := pp.frozen 3; have t9 := pp.lt) | (have pp := Blk.nw (Blk.new_at _ 25 #[.int .i64 0, .int .i64 0, .int .i64 0, .int .i64 0] (n := u1.heap.size) (by simp)) hk2; have t0 := pp.cell 0; have t1 := pp.cell 1; have t2 := pp.cell 2; have t3 := pp.cell 3; have f0 := pp.frozen 0; have f1 := pp.frozen 1; have f2 := pp.frozen 2; have f3 := pp.frozen 3; have t9 := pp.lt) | skip))) | (go_at_call 40; ((with_reducible refine (c8 _ _ ?_).mono ?_); (first | exact Blk.new_at _ _ _ (by simp) | exact (Blk.new_at _ _ _ (by simp)).alloc _); rintro e u3 ⟨rfl, hk3⟩; have hb3 : Nw wd u3 := Kp.tr (by repeat (first | exact hb3 | exact hb2 | exact hb1 | exact Kp.refl _ _ | refine Kp.alloc ?_ _ | refine Kp.drew ?_ | refine Kp.new ?_ (by omega) _ _)) hk3; have l3 := hb3.size; with_reducible (first | (have t := pp; have ppp := Blk.nw (Blk.alloc pp _) hk3; have t0 := ppp.cell 0; have t1 := ppp.cell 1; have t2 := ppp.cell 2; have t3 := ppp.cell 3; have f0 := ppp.frozen 0; have f1 := ppp.frozen 1; have f2 := ppp.frozen 2; have f3 := ppp.frozen 3; have t9 := ppp.lt) | (have ppp := Blk.nw (Blk.alloc (Blk.new_at _ 25 #[.int .i64 0, .int .i64 0, .int .i64 0, .int .i64 0] (n := u2.heap.size) (by simp)) _) hk3; have t0 := ppp.cell 0; have t1 := ppp.cell 1; have t2 := ppp.cell 2; have t3 := ppp.cell 3; have f0 := ppp.frozen 0; have f1 := ppp.frozen 1; have f2 := ppp.frozen 2; have f3 := ppp.frozen 3; have t9 := ppp.lt) | (have ppp := Blk.nw (Blk.new_at _ 25 #[.int .i64 0, .int .i64 0, .int .i64 0, .int .i64 0] (n := u2.heap.size + 1) (by simp)) hk3; have t0 := ppp.cell 0; have t1 := ppp.cell 1; have t2 := ppp.cell 2; have t3 := ppp.cell 3; have f0 := ppp.frozen 0; have f1 := ppp.frozen 1; have f2 := ppp.frozen 2; have f3 := ppp.frozen 3; have t9 := ppp.lt) | skip))))
      all_goals (go_wp2_with fail; go_meet; case rel => (first | with_reducible exact boxEnd1 hb3 | (with_reducible refine boxEnd2 hb3 ppp ?_; omega)))
    case rest =>
      obtain ⟨g9, rfl, b9, hk9⟩ := hcut
      have HZ9 := Lib.hid (HZ.out.nw hk9)
      have HN9 := Lib.hid (HW.out.tr hk9)
      obtain ⟨q0, q1, q2, q3, _, _, _, _⟩ := b9.four
      obtain ⟨t0, t1, t2, t3, _, _, _, _⟩ := HZ9.out.four
      clear hk9 b9 hmix c1 c6 c7 c8
      go_wp2_with fail
      generalize hw9 : World.setCell _ _ _ = w9
      have h9 : Blk w9 (w.heap.size + 1) 25 #[.int .i64 r1, .int .i64 r2, .int .i64 r3, .int .i64 r4] := by rw [← hw9]; exact (((HZ9.out.set_ 0 _).set_ 1 _).set_ 2 _).set_ 3 _
      have hn9 : Nw w w9 := by rw [← hw9]; exact (((HN9.out.new (by omega) _ _).new (by omega) _ _).new (by omega) _ _).new (by omega) _ _
      obtain ⟨x0, x1, x2, x3, _, _, _, _⟩ := h9.four
      exact bodyPost_ret (v := bV r1 r2 r3 r4) (by simp [results, Tryd.results14, go_sem, x0, x1, x2, x3]) rfl ⟨rfl, hn9⟩
  · have hv' : validT t = false := by simpa using hv
    have c1 := fun w1 => tvalid_any t w1
    rw [hv'] at c1
    have hres : mapB t a b c d = (a, b, c, d) := by unfold mapB; rw [if_neg (by simp [hv'])]
    rw [hres]
    go_enter Tryd.func14, Tryd.ntmps14
    go_wp2_with (first | (go_at_call 10; ((with_reducible refine (c1 _).mono ?_); rintro e _ ⟨rfl, rfl⟩)) | fail)
    exact bodyPost_ret (v := bV a b c d) (by simp [results, Tryd.results14, go_sem]) rfl ⟨rfl, by repeat (first | exact Kp.refl _ _ | refine Kp.alloc ?_ _ | refine Kp.drew ?_ | refine Kp.drewN ?_ _ | refine Kp.new ?_ (by simp) _ _)⟩

set_option maxRecDepth 100000 in
set_option maxHeartbeats 6400000 in
theorem rtbox_any (t a b c d : Int) (w : World) (ha : I64 a) (hb : I64 b) (hc : I64 c) (hd : I64 d) : Calls Tryd.prog 15 #[.int .i64 t, bV a b c d] w fun e w' => e = .returned (boxV (mapB t a b c d)) ∧ Nw w w' := by
  have hmix := mixed7
  by_cases hv : validT t = true
  · have c1 := fun w1 => rtvalid_any t w1
    rw [hv] at c1
    obtain ⟨⟨mx, my⟩, h1⟩ : ∃ m, mapV t a b = m := ⟨_, rfl⟩
    obtain ⟨⟨nx, ny⟩, h2⟩ : ∃ m, mapV t c d = m := ⟨_, rfl⟩
    obtain ⟨⟨r1, r2, r3, r4⟩, hr⟩ : ∃ r, (boxOf [(mx, my), (nx, ny)]).1 = r := ⟨_, rfl⟩
    obtain ⟨ok, hok⟩ : ∃ r, (boxOf [(mx, my), (nx, ny)]).2 = r := ⟨_, rfl⟩
    have hres : mapB t a b c d = (r1, r2, r3, r4) := by unfold mapB; rw [if_pos hv, h1, h2, hr]
    rw [hres]
    clear hres
    go_enter Tryd.func15, Tryd.ntmps15
    go_upto_region 3 with (first | (go_at_call 11; ((with_reducible refine (c1 _).mono ?_); rintro e _ ⟨rfl, rfl⟩)) | fail)
    have hbb := (Blk.new_at w 25 #[.int .i64 a, .int .i64 b, .int .i64 c, .int .i64 d] (n := w.heap.size) rfl).alloc (.cells #[.int .i64 0, .int .i64 0, .int .i64 0, .int .i64 0] 25)
    have hbz := Blk.new_at (w.alloc (.cells #[.int .i64 a, .int .i64 b, .int .i64 c, .int .i64 d] 25)) 25 #[.int .i64 0, .int .i64 0, .int .i64 0, .int .i64 0] (n := w.heap.size + 1) (by simp)
    have hnw := (nw_alloc w (.cells #[.int .i64 a, .int .i64 b, .int .i64 c, .int .i64 d] 25)).alloc (.cells #[.int .i64 0, .int .i64 0, .int .i64 0, .int .i64 0] 25)
    generalize hwd : (w.alloc (.cells #[.int .i64 a, .int .i64 b, .int .i64 c, .int .i64 d] 25)).alloc (.cells #[.int .i64 0, .int .i64 0, .int .i64 0, .int .i64 0] 25) = wd at *
    clear hwd
    skip
    have HW := Lib.hid hnw
    have HZ := Lib.hid hbz
    have HP := Lib.hid (show ∀ w', Nw wd w' → w'.cell? (⟨w.heap.size, 0, none⟩ : Addr) = some (.int .i64 a) ∧ w'.cell? (⟨w.heap.size, 1, none⟩ : Addr) = some (.int .i64 b) ∧ w'.cell? (⟨w.heap.size, 2, none⟩ : Addr) = some (.int .i64 c) ∧ w'.cell? (⟨w.heap.size, 3, none⟩ : Addr) = some (.int .i64 d) from fun w' h => by
      have hk := hbb.kp h id
      exact ⟨hk.cell 0, hk.cell 1, hk.cell 2, hk.cell 3⟩)
    have z0 := hbb.cell 0
    have z1 := hbb.cell 1
    have z2 := hbb.cell 2
    have z3 := hbb.cell 3
    have c6 := fun w1 (h : Nw wd w1) => rtvec_any t a b w1 ha hb
    have c7 := fun w1 (h : Nw wd w1) => rtvec_any t c d w1 hc hd
    rw [h1] at c6
    rw [h2] at c7
    have c8 : ∀ (w1 : World) (g : Nat), Blk w1 g 23 #[.int .i64 mx, .int .i64 my, .int .i64 nx, .int .i64 ny] → Calls Tryd.prog 41 #[.slice (some ⟨g, 0, none⟩) 2 2] w1 fun e w' => e = .returned (.tuple #[bV r1 r2 r3 r4, .bool ok]) ∧ Nw w1 w' := fun w1 g hg => by
      have h := rboxOf_any [(mx, my), (nx, ny)] (.slice (some ⟨g, 0, none⟩) 2 2) w1 (RowB.src (l := [(mx, my), (nx, ny)]) hg rfl (by decide +kernel))
      rw [hr, hok] at h
      exact h
    clear hbb hbz hnw h1 h2 hr hok hv ha hb hc hd
    go_cut [5] from 6 to 24 (fun pv wx => ∃ g, pv = .pointer (some ⟨g, 0, none⟩) ∧ Blk wx g 25 #[.int .i64 r1, .int .i64 r2, .int .i64 r3, .int .i64 r4] ∧ Nw wd wx)
    case first =>
      go_wp2_with fail
      go_region_held3 (fun w' : World => w'.cell? (⟨w.heap.size, 0, none⟩ : Addr) = some (.int .i64 a) ∧ w'.cell? (⟨w.heap.size, 1, none⟩ : Addr) = some (.int .i64 b) ∧ w'.cell? (⟨w.heap.size, 2, none⟩ : Addr) = some (.int .i64 c) ∧ w'.cell? (⟨w.heap.size, 3, none⟩ : Addr) = some (.int .i64 d))
        (first | ((refine HP.out _ ?_); (repeat (first | exact hb3 | exact hb2 | exact hb1 | exact Kp.refl _ _ | refine Kp.alloc ?_ _ | refine Kp.drew ?_ | refine Kp.new ?_ (by omega) _ _))) | fail)
        (first | (go_at_call 13; ((with_reducible refine (c6 _ ?_).mono ?_); (repeat (first | exact hb3 | exact hb2 | exact hb1 | exact Kp.refl _ _ | refine Kp.alloc ?_ _ | refine Kp.drew ?_ | refine Kp.new ?_ (by omega) _ _)); rintro e u1 ⟨rfl, hk1⟩; have hb1 : Nw wd u1 := Kp.tr (by repeat (first | exact hb3 | exact hb2 | exact hb1 | exact Kp.refl _ _ | refine Kp.alloc ?_ _ | refine Kp.drew ?_ | refine Kp.new ?_ (by omega) _ _)) hk1; have l1 := hb1.size; with_reducible (first | (have p0 := Blk.nw (Blk.drew (Blk.new_at _ 25 #[.int .i64 0, .int .i64 0, .int .i64 0, .int .i64 0] (n := wd.heap.size) (by simp))) hk1; have t0 := p0.cell 0; have t1 := p0.cell 1; have t2 := p0.cell 2; have t3 := p0.cell 3; have f0 := p0.frozen 0; have f1 := p0.frozen 1; have f2 := p0.frozen 2; have f3 := p0.frozen 3; have t9 := p0.lt) | skip))) | (go_at_call 13; ((with_reducible refine (c7 _ ?_).mono ?_); (repeat (first | exact hb3 | exact hb2 | exact hb1 | exact Kp.refl _ _ | refine Kp.alloc ?_ _ | refine Kp.drew ?_ | refine Kp.new ?_ (by omega) _ _)); rintro e u2 ⟨rfl, hk2⟩; have hb2 : Nw wd u2 := Kp.tr (by repeat (first | exact hb3 | exact hb2 | exact hb1 | exact Kp.refl _ _ | refine Kp.alloc ?_ _ | refine Kp.drew ?_ | refine Kp.new ?_ (by omega) _ _)) hk2; have l2 := hb2.size; with_reducible (first | (have t := p0; have pp := Blk.nw p0 hk2; have t0 := pp.cell 0; have t1 := pp.cell 1; have t2 := pp.cell 2; have t3 := pp.cell 3; have f0 := pp.frozen 0; have f1 := pp.frozen 1; have f2 := pp.frozen 2; have f3 := pp.frozen 3; have t9 := pp.lt) | (have pp := Blk.nw (Blk.new_at _ 25 #[.int .i64 0, .int .i64 0, .int .i64 0, .int .i64 0] (n := u1.heap.size) (by simp)) hk2; have t0 := pp.cell 0; have t1 := pp.cell 1; have t2 := pp.cell 2; have t3 := pp.cell 3; have f0 := pp.frozen 0; have f1 := pp.frozen 1; have f2 := pp.frozen 2; have f3 := pp.frozen 3; have t9 := pp.lt) | skip))) | (go_at_call 41; ((with_reducible refine (c8 _ _ ?_).mono ?_); (first | exact Blk.new_at _ _ _ (by simp) | exact (Blk.new_at _ _ _ (by simp)).alloc _); rintro e u3 ⟨rfl, hk3⟩; have hb3 : Nw wd u3 := Kp.tr (by repeat (first | exact hb3 | exact hb2 | exact hb1 | exact Kp.refl _ _ | refine Kp.alloc ?_ _ | refine Kp.drew ?_ | refine Kp.new ?_ (by omega) _ _)) hk3; have l3 := hb3.size; with_reducible (first | (have t := pp; have ppp := Blk.nw (Blk.alloc pp _) hk3; have t0 := ppp.cell 0; have t1 := ppp.cell 1; have t2 := ppp.cell 2; have t3 := ppp.cell 3; have f0 := ppp.frozen 0; have f1 := ppp.frozen 1; have f2 := ppp.frozen 2; have f3 := ppp.frozen 3; have t9 := ppp.lt) | (have ppp := Blk.nw (Blk.alloc (Blk.new_at _ 25 #[.int .i64 0, .int .i64 0, .int .i64 0, .int .i64 0] (n := u2.heap.size) (by simp)) _) hk3; have t0 := ppp.cell 0; have t1 := ppp.cell 1; have t2 := ppp.cell 2; have t3 := ppp.cell 3; have f0 := ppp.frozen 0; have f1 := ppp.frozen 1; have f2 := ppp.frozen 2; have f3 := ppp.frozen 3; have t9 := ppp.lt) | (have ppp := Blk.nw (Blk.new_at _ 25 #[.int .i64 0, .int .i64 0, .int .i64 0, .int .i64 0] (n := u2.heap.size + 1) (by simp)) hk3; have t0 := ppp.cell 0; have t1 := ppp.cell 1; have t2 := ppp.cell 2; have t3 := ppp.cell 3; have f0 := ppp.frozen 0; have f1 := ppp.frozen 1; have f2 := ppp.frozen 2; have f3 := ppp.frozen 3; have t9 := ppp.lt) | skip))))
      all_goals (go_wp2_with fail; go_meet; case rel => (first | with_reducible exact boxEnd1 hb3 | (with_reducible refine boxEnd2 hb3 ppp ?_; omega)))
    case rest =>
      obtain ⟨g9, rfl, b9, hk9⟩ := hcut
      have HZ9 := Lib.hid (HZ.out.nw hk9)
      have HN9 := Lib.hid (HW.out.tr hk9)
      obtain ⟨q0, q1, q2, q3, _, _, _, _⟩ := b9.four
      obtain ⟨t0, t1, t2, t3, _, _, _, _⟩ := HZ9.out.four
      clear hk9 b9 hmix c1 c6 c7 c8
      go_wp2_with fail
      generalize hw9 : World.setCell _ _ _ = w9
      have h9 : Blk w9 (w.heap.size + 1) 25 #[.int .i64 r1, .int .i64 r2, .int .i64 r3, .int .i64 r4] := by rw [← hw9]; exact (((HZ9.out.set_ 0 _).set_ 1 _).set_ 2 _).set_ 3 _
      have hn9 : Nw w w9 := by rw [← hw9]; exact (((HN9.out.new (by omega) _ _).new (by omega) _ _).new (by omega) _ _).new (by omega) _ _
      obtain ⟨x0, x1, x2, x3, _, _, _, _⟩ := h9.four
      exact bodyPost_ret (v := bV r1 r2 r3 r4) (by simp [results, Tryd.results15, go_sem, x0, x1, x2, x3]) rfl ⟨rfl, hn9⟩
  · have hv' : validT t = false := by simpa using hv
    have c1 := fun w1 => rtvalid_any t w1
    rw [hv'] at c1
    have hres : mapB t a b c d = (a, b, c, d) := by unfold mapB; rw [if_neg (by simp [hv'])]
    rw [hres]
    go_enter Tryd.func15, Tryd.ntmps15
    go_wp2_with (first | (go_at_call 11; ((with_reducible refine (c1 _).mono ?_); rintro e _ ⟨rfl, rfl⟩)) | fail)
    exact bodyPost_ret (v := bV a b c d) (by simp [results, Tryd.results15, go_sem]) rfl ⟨rfl, by repeat (first | exact Kp.refl _ _ | refine Kp.alloc ?_ _ | refine Kp.drew ?_ | refine Kp.drewN ?_ _ | refine Kp.new ?_ (by simp) _ _)⟩

end Go.Proofs.YtahamffngmdjfaaDoor.W
