/-
  SegSymmetric's turned and moved: what they return. No condition.
-/
import Derived.Test.YtahamffngmdjfaaGSE
import Derived.Deep.RegionHeld3
namespace Go.Proofs.Ytahamffngmdjfaa.W
open Go.RowKit Go.Proofs.Ytahamffngmdjfaa.V Go.Proofs.Ytahamffngmdjfaa.G

set_option maxHeartbeats 800000 in
theorem turned_any (ax ay bx bz : Int) (w : World) : Calls Try.prog 72 #[sV ax ay bx bz] w fun e w' => e = .returned (sV bx bz ax ay) ∧ Nw w w' := by
  go_enter Try.func72, Try.ntmps72
  go_wp2
  exact bodyPost_ret (v := sV bx bz ax ay) (by simp [results, Try.results72, go_sem]) rfl ⟨rfl, by repeat (first | exact Kp.refl _ _ | refine Kp.alloc ?_ _ | refine Kp.drew ?_ | refine Kp.drewN ?_ _)⟩
set_option maxRecDepth 100000 in
set_option maxHeartbeats 3200000 in
theorem moved_any (ax ay bx bz vx vy : Int) (w : World) : Calls Try.prog 73 #[sV ax ay bx bz, vV vx vy] w fun e w' => e = .returned (sV (w64 (ax + vx)) (w64 (ay + vy)) (w64 (bx + vx)) (w64 (bz + vy))) ∧ Nw w w' := by
  have c1 := fun w1 => radd_any ax ay vx vy w1
  have c2 := fun w1 => radd_any bx bz vx vy w1
  generalize w64 (ax + vx) = r1 at *
  generalize w64 (ay + vy) = r2 at *
  generalize w64 (bx + vx) = r3 at *
  generalize w64 (bz + vy) = r4 at *
  have hF : ∀ w', Nw (((w.alloc (.cells #[.int .i64 ax, .int .i64 ay, .int .i64 bx, .int .i64 bz] 48)).alloc (.cells #[.int .i64 vx, .int .i64 vy] 23)).alloc (.cells #[.int .i64 0, .int .i64 0, .int .i64 0, .int .i64 0] 48)) w' → Blk w' w.heap.size 48 #[.int .i64 ax, .int .i64 ay, .int .i64 bx, .int .i64 bz] ∧ Blk w' (w.heap.size + 1) 23 #[.int .i64 vx, .int .i64 vy] ∧ Blk w' (w.heap.size + 1 + 1) 48 #[.int .i64 0, .int .i64 0, .int .i64 0, .int .i64 0] := fun w' h => ⟨(((Blk.new_at w 48 #[.int .i64 ax, .int .i64 ay, .int .i64 bx, .int .i64 bz] (n := w.heap.size) rfl).alloc _).alloc _).kp h id, ((Blk.new_at _ 23 #[.int .i64 vx, .int .i64 vy] (n := w.heap.size + 1) (by simp)).alloc _).kp h id, (Blk.new_at _ 48 #[.int .i64 0, .int .i64 0, .int .i64 0, .int .i64 0] (n := w.heap.size + 1 + 1) (by simp)).kp h id⟩
  have HF := Lib.hid hF
  have HP := Lib.hid (show ∀ w', Nw ((w.alloc (.cells #[.int .i64 ax, .int .i64 ay, .int .i64 bx, .int .i64 bz] 48)).alloc (.cells #[.int .i64 vx, .int .i64 vy] 23)) w' → w'.cell? (⟨w.heap.size, 0, none⟩ : Addr) = some (.int .i64 ax) ∧ w'.cell? (⟨w.heap.size, 1, none⟩ : Addr) = some (.int .i64 ay) ∧ w'.cell? (⟨w.heap.size, 2, none⟩ : Addr) = some (.int .i64 bx) ∧ w'.cell? (⟨w.heap.size, 3, none⟩ : Addr) = some (.int .i64 bz) ∧ w'.cell? (⟨w.heap.size + 1, 0, none⟩ : Addr) = some (.int .i64 vx) ∧ w'.cell? (⟨w.heap.size + 1, 1, none⟩ : Addr) = some (.int .i64 vy) from fun w' h => by
    have a := ((Blk.new_at w 48 #[.int .i64 ax, .int .i64 ay, .int .i64 bx, .int .i64 bz] (n := w.heap.size) rfl).alloc (.cells #[.int .i64 vx, .int .i64 vy] 23)).kp h id
    have b := (Blk.new_at _ 23 #[.int .i64 vx, .int .i64 vy] (n := w.heap.size + 1) (by simp)).kp h id
    exact ⟨a.cell 0, a.cell 1, a.cell 2, a.cell 3, b.cell 0, b.cell 1⟩)
  have HSZ := Lib.hid (show ((w.alloc (.cells #[.int .i64 ax, .int .i64 ay, .int .i64 bx, .int .i64 bz] 48)).alloc (.cells #[.int .i64 vx, .int .i64 vy] 23)).heap.size ≤ w.heap.size + 1 + 1 by simp)
  have HK2 := Lib.hid (nw_alloc ((w.alloc (.cells #[.int .i64 ax, .int .i64 ay, .int .i64 bx, .int .i64 bz] 48)).alloc (.cells #[.int .i64 vx, .int .i64 vy] 23)) (.cells #[.int .i64 0, .int .i64 0, .int .i64 0, .int .i64 0] 48))
  have HW := Lib.hid (show Nw w (((w.alloc (.cells #[.int .i64 ax, .int .i64 ay, .int .i64 bx, .int .i64 bz] 48)).alloc (.cells #[.int .i64 vx, .int .i64 vy] 23)).alloc (.cells #[.int .i64 0, .int .i64 0, .int .i64 0, .int .i64 0] 48)) from ((nw_alloc _ _).alloc _).alloc _)
  have HRL := Lib.hid (show w.heap.size ≤ w.heap.size + 1 + 1 from by omega)
  clear hF
  go_enter Try.func73, Try.ntmps73
  go_wp2_with fail
  generalize hw2 : ((w.alloc (.cells #[.int .i64 ax, .int .i64 ay, .int .i64 bx, .int .i64 bz] 48)).alloc (.cells #[.int .i64 vx, .int .i64 vy] 23)) = w2 at HP HSZ HK2 HF HW ⊢
  generalize hw3 : w2.alloc (.cells #[.int .i64 0, .int .i64 0, .int .i64 0, .int .i64 0] 48) = w3 at HK2 HF HW ⊢
  clear hw2 hw3
  go_region_held3 (fun w' : World => w'.cell? (⟨w.heap.size, 0, none⟩ : Addr) = some (.int .i64 ax) ∧ w'.cell? (⟨w.heap.size, 1, none⟩ : Addr) = some (.int .i64 ay) ∧ w'.cell? (⟨w.heap.size, 2, none⟩ : Addr) = some (.int .i64 bx) ∧ w'.cell? (⟨w.heap.size, 3, none⟩ : Addr) = some (.int .i64 bz) ∧ w'.cell? (⟨w.heap.size + 1, 0, none⟩ : Addr) = some (.int .i64 vx) ∧ w'.cell? (⟨w.heap.size + 1, 1, none⟩ : Addr) = some (.int .i64 vy))
    (first | exact HP.out _ HK2.out | exact HP.out _ (Kp.drew HK2.out) | exact HP.out _ hb2 | exact HP.out _ hb1 | exact HP.out _ (Kp.new (Kp.new (Kp.new (Kp.new hb2 HSZ.out _ _) HSZ.out _ _) HSZ.out _ _) HSZ.out _ _) | fail)
    (first
      | (go_at_call 23; ((with_reducible refine (c1 _).mono ?_); rintro e u1 ⟨rfl, hk1⟩; have hd1 : Nw w3 u1 := (Kp.drew (Kp.refl _ _)).tr hk1; have hb1 : Nw w2 u1 := HK2.out.tr hd1))
      | (go_at_call 23; ((with_reducible refine (c2 _).mono ?_); rintro e u2 ⟨rfl, hk2⟩; have hb2 : Nw w2 u2 := hb1.tr hk2; have HD := Lib.hid (hd1.tr hk2); have HRR := Lib.hid (HF.out u2 (hd1.tr hk2)).2.2; obtain ⟨t0, t1, t2, t3, y0, y1, y2, y3⟩ := HRR.out.four)))
  go_wp2_with fail
  generalize hw9 : World.setCell _ _ _ = w9
  have h9 : Blk w9 (w.heap.size + 1 + 1) 48 #[.int .i64 r1, .int .i64 r2, .int .i64 r3, .int .i64 r4] := by rw [← hw9]; exact (HRR.out.lay4a _ _).lay4b _ _
  have hn9 : Nw w w9 := by rw [← hw9]; exact ((((HW.out.tr HD.out).new HRL.out _ _).new HRL.out _ _).new HRL.out _ _).new HRL.out _ _
  obtain ⟨x0, x1, x2, x3, _, _, _, _⟩ := h9.four
  exact bodyPost_ret (v := sV r1 r2 r3 r4) (by simp [results, Try.results73, go_sem, x0, x1, x2, x3]) rfl ⟨rfl, hn9⟩
end Go.Proofs.Ytahamffngmdjfaa.W
