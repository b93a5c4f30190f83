/-
  VecCompare: the call returns true. No condition.
-/
import Derived.Test.YtmmoanclmngnjaaVA
namespace Go.Proofs.Ytmmoanclmngnjaa.W
open Go.RowKit Go.Proofs.Ytmmoanclmngnjaa.V

set_option maxRecDepth 100000 in
set_option maxHeartbeats 6400000 in
theorem vecCompare_any (ax ay bx bz cx cy m : Int) (w : World) : Calls Try.prog 4 #[.agg #[.int .i64 ax, .int .i64 ay, .int .i64 bx, .int .i64 bz, .int .i64 cx, .int .i64 cy], .int .i64 m] w fun e w' => e = .returned (.bool true) ∧ Nw w w' := by
  have cturn := fun w1 => turn_any ax ay bx bz cx cy w1
  have rcturn := fun w1 => rturn_any ax ay bx bz cx cy w1
  have ccompare := fun w1 => compare_nw ax ay bx bz w1
  have rccompare := fun w1 => rcompare_any ax ay bx bz w1
  have cless := fun w1 => less_any ax ay bx bz w1
  have rcless := fun w1 => rless_any ax ay bx bz w1
  have cwithin := fun w1 => within_any cx cy m w1
  have rcwithin := fun w1 => rwithin_any cx cy m w1
  generalize turnV ax ay bx bz cx cy = r9 at *
  generalize cmpV ax ay bx bz = r10 at *
  generalize lessV ax ay bx bz = r11 at *
  generalize withinV cx cy m = r12 at *
  have hB : ∀ w' : World, Nw (w.alloc (.cells #[.int .i64 ax, .int .i64 ay, .int .i64 bx, .int .i64 bz, .int .i64 cx, .int .i64 cy] 31)) w' → w'.cell? (⟨w.heap.size, 0, none⟩ : Addr) = some (.int .i64 ax) ∧ w'.cell? (⟨w.heap.size, 1, none⟩ : Addr) = some (.int .i64 ay) ∧ w'.cell? (⟨w.heap.size, 2, none⟩ : Addr) = some (.int .i64 bx) ∧ w'.cell? (⟨w.heap.size, 3, none⟩ : Addr) = some (.int .i64 bz) ∧ w'.cell? (⟨w.heap.size, 4, none⟩ : Addr) = some (.int .i64 cx) ∧ w'.cell? (⟨w.heap.size, 5, none⟩ : Addr) = some (.int .i64 cy) := fun w' h => by
    have h0 := (Blk.new_at w 31 #[.int .i64 ax, .int .i64 ay, .int .i64 bx, .int .i64 bz, .int .i64 cx, .int .i64 cy] (n := w.heap.size) (by simp)).kp h id
    exact ⟨h0.cell 0, h0.cell 1, h0.cell 2, h0.cell 3, h0.cell 4, h0.cell 5⟩
  have HB := Lib.hid hB
  clear hB
  have HK := Lib.hid (show Nw w (w.alloc (.cells #[.int .i64 ax, .int .i64 ay, .int .i64 bx, .int .i64 bz, .int .i64 cx, .int .i64 cy] 31)) from (Kp.refl _ w).alloc _)
  go_enter Try.func4, Try.ntmps4
  go_wp2_with fail
  with_reducible refine (awake_any _).mono ?_
  rintro e w1 ⟨rfl, hk⟩
  have HP := Lib.hid (fun (w' : World) (h : Nw w1 w') => HB.out w' (hk.tr h))
  have HK := Lib.hid (HK.out.tr hk)
  clear hk
  go_wp2_with fail
  go_region_held3 (fun w' : World => w'.cell? (⟨w.heap.size, 0, none⟩ : Addr) = some (.int .i64 ax) ∧ w'.cell? (⟨w.heap.size, 1, none⟩ : Addr) = some (.int .i64 ay) ∧ w'.cell? (⟨w.heap.size, 2, none⟩ : Addr) = some (.int .i64 bx) ∧ w'.cell? (⟨w.heap.size, 3, none⟩ : Addr) = some (.int .i64 bz) ∧ w'.cell? (⟨w.heap.size, 4, none⟩ : Addr) = some (.int .i64 cx) ∧ w'.cell? (⟨w.heap.size, 5, none⟩ : Addr) = some (.int .i64 cy))
    (first | exact HP.out _ (Kp.refl _ _) | exact HP.out _ (Kp.drew (Kp.refl _ _)) | exact HP.out _ (Kp.alloc (Kp.drew (Kp.refl _ _)) _) | exact HP.out _ (Kp.alloc (Kp.refl _ _) _) | exact HP.out _ hb | exact HP.out _ (Kp.alloc hb _) | fail)
    (first
      | (go_at_call 26; ((with_reducible refine (cturn _).mono ?_); rintro e x0 ⟨rfl, hk⟩; have hb : Nw w1 x0 := (Kp.drew (Kp.refl _ _)).tr hk))
      | (go_at_call 27; ((with_reducible refine (rcturn _).mono ?_); rintro e x1 ⟨rfl, hk⟩; have hb : Nw w1 x1 := hb.tr hk))
      | (go_at_call 28; ((with_reducible refine (ccompare _).mono ?_); rintro e x2 ⟨rfl, hk⟩; have hb : Nw w1 x2 := hb.tr hk))
      | (go_at_call 29; ((with_reducible refine (rccompare _).mono ?_); rintro e x3 ⟨rfl, hk⟩; have hb : Nw w1 x3 := hb.tr hk))
      | (go_at_call 30; ((with_reducible refine (cless _).mono ?_); rintro e x4 ⟨rfl, hk⟩; have hb : Nw w1 x4 := hb.tr hk))
      | (go_at_call 31; ((with_reducible refine (rcless _).mono ?_); rintro e x5 ⟨rfl, hk⟩; have hb : Nw w1 x5 := hb.tr hk))
      | (go_at_call 32; ((with_reducible refine (cwithin _).mono ?_); rintro e x6 ⟨rfl, hk⟩; have hb : Nw w1 x6 := hb.tr hk))
      | (go_at_call 33; ((with_reducible refine (rcwithin _).mono ?_); rintro e x7 ⟨rfl, hk⟩; have hb : Nw w1 x7 := hb.tr hk)))
  go_wp2
  go_ret
  exact ⟨rfl, HK.out.tr hb⟩

end Go.Proofs.Ytmmoanclmngnjaa.W
