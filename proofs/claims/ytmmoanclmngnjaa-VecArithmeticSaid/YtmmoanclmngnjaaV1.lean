/-
  VecArithmetic: the call returns true. No condition.
-/
import Derived.Test.YtmmoanclmngnjaaVA
namespace Go.Proofs.Ytmmoanclmngnjaa.W
open Go.RowKit Go.Proofs.Ytmmoanclmngnjaa.V

set_option maxRecDepth 100000 in
set_option maxHeartbeats 6400000 in
theorem vecArithmetic_any (ax ay bx bz n : Int) (w : World) : Calls Try.prog 3 #[vV ax ay, vV bx bz, .int .i64 n] w fun e w' => e = .returned (.bool true) ∧ Nw w w' := by
  have cadd := fun w1 => add_any ax ay bx bz w1
  have rcadd := fun w1 => radd_any ax ay bx bz w1
  have csub := fun w1 => sub_any ax ay bx bz w1
  have rcsub := fun w1 => rsub_any ax ay bx bz w1
  have cneg := fun w1 => neg_any ax ay w1
  have rcneg := fun w1 => rneg_any ax ay w1
  have cscale := fun w1 => scale_any ax ay n w1
  have rcscale := fun w1 => rscale_any ax ay n w1
  have cdot := fun w1 => dot_any ax ay bx bz w1
  have rcdot := fun w1 => rdot_any ax ay bx bz w1
  have ccross := fun w1 => cross_any ax ay bx bz w1
  have rccross := fun w1 => rcross_any ax ay bx bz w1
  have cnorm := fun w1 => norm_any ax ay w1
  have rcnorm := fun w1 => rnorm_any ax ay w1
  generalize w64 (ax + bx) = r15 at *
  generalize w64 (ay + bz) = r16 at *
  generalize w64 (ax - bx) = r17 at *
  generalize w64 (ay - bz) = r18 at *
  generalize w64 (-ax) = r19 at *
  generalize w64 (-ay) = r20 at *
  generalize w64 (n * ax) = r21 at *
  generalize w64 (n * ay) = r22 at *
  generalize dotV ax ay bx bz = r23 at *
  generalize crossV ax ay bx bz = r24 at *
  generalize normV ax ay = r25 at *
  have hB : ∀ w' : World, Nw ((w.alloc (.cells #[.int .i64 ax, .int .i64 ay] 23)).alloc (.cells #[.int .i64 bx, .int .i64 bz] 23)) w' → w'.cell? (⟨w.heap.size, 0, none⟩ : Addr) = some (.int .i64 ax) ∧ w'.cell? (⟨w.heap.size, 1, none⟩ : Addr) = some (.int .i64 ay) ∧ w'.cell? (⟨w.heap.size + 1, 0, none⟩ : Addr) = some (.int .i64 bx) ∧ w'.cell? (⟨w.heap.size + 1, 1, none⟩ : Addr) = some (.int .i64 bz) := fun w' h => by
    have h0 := ((Blk.new_at w 23 #[.int .i64 ax, .int .i64 ay] (n := w.heap.size) (by simp)).alloc (.cells #[.int .i64 bx, .int .i64 bz] 23)).kp h id
    have h1 := (Blk.new_at (w.alloc (.cells #[.int .i64 ax, .int .i64 ay] 23)) 23 #[.int .i64 bx, .int .i64 bz] (n := w.heap.size + 1) (by simp)).kp h id
    exact ⟨h0.cell 0, h0.cell 1, h1.cell 0, h1.cell 1⟩
  have HB := Lib.hid hB
  clear hB
  have HK := Lib.hid (show Nw w ((w.alloc (.cells #[.int .i64 ax, .int .i64 ay] 23)).alloc (.cells #[.int .i64 bx, .int .i64 bz] 23)) from ((Kp.refl _ w).alloc _).alloc _)
  go_enter Try.func3, Try.ntmps3
  go_wp2_with fail
  with_reducible refine (awake_any _).mono ?_
  rintro e w1 ⟨rfl, hk⟩
  have HP := Lib.hid (fun (w' : World) (h : Nw w1 w') => HB.out w' (hk.tr h))
  have HK := Lib.hid (HK.out.tr hk)
  clear hk
  go_wp2_with fail
  go_region_held3 (fun w' : World => w'.cell? (⟨w.heap.size, 0, none⟩ : Addr) = some (.int .i64 ax) ∧ w'.cell? (⟨w.heap.size, 1, none⟩ : Addr) = some (.int .i64 ay) ∧ w'.cell? (⟨w.heap.size + 1, 0, none⟩ : Addr) = some (.int .i64 bx) ∧ w'.cell? (⟨w.heap.size + 1, 1, none⟩ : Addr) = some (.int .i64 bz))
    (first | exact HP.out _ (Kp.refl _ _) | exact HP.out _ (Kp.drew (Kp.refl _ _)) | exact HP.out _ (Kp.alloc (Kp.drew (Kp.refl _ _)) _) | exact HP.out _ (Kp.alloc (Kp.refl _ _) _) | exact HP.out _ hb | exact HP.out _ (Kp.alloc hb _) | fail)
    (first
      | (go_at_call 12; ((with_reducible refine (cadd _).mono ?_); rintro e x0 ⟨rfl, hk⟩; have hb : Nw w1 x0 := (Kp.drew (Kp.refl _ _)).tr hk))
      | (go_at_call 13; ((with_reducible refine (rcadd _).mono ?_); rintro e x1 ⟨rfl, hk⟩; have hb : Nw w1 x1 := hb.tr hk))
      | (go_at_call 14; ((with_reducible refine (csub _).mono ?_); rintro e x2 ⟨rfl, hk⟩; have hb : Nw w1 x2 := hb.tr hk))
      | (go_at_call 15; ((with_reducible refine (rcsub _).mono ?_); rintro e x3 ⟨rfl, hk⟩; have hb : Nw w1 x3 := hb.tr hk))
      | (go_at_call 16; ((with_reducible refine (cneg _).mono ?_); rintro e x4 ⟨rfl, hk⟩; have hb : Nw w1 x4 := hb.tr hk))
      | (go_at_call 17; ((with_reducible refine (rcneg _).mono ?_); rintro e x5 ⟨rfl, hk⟩; have hb : Nw w1 x5 := hb.tr hk))
      | (go_at_call 18; ((with_reducible refine (cscale _).mono ?_); rintro e x6 ⟨rfl, hk⟩; have hb : Nw w1 x6 := hb.tr hk))
      | (go_at_call 19; ((with_reducible refine (rcscale _).mono ?_); rintro e x7 ⟨rfl, hk⟩; have hb : Nw w1 x7 := hb.tr hk))
      | (go_at_call 20; ((with_reducible refine (cdot _).mono ?_); rintro e x8 ⟨rfl, hk⟩; have hb : Nw w1 x8 := hb.tr hk))
      | (go_at_call 21; ((with_reducible refine (rcdot _).mono ?_); rintro e x9 ⟨rfl, hk⟩; have hb : Nw w1 x9 := hb.tr hk))
      | (go_at_call 22; ((with_reducible refine (ccross _).mono ?_); rintro e x10 ⟨rfl, hk⟩; have hb : Nw w1 x10 := hb.tr hk))
      | (go_at_call 23; ((with_reducible refine (rccross _).mono ?_); rintro e x11 ⟨rfl, hk⟩; have hb : Nw w1 x11 := hb.tr hk))
      | (go_at_call 24; ((with_reducible refine (cnorm _).mono ?_); rintro e x12 ⟨rfl, hk⟩; have hb : Nw w1 x12 := hb.tr hk))
      | (go_at_call 25; ((with_reducible refine (rcnorm _).mono ?_); rintro e x13 ⟨rfl, hk⟩; have hb : Nw w1 x13 := hb.tr hk)))
  go_wp2
  go_ret
  exact ⟨rfl, HK.out.tr hb⟩

end Go.Proofs.Ytmmoanclmngnjaa.W
