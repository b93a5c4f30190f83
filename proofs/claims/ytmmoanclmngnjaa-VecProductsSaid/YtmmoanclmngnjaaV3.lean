/-
  VecProducts: the call returns true. No condition.
-/
import Derived.Test.YtmmoanclmngnjaaVA
namespace Go.Proofs.Ytmmoanclmngnjaa.W
open Go.RowKit Go.Proofs.Ytmmoanclmngnjaa.V

theorem i64_w (n : Int) : IntKind.i64.wrap n = w64 n := by rw [IntKind.wrap_i64, w64_eq]
theorem cross_anti (ax ay bx bz : Int) : crossV ax ay bx bz = IntKind.i64.wrap (-(crossV bx bz ax ay)) := by
  rw [i64_w]
  unfold crossV
  rw [w64_neg]
  congr 1
  rw [Int.mul_comm bx ay, Int.mul_comm bz ax]
  omega
theorem cross_self (ax ay : Int) : crossV ax ay ax ay = 0 := by
  unfold crossV
  rw [Int.mul_comm ay ax, Int.sub_self]
  exact w64_id ⟨by omega, by omega⟩
theorem dot_comm (ax ay bx bz : Int) : dotV bx bz ax ay = dotV ax ay bx bz := by
  unfold dotV
  rw [Int.mul_comm bx, Int.mul_comm bz]
theorem cross_add (ax ay bx bz cx cy : Int) : crossV ax ay (w64 (bx + cx)) (w64 (bz + cy)) = IntKind.i64.wrap (crossV ax ay bx bz + crossV ax ay cx cy) := by
  rw [i64_w]
  unfold crossV
  rw [w64_add, ← w64_sub, w64_mulr, w64_mulr, w64_sub, Int.mul_add, Int.mul_add]
  congr 1
  omega
theorem dot_add (ax ay bx bz cx cy : Int) : dotV ax ay (w64 (bx + cx)) (w64 (bz + cy)) = IntKind.i64.wrap (dotV ax ay bx bz + dotV ax ay cx cy) := by
  rw [i64_w]
  unfold dotV
  rw [w64_add, ← w64_add, w64_mulr, w64_mulr, w64_add, Int.mul_add, Int.mul_add]
  congr 1
  omega

set_option maxRecDepth 100000 in
set_option maxHeartbeats 6400000 in
theorem vecProducts_any (ax ay bx bz cx cy : Int) (w : World) : Calls Try.prog 7 #[vV ax ay, vV bx bz, vV cx cy] w fun e w' => e = .returned (.bool true) ∧ Nw w w' := by
  have cadd := fun w1 => add_any bx bz cx cy w1
  have f1 := cross_anti ax ay bx bz
  have f2 := cross_self ax ay
  have f3 := dot_comm ax ay bx bz
  have f4 := cross_add ax ay bx bz cx cy
  have f5 := dot_add ax ay bx bz cx cy
  have cab := fun w1 => cross_any ax ay bx bz w1
  have cba := fun w1 => cross_any bx bz ax ay w1
  have caa := fun w1 => cross_any ax ay ax ay w1
  have dab := fun w1 => dot_any ax ay bx bz w1
  have dba := fun w1 => dot_any bx bz ax ay w1
  have cas := fun w1 => cross_any ax ay (w64 (bx + cx)) (w64 (bz + cy)) w1
  have cac := fun w1 => cross_any ax ay cx cy w1
  have das := fun w1 => dot_any ax ay (w64 (bx + cx)) (w64 (bz + cy)) w1
  have dac := fun w1 => dot_any ax ay cx cy w1
  rw [f2] at caa
  rw [f3] at dba
  have e1 := f1.symm
  have e4 := f4.symm
  have e5 := f5.symm
  clear f1 f2 f3 f4 f5
  generalize crossV ax ay (w64 (bx + cx)) (w64 (bz + cy)) = r5 at *
  generalize dotV ax ay (w64 (bx + cx)) (w64 (bz + cy)) = r6 at *
  generalize crossV ax ay bx bz = r0 at *
  generalize crossV bx bz ax ay = r1 at *
  generalize crossV ax ay cx cy = r2 at *
  generalize dotV ax ay bx bz = r3 at *
  generalize dotV ax ay cx cy = r4 at *
  generalize w64 (bx + cx) = s1 at *
  generalize w64 (bz + cy) = s2 at *
  have hB : ∀ w' : World, Nw (((w.alloc (.cells #[.int .i64 ax, .int .i64 ay] 23)).alloc (.cells #[.int .i64 bx, .int .i64 bz] 23)).alloc (.cells #[.int .i64 cx, .int .i64 cy] 23)) w' → w'.cell? (⟨w.heap.size, 0, none⟩ : Addr) = some (.int .i64 ax) ∧ w'.cell? (⟨w.heap.size, 1, none⟩ : Addr) = some (.int .i64 ay) ∧ w'.cell? (⟨w.heap.size + 1, 0, none⟩ : Addr) = some (.int .i64 bx) ∧ w'.cell? (⟨w.heap.size + 1, 1, none⟩ : Addr) = some (.int .i64 bz) ∧ w'.cell? (⟨w.heap.size + 1 + 1, 0, none⟩ : Addr) = some (.int .i64 cx) ∧ w'.cell? (⟨w.heap.size + 1 + 1, 1, none⟩ : Addr) = some (.int .i64 cy) := fun w' h => by
    have h0 := (((Blk.new_at w 23 #[.int .i64 ax, .int .i64 ay] (n := w.heap.size) (by simp)).alloc (.cells #[.int .i64 bx, .int .i64 bz] 23)).alloc (.cells #[.int .i64 cx, .int .i64 cy] 23)).kp h id
    have h1 := ((Blk.new_at (w.alloc (.cells #[.int .i64 ax, .int .i64 ay] 23)) 23 #[.int .i64 bx, .int .i64 bz] (n := w.heap.size + 1) (by simp)).alloc (.cells #[.int .i64 cx, .int .i64 cy] 23)).kp h id
    have h2 := (Blk.new_at ((w.alloc (.cells #[.int .i64 ax, .int .i64 ay] 23)).alloc (.cells #[.int .i64 bx, .int .i64 bz] 23)) 23 #[.int .i64 cx, .int .i64 cy] (n := w.heap.size + 1 + 1) (by simp)).kp h id
    exact ⟨h0.cell 0, h0.cell 1, h1.cell 0, h1.cell 1, h2.cell 0, h2.cell 1⟩
  have HB := Lib.hid hB
  clear hB
  have HK := Lib.hid (show Nw w (((w.alloc (.cells #[.int .i64 ax, .int .i64 ay] 23)).alloc (.cells #[.int .i64 bx, .int .i64 bz] 23)).alloc (.cells #[.int .i64 cx, .int .i64 cy] 23)) from (((Kp.refl _ w).alloc _).alloc _).alloc _)
  go_enter Try.func7, Try.ntmps7
  go_wp2_with fail
  with_reducible refine (awake_any _).mono ?_
  rintro e w1 ⟨rfl, hk⟩
  have HP := Lib.hid (fun (w' : World) (h : Nw w1 w') => HB.out w' (hk.tr h))
  have HK := Lib.hid (HK.out.tr hk)
  clear hk
  obtain ⟨q0, q1, q2, q3, q4, q5⟩ := HP.out _ (Kp.refl _ _)
  go_wp2_with fail
  with_reducible refine (cadd _).mono ?_
  rintro e w2 ⟨rfl, hk⟩
  have hp : ∀ w' : World, Nw (w2.alloc (.cells #[.int .i64 s1, .int .i64 s2] 23)) w' → w'.cell? (⟨w.heap.size, 0, none⟩ : Addr) = some (.int .i64 ax) ∧ w'.cell? (⟨w.heap.size, 1, none⟩ : Addr) = some (.int .i64 ay) ∧ w'.cell? (⟨w.heap.size + 1, 0, none⟩ : Addr) = some (.int .i64 bx) ∧ w'.cell? (⟨w.heap.size + 1, 1, none⟩ : Addr) = some (.int .i64 bz) ∧ w'.cell? (⟨w.heap.size + 1 + 1, 0, none⟩ : Addr) = some (.int .i64 cx) ∧ w'.cell? (⟨w.heap.size + 1 + 1, 1, none⟩ : Addr) = some (.int .i64 cy) ∧ w'.cell? (⟨w2.heap.size, 0, none⟩ : Addr) = some (.int .i64 s1) ∧ w'.cell? (⟨w2.heap.size, 1, none⟩ : Addr) = some (.int .i64 s2) := fun w' h => by
    obtain ⟨a, b, c, d, e, f⟩ := HP.out w' ((hk.alloc _).tr h)
    obtain ⟨x, y, _, _⟩ := ((Blk.new w2 23 #[.int .i64 s1, .int .i64 s2]).kp h id).two
    exact ⟨a, b, c, d, e, f, x, y⟩
  have HK := Lib.hid (HK.out.tr (hk.alloc (.cells #[.int .i64 s1, .int .i64 s2] 23)))
  have HP := Lib.hid hp
  clear hp hk q0 q1 q2 q3 q4 q5
  go_wp2_with fail
  go_region_held3 (fun w' : World => w'.cell? (⟨w.heap.size, 0, none⟩ : Addr) = some (.int .i64 ax) ∧ w'.cell? (⟨w.heap.size, 1, none⟩ : Addr) = some (.int .i64 ay) ∧ w'.cell? (⟨w.heap.size + 1, 0, none⟩ : Addr) = some (.int .i64 bx) ∧ w'.cell? (⟨w.heap.size + 1, 1, none⟩ : Addr) = some (.int .i64 bz) ∧ w'.cell? (⟨w.heap.size + 1 + 1, 0, none⟩ : Addr) = some (.int .i64 cx) ∧ w'.cell? (⟨w.heap.size + 1 + 1, 1, none⟩ : Addr) = some (.int .i64 cy) ∧ w'.cell? (⟨w2.heap.size, 0, none⟩ : Addr) = some (.int .i64 s1) ∧ w'.cell? (⟨w2.heap.size, 1, none⟩ : Addr) = some (.int .i64 s2))
    (first | exact HP.out _ (Kp.refl _ _) | exact HP.out _ (Kp.drew (Kp.refl _ _)) | exact HP.out _ (Kp.alloc (Kp.drew (Kp.refl _ _)) _) | exact HP.out _ (Kp.alloc (Kp.refl _ _) _) | exact HP.out _ hb | exact HP.out _ (Kp.alloc hb _) | fail)
    (first
      | (go_at_call 22; ((with_reducible refine (cab _).mono ?_); rintro e x0 ⟨rfl, hk⟩; (first | (have hb : Nw (w2.alloc (.cells #[.int .i64 s1, .int .i64 s2] 23)) x0 := hb.tr hk) | (have hb : Nw (w2.alloc (.cells #[.int .i64 s1, .int .i64 s2] 23)) x0 := (Kp.drew (Kp.refl _ _)).tr hk))))
      | (go_at_call 22; ((with_reducible refine (cba _).mono ?_); rintro e x1 ⟨rfl, hk⟩; (first | (have hb : Nw (w2.alloc (.cells #[.int .i64 s1, .int .i64 s2] 23)) x1 := hb.tr hk) | (have hb : Nw (w2.alloc (.cells #[.int .i64 s1, .int .i64 s2] 23)) x1 := (Kp.drew (Kp.refl _ _)).tr hk))))
      | (go_at_call 22; ((with_reducible refine (caa _).mono ?_); rintro e x2 ⟨rfl, hk⟩; (first | (have hb : Nw (w2.alloc (.cells #[.int .i64 s1, .int .i64 s2] 23)) x2 := hb.tr hk) | (have hb : Nw (w2.alloc (.cells #[.int .i64 s1, .int .i64 s2] 23)) x2 := (Kp.drew (Kp.refl _ _)).tr hk))))
      | (go_at_call 20; ((with_reducible refine (dab _).mono ?_); rintro e x3 ⟨rfl, hk⟩; (first | (have hb : Nw (w2.alloc (.cells #[.int .i64 s1, .int .i64 s2] 23)) x3 := hb.tr hk) | (have hb : Nw (w2.alloc (.cells #[.int .i64 s1, .int .i64 s2] 23)) x3 := (Kp.drew (Kp.refl _ _)).tr hk))))
      | (go_at_call 20; ((with_reducible refine (dba _).mono ?_); rintro e x4 ⟨rfl, hk⟩; (first | (have hb : Nw (w2.alloc (.cells #[.int .i64 s1, .int .i64 s2] 23)) x4 := hb.tr hk) | (have hb : Nw (w2.alloc (.cells #[.int .i64 s1, .int .i64 s2] 23)) x4 := (Kp.drew (Kp.refl _ _)).tr hk))))
      | (go_at_call 22; ((with_reducible refine (cas _).mono ?_); rintro e x5 ⟨rfl, hk⟩; (first | (have hb : Nw (w2.alloc (.cells #[.int .i64 s1, .int .i64 s2] 23)) x5 := hb.tr hk) | (have hb : Nw (w2.alloc (.cells #[.int .i64 s1, .int .i64 s2] 23)) x5 := (Kp.drew (Kp.refl _ _)).tr hk))))
      | (go_at_call 22; ((with_reducible refine (cac _).mono ?_); rintro e x6 ⟨rfl, hk⟩; (first | (have hb : Nw (w2.alloc (.cells #[.int .i64 s1, .int .i64 s2] 23)) x6 := hb.tr hk) | (have hb : Nw (w2.alloc (.cells #[.int .i64 s1, .int .i64 s2] 23)) x6 := (Kp.drew (Kp.refl _ _)).tr hk))))
      | (go_at_call 20; ((with_reducible refine (das _).mono ?_); rintro e x7 ⟨rfl, hk⟩; (first | (have hb : Nw (w2.alloc (.cells #[.int .i64 s1, .int .i64 s2] 23)) x7 := hb.tr hk) | (have hb : Nw (w2.alloc (.cells #[.int .i64 s1, .int .i64 s2] 23)) x7 := (Kp.drew (Kp.refl _ _)).tr hk))))
      | (go_at_call 20; ((with_reducible refine (dac _).mono ?_); rintro e x8 ⟨rfl, hk⟩; (first | (have hb : Nw (w2.alloc (.cells #[.int .i64 s1, .int .i64 s2] 23)) x8 := hb.tr hk) | (have hb : Nw (w2.alloc (.cells #[.int .i64 s1, .int .i64 s2] 23)) x8 := (Kp.drew (Kp.refl _ _)).tr hk)))))
  go_wp2
  go_ret
  exact ⟨rfl, HK.out.tr hb⟩

end Go.Proofs.Ytmmoanclmngnjaa.W
