/-
  ring: the reference's Side and on: what they return. Conditions: the coordinates are within 2000, the point is valid.
-/
import Derived.Test.YtahamffngmdjfaaK14
import Derived.Test.YtahamffngmdjfaaK13
import Derived.BigFrame
namespace Go.Proofs.Ytahamffngmdjfaa.W
open Go.RowKit Go.Proofs.Ytahamffngmdjfaa.V Go.Proofs.Ytahamffngmdjfaa.G


set_option maxRecDepth 100000 in
set_option maxHeartbeats 6400000 in
theorem rside8_any (ax ay bx bz x y d : Int) (ha : wOk (ax, ay) = true) (hb : wOk (bx, bz) = true) (hp : PtOk x y d) (w : World) : Calls Try.prog 118 #[vV ax ay, vV bx bz, pV x y d] w fun e w' => e = .returned (.int .i64 (sgn (sideP ((ax, ay), (bx, bz)) x y d))) ∧ Nw w w' := by
  obtain ⟨g1, g2, g3, g4⟩ := (w_lm ha).1
  obtain ⟨k1, k2, k3, k4⟩ := (w_lm hb).1
  obtain ⟨⟨r1, r2, r3, r4⟩, -, -, t3, t4⟩ := scaled ha hp
  have hsd := side_cross (e := ((ax, ay), (bx, bz))) ha hb hp
  obtain ⟨-, -, x1, x2, y1, y2⟩ := hp
  simp only at g1 g2 g3 g4 k1 k2 k3 k4 r1 r2 r3 r4 t3 t4 hsd
  have c1 := fun w1 => rsub_any bx bz ax ay w1
  rw [w64_id (n := bx - ax) ⟨by omega, by omega⟩, w64_id (n := bz - ay) ⟨by omega, by omega⟩] at c1
  have hA : IntKind.i64.wrap (ay * d) = ay * d := by rw [wrapI]; exact t4
  have hD : IntKind.i64.wrap (ax * d) = ax * d := by rw [wrapI]; exact t3
  have hB : IntKind.i64.wrap (y - ay * d) = y - ay * d := by rw [wrapI, w64_id ⟨by omega, by omega⟩]
  have hE : IntKind.i64.wrap (x - ax * d) = x - ax * d := by rw [wrapI, w64_id ⟨by omega, by omega⟩]
  have a1 := abs_le_mul (x := bx - ax) (y := y - ay * d) (A := 4000) (B := 900000000000) (by omega) (by omega)
  have a2 := abs_le_mul (x := bz - ay) (y := x - ax * d) (A := 4000) (B := 900000000000) (by omega) (by omega)
  have hC : IntKind.i64.wrap ((bx - ax) * (y - ay * d)) = (bx - ax) * (y - ay * d) := by rw [wrapI, w64_id ⟨by omega, by omega⟩]
  have hF : IntKind.i64.wrap ((bz - ay) * (x - ax * d)) = (bz - ay) * (x - ax * d) := by rw [wrapI, w64_id ⟨by omega, by omega⟩]
  have hG : IntKind.i64.wrap ((bx - ax) * (y - ay * d) - (bz - ay) * (x - ax * d)) = sideP ((ax, ay), (bx, bz)) x y d := by rw [wrapI, w64_id ⟨by omega, by omega⟩]; rfl
  have cs := fun w1 => sign_any (sideP ((ax, ay), (bx, bz)) x y d) w1
  clear hsd t3 t4 a1 a2 g1 g2 g3 g4 k1 k2 k3 k4 r1 r2 r3 r4 x1 x2 y1 y2 ha hb
  generalize sideP ((ax, ay), (bx, bz)) x y d = s at *
  obtain ⟨A, hA1⟩ : ∃ A, ay * d = A := ⟨_, rfl⟩
  obtain ⟨D, hD1⟩ : ∃ A, ax * d = A := ⟨_, rfl⟩
  obtain ⟨u1, hu1⟩ : ∃ A, bx - ax = A := ⟨_, rfl⟩
  obtain ⟨u2, hu2⟩ : ∃ A, bz - ay = A := ⟨_, rfl⟩
  replace hA := hA.trans hA1
  replace hD := hD.trans hD1
  rw [hA1] at hB hC hG
  rw [hD1] at hE hF hG
  rw [hu1] at hC hG c1
  rw [hu2] at hF hG c1
  obtain ⟨B, hB1⟩ : ∃ B, y - A = B := ⟨_, rfl⟩
  obtain ⟨E, hE1⟩ : ∃ B, x - D = B := ⟨_, rfl⟩
  replace hB := hB.trans hB1
  replace hE := hE.trans hE1
  rw [hB1] at hC hG
  rw [hE1] at hF hG
  obtain ⟨C, hC1⟩ : ∃ C, u1 * B = C := ⟨_, rfl⟩
  obtain ⟨F, hF1⟩ : ∃ C, u2 * E = C := ⟨_, rfl⟩
  replace hC := hC.trans hC1
  replace hF := hF.trans hF1
  rw [hC1, hF1] at hG
  clear hA1 hD1 hu1 hu2 hB1 hE1 hC1 hF1
  have hall : ∀ p : KeptW (((w.alloc (.cells #[.int .i64 ax, .int .i64 ay] 23)).alloc (.cells #[.int .i64 bx, .int .i64 bz] 23)).alloc (.cells #[.int .i64 x, .int .i64 y, .int .i64 d] 50)), ∀ o, (((p.wd.alloc o).cell? ⟨w.heap.size, 0, none⟩ = some (.int .i64 ax) ∧ (p.wd.alloc o).cell? ⟨w.heap.size, 1, none⟩ = some (.int .i64 ay)) ∧ ((p.wd.alloc o).cell? ⟨w.heap.size + 1 + 1, 0, none⟩ = some (.int .i64 x) ∧ (p.wd.alloc o).cell? ⟨w.heap.size + 1 + 1, 1, none⟩ = some (.int .i64 y) ∧ (p.wd.alloc o).cell? ⟨w.heap.size + 1 + 1, 2, none⟩ = some (.int .i64 d))) := fun p o => by
    have e1 := ((((Blk.new_at w 23 #[.int .i64 ax, .int .i64 ay] (n := w.heap.size) rfl).alloc (.cells #[.int .i64 bx, .int .i64 bz] 23)).alloc (.cells #[.int .i64 x, .int .i64 y, .int .i64 d] 50)).kept p).alloc o
    have e2 := ((Blk.new_at ((w.alloc (.cells #[.int .i64 ax, .int .i64 ay] 23)).alloc (.cells #[.int .i64 bx, .int .i64 bz] 23)) 50 #[.int .i64 x, .int .i64 y, .int .i64 d] (n := w.heap.size + 1 + 1) (by simp)).kept p).alloc o
    exact ⟨⟨e1.cell 0, e1.cell 1⟩, e2.cell 0, e2.cell 1, e2.cell 2⟩
  have HA := Lib.hid hall
  clear hall
  go_enter Try.func118, Try.ntmps118
  go_wp2_with fail
  with_reducible refine (Calls.kept_first (c1 _)).mono ?_
  rintro e _ ⟨rfl, p, rfl⟩
  have HO := Lib.hid (HA.out p (.cells #[.int .i64 u1, .int .i64 u2] 23))
  have HB := Lib.hid (Blk.new p.wd 23 #[.int .i64 u1, .int .i64 u2])
  have HN := Lib.hid ((((nw_alloc w _).alloc _).alloc _).tr p.since)
  go_upto_region 2 with fail
  obtain ⟨⟨z0, z1⟩, z2, z3, z4⟩ := HO.out
  obtain ⟨z5, z6, -, -⟩ := HB.out.two
  generalize hwb : World.alloc _ (.cells #[.int .i64 u1, .int .i64 u2] _) = wb at z0 z1 z2 z3 z4 z5 z6 ⊢
  have HNB := Lib.hid (show Nw w wb by rw [← hwb]; exact HN.out.alloc _)
  clear hwb HA HO HB
  go_wp2_with fail
  with_reducible refine (cs _).mono ?_
  rintro e _ ⟨rfl, rfl⟩
  go_wp2_with fail
  go_ret
  exact ⟨rfl, HNB.out⟩

set_option maxRecDepth 100000 in
set_option maxHeartbeats 6400000 in
theorem ron8_any (ax ay bx bz x y d : Int) (ha : wOk (ax, ay) = true) (hb : wOk (bx, bz) = true) (hp : PtOk x y d) (w : World) : Calls Try.prog 117 #[sV ax ay bx bz, pV x y d] w fun e w' => e = .returned (.bool (onP ((ax, ay), (bx, bz)) x y d)) ∧ Nw w w' := by
  obtain ⟨-, -, -, ta, tay⟩ := scaled ha hp
  obtain ⟨-, -, -, tb, tbz⟩ := scaled hb hp
  simp only at ta tay tb tbz
  have c1 := fun w1 => rside8_any ax ay bx bz x y d ha hb hp w1
  have hO : onP ((ax, ay), (bx, bz)) x y d = (decide (min ax bx * d ≤ x) && decide (x ≤ max ax bx * d) && decide (min ay bz * d ≤ y) && decide (y ≤ max ay bz * d) && (sgn (sideP ((ax, ay), (bx, bz)) x y d) == 0)) := by
    unfold onP
    rw [show (sgn (sideP ((ax, ay), (bx, bz)) x y d) == 0) = (sideP ((ax, ay), (bx, bz)) x y d == 0) by
      apply Bool.eq_iff_iff.2
      simp only [beq_iff_eq]
      exact sgn_zero_iff _]
  rw [hO]
  clear hO
  obtain ⟨s, hs⟩ : ∃ s, sgn (sideP ((ax, ay), (bx, bz)) x y d) = s := ⟨_, rfl⟩
  rw [hs] at c1 ⊢
  obtain ⟨m1, h1⟩ : ∃ m, min ax bx = m := ⟨_, rfl⟩
  obtain ⟨m2, h2⟩ : ∃ m, max ax bx = m := ⟨_, rfl⟩
  obtain ⟨m3, h3⟩ : ∃ m, min ay bz = m := ⟨_, rfl⟩
  obtain ⟨m4, h4⟩ : ∃ m, max ay bz = m := ⟨_, rfl⟩
  have e1 : IntKind.i64.wrap (m1 * d) = m1 * d := by rw [wrapI, ← h1]; rcases Int.le_total ax bx with h | h; rw [Int.min_eq_left h]; exact ta; rw [Int.min_eq_right h]; exact tb
  have e2 : IntKind.i64.wrap (m2 * d) = m2 * d := by rw [wrapI, ← h2]; rcases Int.le_total ax bx with h | h; rw [Int.max_eq_right h]; exact tb; rw [Int.max_eq_left h]; exact ta
  have e3 : IntKind.i64.wrap (m3 * d) = m3 * d := by rw [wrapI, ← h3]; rcases Int.le_total ay bz with h | h; rw [Int.min_eq_left h]; exact tay; rw [Int.min_eq_right h]; exact tbz
  have e4 : IntKind.i64.wrap (m4 * d) = m4 * d := by rw [wrapI, ← h4]; rcases Int.le_total ay bz with h | h; rw [Int.max_eq_right h]; exact tbz; rw [Int.max_eq_left h]; exact tay
  rw [h1, h2, h3, h4]
  obtain ⟨M1, g1⟩ : ∃ m, m1 * d = m := ⟨_, rfl⟩
  obtain ⟨M2, g2⟩ : ∃ m, m2 * d = m := ⟨_, rfl⟩
  obtain ⟨M3, g3⟩ : ∃ m, m3 * d = m := ⟨_, rfl⟩
  obtain ⟨M4, g4⟩ : ∃ m, m4 * d = m := ⟨_, rfl⟩
  replace e1 := e1.trans g1
  replace e2 := e2.trans g2
  replace e3 := e3.trans g3
  replace e4 := e4.trans g4
  rw [g1, g2, g3, g4]
  clear g1 g2 g3 g4 ta tay tb tbz hs ha hb hp
  have hb0 : Blk ((w.alloc (.cells #[.int .i64 ax, .int .i64 ay, .int .i64 bx, .int .i64 bz] 48)).alloc (.cells #[.int .i64 x, .int .i64 y, .int .i64 d] 50)) (w.heap.size) 48 #[.int .i64 ax, .int .i64 ay, .int .i64 bx, .int .i64 bz] := (Blk.new_at w 48 #[.int .i64 ax, .int .i64 ay, .int .i64 bx, .int .i64 bz] (n := w.heap.size) (by simp)).alloc _
  have q0 := hb0.cell 0
  have q1 := hb0.cell 1
  have q2 := hb0.cell 2
  have q3 := hb0.cell 3
  have hb1 : Blk ((w.alloc (.cells #[.int .i64 ax, .int .i64 ay, .int .i64 bx, .int .i64 bz] 48)).alloc (.cells #[.int .i64 x, .int .i64 y, .int .i64 d] 50)) (w.heap.size + 1) 50 #[.int .i64 x, .int .i64 y, .int .i64 d] := Blk.new_at (w.alloc (.cells #[.int .i64 ax, .int .i64 ay, .int .i64 bx, .int .i64 bz] 48)) 50 #[.int .i64 x, .int .i64 y, .int .i64 d] (n := w.heap.size + 1) (by simp)
  have q4 := hb1.cell 0
  have q5 := hb1.cell 1
  have q6 := hb1.cell 2
  obtain ⟨W, hW⟩ : ∃ W, ((w.alloc (.cells #[.int .i64 ax, .int .i64 ay, .int .i64 bx, .int .i64 bz] 48)).alloc (.cells #[.int .i64 x, .int .i64 y, .int .i64 d] 50)) = W := ⟨_, rfl⟩
  rw [hW] at q0 q1 q2 q3 q4 q5 q6
  have HW := Lib.hid (show Nw w W by rw [← hW]; exact (nw_alloc _ _).alloc _)
  clear hb0 hb1
  by_cases k0 : M1 ≤ x
  case neg =>
    have f0 : decide (M1 ≤ x) = false := decide_eq_false k0
    clear k0
    go_enter Try.func117, Try.ntmps117
    go_wp2_with fail
    go_ret
    exact ⟨by simp [f0], HW.out⟩
  have f0 : decide (M1 ≤ x) = true := decide_eq_true k0
  by_cases k1 : x ≤ M2
  case neg =>
    have f1 : decide (x ≤ M2) = false := decide_eq_false k1
    clear k0 k1
    go_enter Try.func117, Try.ntmps117
    go_wp2_with fail
    go_ret
    exact ⟨by simp [f0, f1], HW.out⟩
  have f1 : decide (x ≤ M2) = true := decide_eq_true k1
  by_cases k2 : M3 ≤ y
  case neg =>
    have f2 : decide (M3 ≤ y) = false := decide_eq_false k2
    clear k0 k1 k2
    go_enter Try.func117, Try.ntmps117
    go_wp2_with fail
    go_ret
    exact ⟨by simp [f0, f1, f2], HW.out⟩
  have f2 : decide (M3 ≤ y) = true := decide_eq_true k2
  by_cases k3 : y ≤ M4
  case neg =>
    have f3 : decide (y ≤ M4) = false := decide_eq_false k3
    clear k0 k1 k2 k3
    go_enter Try.func117, Try.ntmps117
    go_wp2_with fail
    go_ret
    exact ⟨by simp [f0, f1, f2, f3], HW.out⟩
  have f3 : decide (y ≤ M4) = true := decide_eq_true k3
  clear k0 k1 k2 k3
  obtain ⟨z, hz⟩ : ∃ z, (s == 0) = z := ⟨_, rfl⟩
  rw [hz]
  go_enter Try.func117, Try.ntmps117
  go_wp2_with fail
  with_reducible refine (c1 _).mono ?_
  rintro e w5 ⟨rfl, k5⟩
  go_wp2_with fail
  go_ret
  exact ⟨by simp [f0, f1, f2, f3], HW.out.tr k5⟩

end Go.Proofs.Ytahamffngmdjfaa.W
