/-
  arc: Valid of the program and of the reference. No condition.
-/
import Derived.Test.YtlogihcmmoldkaaK05
namespace Go.Proofs.Ytlogihcmmoldkaa.W
open Go.RowKit Go.Proofs.Ytlogihcmmoldkaa.V Go.Proofs.Ytlogihcmmoldkaa.A

/-- the squared distances of both ends, and the six conditions -/
def sqF (a b c d : Int) : Int := (a - c) * (a - c) + (b - d) * (b - d)
def validA (fx fy tx ty cx cy : Int) : Bool := withinV fx fy 2000 && withinV tx ty 2000 && withinV cx cy 2000 && (decide (0 < sqF fx fy cx cy) && decide (sqF fx fy cx cy ≤ 4000000) && sqF fx fy cx cy == sqF tx ty cx cy)
theorem sq_small {a b c d : Int} (h : (-2000 ≤ a ∧ a ≤ 2000) ∧ (-2000 ≤ b ∧ b ≤ 2000)) (g : (-2000 ≤ c ∧ c ≤ 2000) ∧ (-2000 ≤ d ∧ d ≤ 2000)) : w64 (a - c) = a - c ∧ w64 (b - d) = b - d ∧ dotV (a - c) (b - d) (a - c) (b - d) = sqF a b c d ∧ (0 ≤ sqF a b c d ∧ sqF a b c d ≤ 32000000) := by
  have h1 := abs_mul_le (x := a - c) (y := a - c) (A := 4000) (B := 4000) (by omega) (by omega)
  have h2 := abs_mul_le (x := b - d) (y := b - d) (A := 4000) (B := 4000) (by omega) (by omega)
  have s1 := sqn (a - c)
  have s2 := sqn (b - d)
  refine ⟨w64_id ⟨by omega, by omega⟩, w64_id ⟨by omega, by omega⟩, ?_, ?_⟩
  · unfold dotV sqF
    exact w64_id ⟨by omega, by omega⟩
  · unfold sqF
    omega

set_option maxRecDepth 100000 in
set_option maxHeartbeats 3200000 in
theorem avalid_any (fx fy tx ty cx cy : Int) (cw : Bool) (w : World) : Calls Try.prog 15 #[arV fx fy tx ty cx cy cw] w fun e w' => e = .returned (.bool (validA fx fy tx ty cx cy)) ∧ Nw w w' := by
  have hmix := mixed7
  have c1 := fun w1 => within_any fx fy 2000 w1
  have c2 := fun w1 => within_any tx ty 2000 w1
  have c3 := fun w1 => within_any cx cy 2000 w1
  obtain ⟨W0, hW0⟩ : ∃ W, w.alloc (.cells (arC fx fy tx ty cx cy cw) 25) = W := ⟨_, rfl⟩
  have HB0 := Lib.hid (show Blk W0 w.heap.size 25 (arC fx fy tx ty cx cy cw) by rw [← hW0]; exact Blk.new _ _ _)
  have HNW := Lib.hid (show Nw w W0 by rw [← hW0]; exact nw_alloc _ _)
  have k1 := fun h => within_le (x := fx) (y := fy) (m := 2000) (by decide) h
  have k2 := fun h => within_le (x := tx) (y := ty) (m := 2000) (by decide) h
  have k3 := fun h => within_le (x := cx) (y := cy) (m := 2000) (by decide) h
  have hv : validA fx fy tx ty cx cy = (withinV fx fy 2000 && withinV tx ty 2000 && withinV cx cy 2000 && (decide (0 < sqF fx fy cx cy) && decide (sqF fx fy cx cy ≤ 4000000) && sqF fx fy cx cy == sqF tx ty cx cy)) := rfl
  obtain ⟨b, hb⟩ : ∃ b, validA fx fy tx ty cx cy = b := ⟨_, rfl⟩
  rw [hb] at hv ⊢
  generalize withinV fx fy 2000 = b1 at *
  generalize withinV tx ty 2000 = b2 at *
  generalize withinV cx cy 2000 = b3 at *
  clear hb
  have q0 := fun p : KeptW W0 => (HB0.out.kept p).cell 0
  have m0 := HB0.out.cell 0
  have q1 := fun p : KeptW W0 => (HB0.out.kept p).cell 1
  have m1 := HB0.out.cell 1
  have q2 := fun p : KeptW W0 => (HB0.out.kept p).cell 2
  have m2 := HB0.out.cell 2
  have q3 := fun p : KeptW W0 => (HB0.out.kept p).cell 3
  have m3 := HB0.out.cell 3
  have q4 := fun p : KeptW W0 => (HB0.out.kept p).cell 4
  have m4 := HB0.out.cell 4
  have q5 := fun p : KeptW W0 => (HB0.out.kept p).cell 5
  have m5 := HB0.out.cell 5
  have q6 := fun p : KeptW W0 => (HB0.out.kept p).cell 6
  have m6 := HB0.out.cell 6
  rcases b1 with _ | _
  · obtain rfl : b = false := by rw [hv]; rfl
    clear k1 k2 k3 hv
    go_enter Try.func15, Try.ntmps15
    go_upto_region 1 with fail
    try rw [hW0]
    clear hW0
    go_wp2_with (first | (go_at_call 31; ((with_reducible refine (Calls.kept_first (c1 _)).mono ?_); rintro e _ ⟨rfl, p, rfl⟩)) | (go_at_call 31; ((with_reducible refine (Calls.kept_of (c1 _)).mono ?_); rintro e _ ⟨rfl, p, rfl⟩)) | (go_at_call 31; ((with_reducible refine (Calls.kept_of (c2 _)).mono ?_); rintro e _ ⟨rfl, p, rfl⟩)) | (go_at_call 31; ((with_reducible refine (Calls.kept_of (c3 _)).mono ?_); rintro e _ ⟨rfl, p, rfl⟩)) | fail)
    go_ret
    exact ⟨rfl, by repeat (first | exact HNW.out.tr p.since | exact HNW.out | refine Kp.drew ?_ | refine Kp.alloc ?_ _)⟩
  rcases b2 with _ | _
  · obtain rfl : b = false := by rw [hv]; rfl
    clear k1 k2 k3 hv
    go_enter Try.func15, Try.ntmps15
    go_upto_region 1 with fail
    try rw [hW0]
    clear hW0
    go_wp2_with (first | (go_at_call 31; ((with_reducible refine (Calls.kept_first (c1 _)).mono ?_); rintro e _ ⟨rfl, p, rfl⟩)) | (go_at_call 31; ((with_reducible refine (Calls.kept_of (c1 _)).mono ?_); rintro e _ ⟨rfl, p, rfl⟩)) | (go_at_call 31; ((with_reducible refine (Calls.kept_of (c2 _)).mono ?_); rintro e _ ⟨rfl, p, rfl⟩)) | (go_at_call 31; ((with_reducible refine (Calls.kept_of (c3 _)).mono ?_); rintro e _ ⟨rfl, p, rfl⟩)) | fail)
    go_ret
    exact ⟨rfl, by repeat (first | exact HNW.out.tr p.since | exact HNW.out | refine Kp.drew ?_ | refine Kp.alloc ?_ _)⟩
  rcases b3 with _ | _
  · obtain rfl : b = false := by rw [hv]; rfl
    clear k1 k2 k3 hv
    go_enter Try.func15, Try.ntmps15
    go_upto_region 1 with fail
    try rw [hW0]
    clear hW0
    go_wp2_with (first | (go_at_call 31; ((with_reducible refine (Calls.kept_first (c1 _)).mono ?_); rintro e _ ⟨rfl, p, rfl⟩)) | (go_at_call 31; ((with_reducible refine (Calls.kept_of (c1 _)).mono ?_); rintro e _ ⟨rfl, p, rfl⟩)) | (go_at_call 31; ((with_reducible refine (Calls.kept_of (c2 _)).mono ?_); rintro e _ ⟨rfl, p, rfl⟩)) | (go_at_call 31; ((with_reducible refine (Calls.kept_of (c3 _)).mono ?_); rintro e _ ⟨rfl, p, rfl⟩)) | fail)
    go_ret
    exact ⟨rfl, by repeat (first | exact HNW.out.tr p.since | exact HNW.out | refine Kp.drew ?_ | refine Kp.alloc ?_ _)⟩
  obtain ⟨s1, s2, s3, s4⟩ := sq_small (k1 rfl) (k3 rfl)
  obtain ⟨t1, t2, t3, t4⟩ := sq_small (k2 rfl) (k3 rfl)
  have d1 := fun w1 => sub_any fx fy cx cy w1
  have d2 := fun w1 => sub_any tx ty cx cy w1
  have d3 := fun w1 => dot_any (fx - cx) (fy - cy) (fx - cx) (fy - cy) w1
  have d4 := fun w1 => dot_any (tx - cx) (ty - cy) (tx - cx) (ty - cy) w1
  rw [s1, s2] at d1
  rw [t1, t2] at d2
  rw [s3] at d3
  rw [t3] at d4
  simp only [Bool.true_and] at hv
  clear k1 k2 k3 s1 s2 s3 t1 t2 t3
  generalize sqF fx fy cx cy = R at *
  generalize sqF tx ty cx cy = Q at *
  obtain ⟨x1, hx1⟩ : ∃ x, fx - cx = x := ⟨_, rfl⟩
  obtain ⟨y1, hy1⟩ : ∃ x, fy - cy = x := ⟨_, rfl⟩
  obtain ⟨x2, hx2⟩ : ∃ x, tx - cx = x := ⟨_, rfl⟩
  obtain ⟨y2, hy2⟩ : ∃ x, ty - cy = x := ⟨_, rfl⟩
  rw [hx1, hy1] at d1 d3
  rw [hx2, hy2] at d2 d4
  clear hx1 hy1 hx2 hy2
  go_enter Try.func15, Try.ntmps15
  go_upto_region 1 with fail
  try rw [hW0]
  clear hW0
  go_upto_region 3 with (first | (go_at_call 31; ((with_reducible refine (Calls.kept_first (c1 _)).mono ?_); rintro e _ ⟨rfl, p, rfl⟩)) | (go_at_call 31; ((with_reducible refine (Calls.kept_of (c1 _)).mono ?_); rintro e _ ⟨rfl, p, rfl⟩)) | (go_at_call 31; ((with_reducible refine (Calls.kept_of (c2 _)).mono ?_); rintro e _ ⟨rfl, p, rfl⟩)) | (go_at_call 31; ((with_reducible refine (Calls.kept_of (c3 _)).mono ?_); rintro e _ ⟨rfl, p, rfl⟩)) | fail)
  have HW3 := Lib.hid p.since
  generalize p.wd = w3 at HW3 ⊢
  clear q0 q1 q2 q3 q4 q5 q6 c1 c2 c3
  have HP := Lib.hid (show ∀ w', Nw w3 w' → w'.cell? (⟨w.heap.size, 0, none⟩ : Addr) = some (.int .i64 fx) ∧ w'.cell? (⟨w.heap.size, 1, none⟩ : Addr) = some (.int .i64 fy) ∧ w'.cell? (⟨w.heap.size, 2, none⟩ : Addr) = some (.int .i64 tx) ∧ w'.cell? (⟨w.heap.size, 3, none⟩ : Addr) = some (.int .i64 ty) ∧ w'.cell? (⟨w.heap.size, 4, none⟩ : Addr) = some (.int .i64 cx) ∧ w'.cell? (⟨w.heap.size, 5, none⟩ : Addr) = some (.int .i64 cy) from fun w' h => by
    have b := (HB0.out.nwA HW3.out).nwA h
    exact ⟨b.cell 0, b.cell 1, b.cell 2, b.cell 3, b.cell 4, b.cell 5⟩)
  go_cut [3, 4] from 22 to 31 (fun p5 p6 wx => ARel2 x1 y1 x2 y2 w3 p5 p6 wx)
  case first =>
    go_wp2_with fail
    go_region_held3 (fun w' : World => w'.cell? (⟨w.heap.size, 0, none⟩ : Addr) = some (.int .i64 fx) ∧ w'.cell? (⟨w.heap.size, 1, none⟩ : Addr) = some (.int .i64 fy) ∧ w'.cell? (⟨w.heap.size, 2, none⟩ : Addr) = some (.int .i64 tx) ∧ w'.cell? (⟨w.heap.size, 3, none⟩ : Addr) = some (.int .i64 ty) ∧ w'.cell? (⟨w.heap.size, 4, none⟩ : Addr) = some (.int .i64 cx) ∧ w'.cell? (⟨w.heap.size, 5, none⟩ : Addr) = some (.int .i64 cy))
      (first | ((refine HP.out _ ?_); (repeat (first | exact hb2 | exact hb1 | exact Kp.refl _ _ | refine Kp.alloc ?_ _ | refine Kp.drew ?_ | refine Kp.new ?_ (by omega) _ _))) | fail)
      (first | (go_at_call 26; ((with_reducible refine (d1 _).mono ?_); rintro e u1 ⟨rfl, hk1⟩; have hb1 : Nw w3 u1 := Kp.tr (by repeat (first | exact hb2 | exact hb1 | exact Kp.refl _ _ | refine Kp.alloc ?_ _ | refine Kp.drew ?_ | refine Kp.new ?_ (by omega) _ _)) hk1; have l1 := hb1.size; with_reducible (first | (have p1 := Blk.nwA (Blk.drew (Blk.new_at _ 23 #[.int .i64 0, .int .i64 0] (n := w3.heap.size + 1) (by simp))) hk1; have p0 := Blk.nwA (Blk.drew (Blk.alloc (Blk.new_at _ 23 #[.int .i64 0, .int .i64 0] (n := w3.heap.size) (by simp)) _)) hk1; have t1 := (p0).cell 0; have t2 := (p0).cell 1; have t3 := (p0).frozen 0; have t4 := (p0).frozen 1; have t5 := Nat.ne_of_lt p0.lt; have t6 := Ne.symm (Nat.ne_of_lt p0.lt); have t1 := (p1).cell 0; have t2 := (p1).cell 1; have t3 := (p1).frozen 0; have t4 := (p1).frozen 1; have t5 := Nat.ne_of_lt p1.lt; have t6 := Ne.symm (Nat.ne_of_lt p1.lt)) | (have p0 := Blk.nwA (Blk.drew (Blk.new_at _ 23 #[.int .i64 0, .int .i64 0] (n := w3.heap.size) (by simp))) hk1; have t1 := (p0).cell 0; have t2 := (p0).cell 1; have t3 := (p0).frozen 0; have t4 := (p0).frozen 1; have t5 := Nat.ne_of_lt p0.lt; have t6 := Ne.symm (Nat.ne_of_lt p0.lt)) | skip))) | (go_at_call 26; ((with_reducible refine (d2 _).mono ?_); rintro e u2 ⟨rfl, hk2⟩; have hb2 : Nw w3 u2 := Kp.tr (by repeat (first | exact hb2 | exact hb1 | exact Kp.refl _ _ | refine Kp.alloc ?_ _ | refine Kp.drew ?_ | refine Kp.new ?_ (by omega) _ _)) hk2; have l2 := hb2.size; with_reducible (first | (have t := p1; have rr1 := Blk.nwA p1 hk2; have rr0 := Blk.nwA p0 hk2; have t1 := (rr0).cell 0; have t2 := (rr0).cell 1; have t3 := (rr0).frozen 0; have t4 := (rr0).frozen 1; have t5 := Nat.ne_of_lt rr0.lt; have t6 := Ne.symm (Nat.ne_of_lt rr0.lt); have t1 := (rr1).cell 0; have t2 := (rr1).cell 1; have t3 := (rr1).frozen 0; have t4 := (rr1).frozen 1; have t5 := Nat.ne_of_lt rr1.lt; have t6 := Ne.symm (Nat.ne_of_lt rr1.lt)) | (have t := p0; have rr0 := Blk.nwA (Blk.alloc p0 _) hk2; have o0 := Blk.nwA (Blk.new_at _ 23 #[.int .i64 0, .int .i64 0] (n := u1.heap.size) (by simp)) hk2; have t1 := (rr0).cell 0; have t2 := (rr0).cell 1; have t3 := (rr0).frozen 0; have t4 := (rr0).frozen 1; have t5 := Nat.ne_of_lt rr0.lt; have t6 := Ne.symm (Nat.ne_of_lt rr0.lt); have t1 := (o0).cell 0; have t2 := (o0).cell 1; have t3 := (o0).frozen 0; have t4 := (o0).frozen 1; have t5 := Nat.ne_of_lt o0.lt; have t6 := Ne.symm (Nat.ne_of_lt o0.lt)) | (have t := p0; have rr0 := Blk.nwA p0 hk2; have t1 := (rr0).cell 0; have t2 := (rr0).cell 1; have t3 := (rr0).frozen 0; have t4 := (rr0).frozen 1; have t5 := Nat.ne_of_lt rr0.lt; have t6 := Ne.symm (Nat.ne_of_lt rr0.lt); have t1 := (rr0.alloc (.cells #[.int .i64 0, .int .i64 0] 23)).cell 0; have t2 := (rr0.alloc (.cells #[.int .i64 0, .int .i64 0] 23)).cell 1; have t3 := (rr0.alloc (.cells #[.int .i64 0, .int .i64 0] 23)).frozen 0; have t4 := (rr0.alloc (.cells #[.int .i64 0, .int .i64 0] 23)).frozen 1; have t1 := (rr0.alloc (.cells #[.int .i64 x1, .int .i64 y1] 23)).cell 0; have t2 := (rr0.alloc (.cells #[.int .i64 x1, .int .i64 y1] 23)).cell 1; have t3 := (rr0.alloc (.cells #[.int .i64 x1, .int .i64 y1] 23)).frozen 0; have t4 := (rr0.alloc (.cells #[.int .i64 x1, .int .i64 y1] 23)).frozen 1) | (have o1 := Blk.nwA (Blk.new_at _ 23 #[.int .i64 0, .int .i64 0] (n := u1.heap.size + 1) (by simp)) hk2; have o0 := Blk.nwA (Blk.alloc (Blk.new_at _ 23 #[.int .i64 0, .int .i64 0] (n := u1.heap.size) (by simp)) _) hk2; have t1 := (o0).cell 0; have t2 := (o0).cell 1; have t3 := (o0).frozen 0; have t4 := (o0).frozen 1; have t5 := Nat.ne_of_lt o0.lt; have t6 := Ne.symm (Nat.ne_of_lt o0.lt); have t1 := (o1).cell 0; have t2 := (o1).cell 1; have t3 := (o1).frozen 0; have t4 := (o1).frozen 1; have t5 := Nat.ne_of_lt o1.lt; have t6 := Ne.symm (Nat.ne_of_lt o1.lt)) | (have o0 := Blk.nwA (Blk.new_at _ 23 #[.int .i64 0, .int .i64 0] (n := u1.heap.size) (by simp)) hk2; have t1 := (o0).cell 0; have t2 := (o0).cell 1; have t3 := (o0).frozen 0; have t4 := (o0).frozen 1; have t5 := Nat.ne_of_lt o0.lt; have t6 := Ne.symm (Nat.ne_of_lt o0.lt); have t1 := (o0.alloc (.cells #[.int .i64 0, .int .i64 0] 23)).cell 0; have t2 := (o0.alloc (.cells #[.int .i64 0, .int .i64 0] 23)).cell 1; have t3 := (o0.alloc (.cells #[.int .i64 0, .int .i64 0] 23)).frozen 0; have t4 := (o0.alloc (.cells #[.int .i64 0, .int .i64 0] 23)).frozen 1; have t1 := (o0.alloc (.cells #[.int .i64 x1, .int .i64 y1] 23)).cell 0; have t2 := (o0.alloc (.cells #[.int .i64 x1, .int .i64 y1] 23)).cell 1; have t3 := (o0.alloc (.cells #[.int .i64 x1, .int .i64 y1] 23)).frozen 0; have t4 := (o0.alloc (.cells #[.int .i64 x1, .int .i64 y1] 23)).frozen 1) | skip))))
    all_goals (go_wp2_with fail; go_meet; case rel => (first | with_reducible exact atwo1 hb2 | with_reducible exact atwo2 hb2 | with_reducible exact atwo3 hb2 rr0 (by omega) | with_reducible exact atwo3 hb2 rr1 (by omega) | with_reducible exact atwo3 hb2 o0 (by omega) | with_reducible exact atwo3 hb2 o1 (by omega) | with_reducible exact atwo5 hb2 rr0 (by omega) | with_reducible exact atwo5 hb2 rr1 (by omega) | with_reducible exact atwo5 hb2 o0 (by omega) | with_reducible exact atwo5 hb2 o1 (by omega) | with_reducible exact atwo4 hb2 rr0 rr1 (by omega) (by omega) (by omega) | with_reducible exact atwo4 hb2 rr0 o0 (by omega) (by omega) (by omega) | with_reducible exact atwo4 hb2 rr0 o1 (by omega) (by omega) (by omega) | with_reducible exact atwo4 hb2 rr1 rr0 (by omega) (by omega) (by omega) | with_reducible exact atwo4 hb2 rr1 o0 (by omega) (by omega) (by omega) | with_reducible exact atwo4 hb2 rr1 o1 (by omega) (by omega) (by omega) | with_reducible exact atwo4 hb2 o0 rr0 (by omega) (by omega) (by omega) | with_reducible exact atwo4 hb2 o0 rr1 (by omega) (by omega) (by omega) | with_reducible exact atwo4 hb2 o0 o1 (by omega) (by omega) (by omega) | with_reducible exact atwo4 hb2 o1 rr0 (by omega) (by omega) (by omega) | with_reducible exact atwo4 hb2 o1 rr1 (by omega) (by omega) (by omega) | with_reducible exact atwo4 hb2 o1 o0 (by omega) (by omega) (by omega)))
  case rest =>
    obtain ⟨G5, G6, rfl, rfl, b5, b6, hkc, -⟩ := hcut
    have HC := Lib.hid (HNW.out.tr (HW3.out.tr hkc))
    have z0 := fun p : KeptW wc => (b5.kept p).cell 0
    have z1 := fun p : KeptW wc => (b5.kept p).cell 1
    have z2 := fun p : KeptW wc => (b6.kept p).cell 0
    have z3 := fun p : KeptW wc => (b6.kept p).cell 1
    have y0 := b5.cell 0
    have y1' := b5.cell 1
    clear b5 b6 hkc
    obtain ⟨g1, h1⟩ : ∃ g, decide (0 < R) = g := ⟨_, rfl⟩
    obtain ⟨g2, h2⟩ : ∃ g, decide (R ≤ 4000000) = g := ⟨_, rfl⟩
    obtain ⟨g3, h3⟩ : ∃ g, (R == Q) = g := ⟨_, rfl⟩
    rw [h1, h2, h3] at hv
    clear s4 t4
    cases g1 <;> cases g2 <;> (subst hv; go_wp2_with (first | (go_at_call 32; ((with_reducible refine (Calls.kept_first (d3 _)).mono ?_); rintro e _ ⟨rfl, p, rfl⟩)) | (go_at_call 32; ((with_reducible refine (Calls.kept_of (d4 _)).mono ?_); rintro e _ ⟨rfl, p, rfl⟩)) | fail); go_ret; exact ⟨by first | rfl | simp [h1, h2, h3], by repeat (first | exact HC.out.tr p.since | exact HC.out | refine Kp.drew ?_ | refine Kp.alloc ?_ _)⟩)

set_option maxRecDepth 100000 in
set_option maxHeartbeats 3200000 in
theorem square_any (x y s : Int) (hs : dotV x y x y = s) (w : World) : Calls Try.prog 33 #[vV x y] w fun e w' => e = .returned (.int .i64 s) ∧ Nw w w' := by
  have c := fun w1 => rdot_any x y x y w1
  rw [hs] at c
  have hb0 := Blk.new_at w 23 #[.int .i64 x, .int .i64 y] (n := w.heap.size) (by simp)
  have hk0 : ∀ p : KeptW (w.alloc (.cells #[.int .i64 x, .int .i64 y] 23)), Blk p.wd (w.heap.size) 23 #[.int .i64 x, .int .i64 y] := fun p => hb0.kept p
  have q0 := fun p => (hk0 p).cell 0
  have q1 := fun p => (hk0 p).cell 1
  skip
  clear hb0 hk0
  go_enter Try.func33, Try.ntmps33
  go_wp2_with (first | (go_at_call 21; ((with_reducible refine (Calls.kept_first (c _)).mono ?_); rintro e _ ⟨rfl, p, rfl⟩)) | fail)
  go_ret
  exact ⟨rfl, by repeat (first | exact ((nw_alloc _ _).tr p.since) | refine Kp.drew ?_ | refine Kp.alloc ?_ _)⟩

set_option maxRecDepth 100000 in
set_option maxHeartbeats 3200000 in
theorem ravalid_any (fx fy tx ty cx cy : Int) (cw : Bool) (w : World) : Calls Try.prog 16 #[arV fx fy tx ty cx cy cw] w fun e w' => e = .returned (.bool (validA fx fy tx ty cx cy)) ∧ Nw w w' := by
  have hmix := mixed7
  have c1 := fun w1 => rwithin_any fx fy 2000 w1
  have c2 := fun w1 => rwithin_any tx ty 2000 w1
  have c3 := fun w1 => rwithin_any cx cy 2000 w1
  obtain ⟨W0, hW0⟩ : ∃ W, w.alloc (.cells (arC fx fy tx ty cx cy cw) 25) = W := ⟨_, rfl⟩
  have HB0 := Lib.hid (show Blk W0 w.heap.size 25 (arC fx fy tx ty cx cy cw) by rw [← hW0]; exact Blk.new _ _ _)
  have HNW := Lib.hid (show Nw w W0 by rw [← hW0]; exact nw_alloc _ _)
  have k1 := fun h => within_le (x := fx) (y := fy) (m := 2000) (by decide) h
  have k2 := fun h => within_le (x := tx) (y := ty) (m := 2000) (by decide) h
  have k3 := fun h => within_le (x := cx) (y := cy) (m := 2000) (by decide) h
  have hv : validA fx fy tx ty cx cy = (withinV fx fy 2000 && withinV tx ty 2000 && withinV cx cy 2000 && (decide (0 < sqF fx fy cx cy) && decide (sqF fx fy cx cy ≤ 4000000) && sqF fx fy cx cy == sqF tx ty cx cy)) := rfl
  obtain ⟨b, hb⟩ : ∃ b, validA fx fy tx ty cx cy = b := ⟨_, rfl⟩
  rw [hb] at hv ⊢
  generalize withinV fx fy 2000 = b1 at *
  generalize withinV tx ty 2000 = b2 at *
  generalize withinV cx cy 2000 = b3 at *
  clear hb
  have q0 := fun p : KeptW W0 => (HB0.out.kept p).cell 0
  have m0 := HB0.out.cell 0
  have q1 := fun p : KeptW W0 => (HB0.out.kept p).cell 1
  have m1 := HB0.out.cell 1
  have q2 := fun p : KeptW W0 => (HB0.out.kept p).cell 2
  have m2 := HB0.out.cell 2
  have q3 := fun p : KeptW W0 => (HB0.out.kept p).cell 3
  have m3 := HB0.out.cell 3
  have q4 := fun p : KeptW W0 => (HB0.out.kept p).cell 4
  have m4 := HB0.out.cell 4
  have q5 := fun p : KeptW W0 => (HB0.out.kept p).cell 5
  have m5 := HB0.out.cell 5
  have q6 := fun p : KeptW W0 => (HB0.out.kept p).cell 6
  have m6 := HB0.out.cell 6
  rcases b1 with _ | _
  · obtain rfl : b = false := by rw [hv]; rfl
    clear k1 k2 k3 hv
    go_enter Try.func16, Try.ntmps16
    go_upto_region 1 with fail
    try rw [hW0]
    clear hW0
    go_wp2_with (first | (go_at_call 24; ((with_reducible refine (Calls.kept_first (c1 _)).mono ?_); rintro e _ ⟨rfl, p, rfl⟩)) | (go_at_call 24; ((with_reducible refine (Calls.kept_of (c1 _)).mono ?_); rintro e _ ⟨rfl, p, rfl⟩)) | (go_at_call 24; ((with_reducible refine (Calls.kept_of (c2 _)).mono ?_); rintro e _ ⟨rfl, p, rfl⟩)) | (go_at_call 24; ((with_reducible refine (Calls.kept_of (c3 _)).mono ?_); rintro e _ ⟨rfl, p, rfl⟩)) | fail)
    go_ret
    exact ⟨rfl, by repeat (first | exact HNW.out.tr p.since | exact HNW.out | refine Kp.drew ?_ | refine Kp.alloc ?_ _)⟩
  rcases b2 with _ | _
  · obtain rfl : b = false := by rw [hv]; rfl
    clear k1 k2 k3 hv
    go_enter Try.func16, Try.ntmps16
    go_upto_region 1 with fail
    try rw [hW0]
    clear hW0
    go_wp2_with (first | (go_at_call 24; ((with_reducible refine (Calls.kept_first (c1 _)).mono ?_); rintro e _ ⟨rfl, p, rfl⟩)) | (go_at_call 24; ((with_reducible refine (Calls.kept_of (c1 _)).mono ?_); rintro e _ ⟨rfl, p, rfl⟩)) | (go_at_call 24; ((with_reducible refine (Calls.kept_of (c2 _)).mono ?_); rintro e _ ⟨rfl, p, rfl⟩)) | (go_at_call 24; ((with_reducible refine (Calls.kept_of (c3 _)).mono ?_); rintro e _ ⟨rfl, p, rfl⟩)) | fail)
    go_ret
    exact ⟨rfl, by repeat (first | exact HNW.out.tr p.since | exact HNW.out | refine Kp.drew ?_ | refine Kp.alloc ?_ _)⟩
  rcases b3 with _ | _
  · obtain rfl : b = false := by rw [hv]; rfl
    clear k1 k2 k3 hv
    go_enter Try.func16, Try.ntmps16
    go_upto_region 1 with fail
    try rw [hW0]
    clear hW0
    go_wp2_with (first | (go_at_call 24; ((with_reducible refine (Calls.kept_first (c1 _)).mono ?_); rintro e _ ⟨rfl, p, rfl⟩)) | (go_at_call 24; ((with_reducible refine (Calls.kept_of (c1 _)).mono ?_); rintro e _ ⟨rfl, p, rfl⟩)) | (go_at_call 24; ((with_reducible refine (Calls.kept_of (c2 _)).mono ?_); rintro e _ ⟨rfl, p, rfl⟩)) | (go_at_call 24; ((with_reducible refine (Calls.kept_of (c3 _)).mono ?_); rintro e _ ⟨rfl, p, rfl⟩)) | fail)
    go_ret
    exact ⟨rfl, by repeat (first | exact HNW.out.tr p.since | exact HNW.out | refine Kp.drew ?_ | refine Kp.alloc ?_ _)⟩
  obtain ⟨s1, s2, s3, s4⟩ := sq_small (k1 rfl) (k3 rfl)
  obtain ⟨t1, t2, t3, t4⟩ := sq_small (k2 rfl) (k3 rfl)
  have d1 := fun w1 => rsub_any fx fy cx cy w1
  have d2 := fun w1 => rsub_any tx ty cx cy w1
  have d3 := fun w1 => square_any (fx - cx) (fy - cy) _ s3 w1
  have d4 := fun w1 => square_any (tx - cx) (ty - cy) _ t3 w1
  rw [s1, s2] at d1
  rw [t1, t2] at d2
  simp only [Bool.true_and] at hv
  clear k1 k2 k3 s1 s2 s3 t1 t2 t3
  generalize sqF fx fy cx cy = R at *
  generalize sqF tx ty cx cy = Q at *
  obtain ⟨x1, hx1⟩ : ∃ x, fx - cx = x := ⟨_, rfl⟩
  obtain ⟨y1, hy1⟩ : ∃ x, fy - cy = x := ⟨_, rfl⟩
  obtain ⟨x2, hx2⟩ : ∃ x, tx - cx = x := ⟨_, rfl⟩
  obtain ⟨y2, hy2⟩ : ∃ x, ty - cy = x := ⟨_, rfl⟩
  rw [hx1, hy1] at d1 d3
  rw [hx2, hy2] at d2 d4
  clear hx1 hy1 hx2 hy2
  obtain ⟨g1, h1⟩ : ∃ g, decide (0 < R) = g := ⟨_, rfl⟩
  obtain ⟨g2, h2⟩ : ∃ g, decide (R ≤ 4000000) = g := ⟨_, rfl⟩
  obtain ⟨g3, h3⟩ : ∃ g, (Q == R) = g := ⟨_, rfl⟩
  rw [h1, h2, show (R == Q) = (Q == R) from BEq.comm, h3] at hv
  clear s4 t4
  cases g1 <;> cases g2 <;> (subst hv; go_enter Try.func16, Try.ntmps16; go_upto_region 1 with fail; (try rw [hW0]); clear hW0; go_wp2_with (first | (go_at_call 24; ((with_reducible refine (Calls.kept_first (c1 _)).mono ?_); rintro e _ ⟨rfl, p, rfl⟩)) | (go_at_call 24; ((with_reducible refine (Calls.kept_of (c1 _)).mono ?_); rintro e _ ⟨rfl, p, rfl⟩)) | (go_at_call 24; ((with_reducible refine (Calls.kept_of (c2 _)).mono ?_); rintro e _ ⟨rfl, p, rfl⟩)) | (go_at_call 24; ((with_reducible refine (Calls.kept_of (c3 _)).mono ?_); rintro e _ ⟨rfl, p, rfl⟩)) | (go_at_call 20; ((with_reducible refine (Calls.kept_of (d1 _)).mono ?_); rintro e _ ⟨rfl, p, rfl⟩)) | (go_at_call 20; ((with_reducible refine (Calls.kept_of (d2 _)).mono ?_); rintro e _ ⟨rfl, p, rfl⟩)) | (go_at_call 33; ((with_reducible refine (Calls.kept_of (d3 _)).mono ?_); rintro e _ ⟨rfl, p, rfl⟩)) | (go_at_call 33; ((with_reducible refine (Calls.kept_of (d4 _)).mono ?_); rintro e _ ⟨rfl, p, rfl⟩)) | fail); go_ret; exact ⟨by first | rfl | simp [h1, h2, h3], by repeat (first | exact HNW.out.tr p.since | exact HNW.out | refine Kp.drew ?_ | refine Kp.alloc ?_ _)⟩)

end Go.Proofs.Ytlogihcmmoldkaa.W
