/-
  arc: the law ArcTolerance: it returns true. No condition but that the arguments are ints.
-/
import Derived.Test.YtlogihcmmoldkaaK45
namespace Go.Proofs.Ytlogihcmmoldkaa.W
open Go.RowKit Go.Proofs.Ytlogihcmmoldkaa.V Go.Proofs.Ytlogihcmmoldkaa.A

theorem far_words {px py qx qy R t : Int} (hp : Sm2 (px, py)) (hq : Sm2 (qx, qy)) (hR : 0 ≤ R ∧ R ≤ 4000000) (ht : 1 ≤ t ∧ t ≤ 50) (hD : 0 < nrm (qx - px, qy - py)) :
    ∃ c D k : Int, crossV px py qx qy = c ∧ w64 (qx - px) = qx - px ∧ w64 (qy - py) = qy - py ∧ dotV px py (qx - px) (qy - py) = dot0 (px, py) (qx - px, qy - py) ∧ dotV qx qy (qx - px) (qy - py) = dot0 (qx, qy) (qx - px, qy - py) ∧ dotV (qx - px) (qy - py) (qx - px) (qy - py) = D ∧ ¬ D = 0 ∧
      IntKind.i64.wrap (65536 * c) = 65536 * c ∧ IntKind.i64.wrap (65536 * c * c) = 65536 * c * c ∧ IntKind.i64.wrap ((65536 * c * c).tdiv D) = k ∧ I64 k ∧ IntKind.i64.wrap (isq k + 1) = isq k + 1 ∧
      IntKind.i64.wrap (256 * t) = 256 * t ∧ IntKind.i64.wrap (isq k + 1 + 256 * t) = isq k + 1 + 256 * t ∧ IntKind.i64.wrap (65536 * R) = 65536 * R ∧ I64 (65536 * R) ∧
      k = 65536 * crs0 (px, py) (qx, qy) * crs0 (px, py) (qx, qy) / nrm (qx - px, qy - py) := by
  unfold Sm2 at hp hq
  simp only at hp hq
  have m1 := abs_mul_le (x := px) (y := qy) (A := 2000) (B := 2000) (by omega) (by omega)
  have m2 := abs_mul_le (x := py) (y := qx) (A := 2000) (B := 2000) (by omega) (by omega)
  obtain ⟨c, hc⟩ : ∃ c, px * qy - py * qx = c := ⟨_, rfl⟩
  have hc2 : -8000000 ≤ c ∧ c ≤ 8000000 := by omega
  have m3 := abs_mul_le (x := c) (y := c) (A := 8000000) (B := 8000000) hc2 hc2
  have m4 := abs_mul_le (x := qx - px) (y := qx - px) (A := 4000) (B := 4000) (by omega) (by omega)
  have m5 := abs_mul_le (x := qy - py) (y := qy - py) (A := 4000) (B := 4000) (by omega) (by omega)
  have m6 := abs_mul_le (x := px) (y := qx - px) (A := 2000) (B := 4000) (by omega) (by omega)
  have m7 := abs_mul_le (x := py) (y := qy - py) (A := 2000) (B := 4000) (by omega) (by omega)
  have m8 := abs_mul_le (x := qx) (y := qx - px) (A := 2000) (B := 4000) (by omega) (by omega)
  have m9 := abs_mul_le (x := qy) (y := qy - py) (A := 2000) (B := 4000) (by omega) (by omega)
  have n3 := sqn c
  obtain ⟨D, hDD⟩ : ∃ D, nrm (qx - px, qy - py) = D := ⟨_, rfl⟩
  rw [hDD] at hD
  have hD1 : D = (qx - px) * (qx - px) + (qy - py) * (qy - py) := by rw [← hDD]; rfl
  have e : 65536 * c * c = 65536 * (c * c) := by rw [Int.mul_assoc]
  obtain ⟨N, hN⟩ : ∃ N, 65536 * c * c = N := ⟨_, rfl⟩
  have N0 : 0 ≤ N ∧ N < 9223372036854775808 := by omega
  have k0 : 0 ≤ N / D := Int.ediv_nonneg N0.1 (by omega)
  have k1 : N / D ≤ N := Int.ediv_le_self D N0.1
  have r1 := isq_big (n := N / D) (by omega)
  have r0 := isq_nn (N / D)
  refine ⟨c, D, N / D, ?_, w64_id ⟨by omega, by omega⟩, w64_id ⟨by omega, by omega⟩, w64_id ⟨by omega, by omega⟩, w64_id ⟨by omega, by omega⟩, ?_, by omega, ?_, ?_, ?_, ⟨by omega, by omega⟩, ?_, ?_, ?_, ?_, ⟨by omega, by omega⟩, ?_⟩
  · unfold crossV
    rw [hc]
    exact w64_id ⟨by omega, by omega⟩
  · unfold dotV
    rw [← hD1]
    exact w64_id ⟨by omega, by omega⟩
  · rw [IntKind.wrap_i64]; omega
  · rw [IntKind.wrap_i64]; omega
  · rw [hN, tdiv_pos N0.1, IntKind.wrap_i64]; omega
  · rw [IntKind.wrap_i64]; omega
  · rw [IntKind.wrap_i64]; omega
  · rw [IntKind.wrap_i64]; omega
  · rw [IntKind.wrap_i64]; omega
  · rw [hDD, show crs0 (px, py) (qx, qy) = c from hc, hN]

set_option maxRecDepth 100000 in
set_option maxHeartbeats 6400000 in
theorem distant_any (px py qx qy R t : Int) (hp : Sm2 (px, py)) (hq : Sm2 (qx, qy)) (hR : 0 ≤ R ∧ R ≤ 4000000) (ht : 1 ≤ t ∧ t ≤ 50) (hD : 0 < nrm (qx - px, qy - py))
    (hno : dot0 (px, py) (qx - px, qy - py) < 0 → 0 < dot0 (qx, qy) (qx - px, qy - py) → isq (65536 * crs0 (px, py) (qx, qy) * crs0 (px, py) (qx, qy) / nrm (qx - px, qy - py)) + 1 + 256 * t < isq (65536 * R) → False) (w : World) :
    Calls Try.prog 22 #[vV px py, vV qx qy, .int .i64 R, .int .i64 t] w fun e w' => e = .returned (.bool false) ∧ Nw w w' := by
  obtain ⟨c, D, k, e1, e2, e3, e4, e5, e6, z0, b1, b2, b3, ik, b4, b5, b6, b7, iR, hk⟩ := far_words hp hq hR ht hD
  rw [← hk] at hno
  have c1 := fun w1 => rsub_any qx qy px py w1
  rw [e2, e3] at c1
  have c2 := fun w1 => rdot_any px py (qx - px) (qy - py) w1
  rw [e4] at c2
  have c3 := fun w1 => rdot_any qx qy (qx - px) (qy - py) w1
  rw [e5] at c3
  have c4 := fun w1 => rcross_any px py qx qy w1
  rw [e1] at c4
  have c5 := fun w1 => rdot_any (qx - px) (qy - py) (qx - px) (qy - py) w1
  rw [e6] at c5
  have c6 := fun w1 => rroot_any k ik w1
  have c7 := fun w1 => rroot_any (65536 * R) iR w1
  generalize dot0 (px, py) (qx - px, qy - py) = E at *
  generalize dot0 (qx, qy) (qx - px, qy - py) = F at *
  generalize isq k = r1 at *
  generalize isq (65536 * R) = r2 at *
  generalize qx - px = x1 at *
  generalize qy - py = y1 at *
  obtain ⟨W0, hW0⟩ : ∃ W, ((w.alloc (.cells #[.int .i64 px, .int .i64 py] 23)).alloc (.cells #[.int .i64 qx, .int .i64 qy] 23)) = W := ⟨_, rfl⟩
  have HW := Lib.hid (show Nw w W0 by rw [← hW0]; exact (nw_alloc _ _).alloc _)
  have HB0 := Lib.hid (show Blk W0 w.heap.size 23 #[.int .i64 px, .int .i64 py] by rw [← hW0]; exact (Blk.new_at w 23 #[.int .i64 px, .int .i64 py] (n := w.heap.size) (by simp)).alloc _)
  have HB1 := Lib.hid (show Blk W0 (w.heap.size + 1) 23 #[.int .i64 qx, .int .i64 qy] by rw [← hW0]; exact Blk.new_at _ 23 #[.int .i64 qx, .int .i64 qy] (n := w.heap.size + 1) (by simp))
  have m0 := HB0.out.cell 0
  have m1 := HB0.out.cell 1
  have m2 := HB1.out.cell 0
  have m3 := HB1.out.cell 1
  have HNO := Lib.hid hno
  clear hno hp hq hR ht hD hk e1 e2 e3 e4 e5 e6 ik iR
  go_enter Try.func22, Try.ntmps22
  go_upto_region 1 with fail
  try rw [hW0]
  clear hW0
  go_upto_region 2 with (first | (go_at_call 20; ((with_reducible refine (Calls.kept_first (c1 _)).mono ?_); rintro e _ ⟨rfl, p, rfl⟩)) | fail)
  have HN1 := Lib.hid p.since
  generalize p.wd = wa at HN1 ⊢
  generalize hwm : World.alloc _ _ = wm
  obtain ⟨gm, hgm⟩ : ∃ x, wa.heap.size = x := ⟨_, rfl⟩
  have HM := Lib.hid (show Blk wm gm 23 #[.int .i64 x1, .int .i64 y1] by rw [← hwm, ← hgm]; exact Blk.new _ _ _)
  have HN0 := Lib.hid (show Nw W0 wm by rw [← hwm]; exact HN1.out.tr (nw_alloc _ _))
  try rw [hgm]
  clear hwm hgm m0 m1 m2 m3 c1
  have z1 := (HB0.out.nwA HN0.out).cell 0
  have z2 := (HB0.out.nwA HN0.out).cell 1
  have z3 := (HB1.out.nwA HN0.out).cell 0
  have z4 := (HB1.out.nwA HN0.out).cell 1
  have z5 := HM.out.cell 0
  have z6 := HM.out.cell 1
  have q1 := fun p : KeptW wm => ((HB0.out.nwA HN0.out).kept p).cell 0
  have q2 := fun p : KeptW wm => ((HB0.out.nwA HN0.out).kept p).cell 1
  have q3 := fun p : KeptW wm => ((HB1.out.nwA HN0.out).kept p).cell 0
  have q4 := fun p : KeptW wm => ((HB1.out.nwA HN0.out).kept p).cell 1
  have q5 := fun p : KeptW wm => (HM.out.kept p).cell 0
  have q6 := fun p : KeptW wm => (HM.out.kept p).cell 1
  have HNM := Lib.hid (HW.out.tr HN0.out)
  by_cases h1 : 0 ≤ E
  · have d1 : decide (0 ≤ E) = true := decide_eq_true h1
    go_wp2_with (first | (go_at_call 21; ((with_reducible refine (Calls.kept_first (c2 _)).mono ?_); rintro e _ ⟨rfl, p, rfl⟩)) | fail)
    go_ret
    exact ⟨rfl, HNM.out.tr p.since⟩
  · have d1 : decide (0 ≤ E) = false := decide_eq_false h1
    by_cases h2 : F ≤ 0
    · have d2 : decide (F ≤ 0) = true := decide_eq_true h2
      go_wp2_with (first | (go_at_call 21; ((with_reducible refine (Calls.kept_first (c2 _)).mono ?_); rintro e _ ⟨rfl, p, rfl⟩)) | (go_at_call 21; ((with_reducible refine (Calls.kept_of (c3 _)).mono ?_); rintro e _ ⟨rfl, p, rfl⟩)) | fail)
      go_ret
      exact ⟨rfl, HNM.out.tr p.since⟩
    · have d2 : decide (F ≤ 0) = false := decide_eq_false h2
      have d3 : decide (r1 + 1 + 256 * t < r2) = false := decide_eq_false fun h => HNO.out (by omega) (by omega) h
      clear h1 h2
      go_wp2_with (first | (go_at_call 21; ((with_reducible refine (Calls.kept_first (c2 _)).mono ?_); rintro e _ ⟨rfl, p, rfl⟩)) | (go_at_call 21; ((with_reducible refine (Calls.kept_of (c3 _)).mono ?_); rintro e _ ⟨rfl, p, rfl⟩)) | (go_at_call 23; ((with_reducible refine (Calls.kept_of (c4 _)).mono ?_); rintro e _ ⟨rfl, p, rfl⟩)) | (go_at_call 21; ((with_reducible refine (Calls.kept_of (c5 _)).mono ?_); rintro e _ ⟨rfl, p, rfl⟩)) | (go_at_call 37; ((with_reducible refine (Calls.kept_of (c6 _)).mono ?_); rintro e _ ⟨rfl, p, rfl⟩)) | (go_at_call 37; ((with_reducible refine (Calls.kept_of (c7 _)).mono ?_); rintro e _ ⟨rfl, p, rfl⟩)) | fail)
      go_ret
      exact ⟨rfl, HNM.out.tr p.since⟩

theorem tol_seg {cw : Bool} {R t : Int} {a b : Pt} (hR : 0 < R) (ht : 2 ≤ t) (h : relS cw R t a b) (h1 : dot0 a (b.1 - a.1, b.2 - a.2) < 0) (h2 : 0 < dot0 b (b.1 - a.1, b.2 - a.2))
    (h3 : isq (65536 * crs0 a b * crs0 a b / nrm (b.1 - a.1, b.2 - a.2)) + 1 + 256 * t < isq (65536 * R)) : False := by
  cases cw with
  | false => exact seg_tol hR ht (show Seg R t a b from h) h1 h2 h3
  | true =>
    refine seg_tol hR ht (show Seg R t b a from h) ?_ ?_ ?_
    · have : dot0 b (a.1 - b.1, a.2 - b.2) = -dot0 b (b.1 - a.1, b.2 - a.2) := by unfold dot0; grind
      omega
    · have : dot0 a (a.1 - b.1, a.2 - b.2) = -dot0 a (b.1 - a.1, b.2 - a.2) := by unfold dot0; grind
      omega
    · rw [show nrm (a.1 - b.1, a.2 - b.2) = nrm (b.1 - a.1, b.2 - a.2) by unfold nrm dot0; grind, show 65536 * crs0 b a * crs0 b a = 65536 * crs0 a b * crs0 a b by unfold crs0; grind]
      exact h3
theorem relS_diff {cw : Bool} {R t : Int} {a b : Pt} (h : relS cw R t a b) : 0 < nrm (b.1 - a.1, b.2 - a.2) := by
  cases cw with
  | false =>
    have g := arcs_diff (show Seg R t a b from h).1
    rw [show nrm (a.1 - b.1, a.2 - b.2) = nrm (b.1 - a.1, b.2 - a.2) by unfold nrm dot0; grind] at g
    exact g
  | true => exact arcs_diff (show Seg R t b a from h).1

set_option maxRecDepth 100000 in
set_option maxHeartbeats 12800000 in
theorem lawTol_any (fx fy tx ty cx cy t : Int) (cw : Bool) (w : World) : Calls Try.prog 7 #[arV fx fy tx ty cx cy cw, .int .i64 t] w fun e w' => e = .returned (.bool true) ∧ Nw w w' := by
  have hmix := mixed7
  obtain ⟨W0, hW0⟩ : ∃ W, w.alloc (.cells (arC fx fy tx ty cx cy cw) 25) = W := ⟨_, rfl⟩
  have HB0 := Lib.hid (show Blk W0 w.heap.size 25 (arC fx fy tx ty cx cy cw) by rw [← hW0]; exact Blk.new _ _ _)
  have HNW := Lib.hid (show Nw w W0 by rw [← hW0]; exact nw_alloc _ _)
  rcases flat_two fx fy tx ty cx cy t cw with ⟨ec, hec, hbad, hf, -⟩ | ⟨hv, ht, l, hc, hf, -⟩
  · unfold FlatR at hf
    have e9 : (ec != 0) = true := by simp [hec]
    clear hec
    go_enter Try.func7, Try.ntmps7
    go_upto_region 1 with fail
    try rw [hW0]
    clear hW0
    go_upto_region 3 with (first | (go_at_call 11; ((with_reducible refine (awakeA_any _).mono ?_); rintro e w1 ⟨rfl, k1⟩; have K1 := Lib.hid k1; clear k1)) | fail)
    have z0 := (HB0.out.nwA K1.out).cell 0
    have z1 := (HB0.out.nwA K1.out).cell 1
    have z2 := (HB0.out.nwA K1.out).cell 2
    have z3 := (HB0.out.nwA K1.out).cell 3
    have z4 := (HB0.out.nwA K1.out).cell 4
    have z5 := (HB0.out.nwA K1.out).cell 5
    have z6 := (HB0.out.nwA K1.out).cell 6
    go_upto_region 4 with (first | (go_at_call 12; refine (hf _).mono ?_; rintro e w2 ⟨v2, rfl, s2, k2⟩; (obtain ⟨A2, c2, rfl⟩ := s2.shape); have S2 := Lib.hid s2; have K2 := Lib.hid k2; clear s2 k2) | fail)
    clear z0 z1 z2 z3 z4 z5 z6 hf
    have HN2 := Lib.hid (K1.out.tr K2.out)
    try simp only [List.length_nil]
    clear hbad
    go_wp2_with fail
    go_ret
    exact ⟨rfl, HNW.out.tr HN2.out⟩
  · unfold FlatR at hf
    obtain ⟨D, hD, F⟩ := chain_pack hv ht hc
    have HR := Lib.hid (show 0 < nrm (fx - cx, fy - cy) ∧ nrm (fx - cx, fy - cy) ≤ 4000000 from ⟨(valid_parts hv).2.2.2.1, (valid_parts hv).2.2.2.2.1⟩)
    have HV := Lib.hid (valid_parts hv)
    rw [hD] at hf
    obtain ⟨n, hn⟩ : ∃ n, D.length = n := ⟨_, rfl⟩
    have hn2 : 2 ≤ n := hn ▸ F.two
    have hn3 : n ≤ 64032009 := hn ▸ F.top
    have HF := Lib.hid F
    have HN := Lib.hid hn
    have HT := Lib.hid ht
    clear hD F hc hv hn
    go_enter Try.func7, Try.ntmps7
    go_upto_region 1 with fail
    try rw [hW0]
    clear hW0
    go_upto_region 3 with (first | (go_at_call 11; ((with_reducible refine (awakeA_any _).mono ?_); rintro e w1 ⟨rfl, k1⟩; have K1 := Lib.hid k1; clear k1)) | fail)
    have z0 := (HB0.out.nwA K1.out).cell 0
    have z1 := (HB0.out.nwA K1.out).cell 1
    have z2 := (HB0.out.nwA K1.out).cell 2
    have z3 := (HB0.out.nwA K1.out).cell 3
    have z4 := (HB0.out.nwA K1.out).cell 4
    have z5 := (HB0.out.nwA K1.out).cell 5
    have z6 := (HB0.out.nwA K1.out).cell 6
    go_upto_region 4 with (first | (go_at_call 12; refine (hf _).mono ?_; rintro e w2 ⟨v2, rfl, s2, k2⟩; (obtain ⟨A2, c2, rfl⟩ := s2.shape); have S2 := Lib.hid s2; have K2 := Lib.hid k2; clear s2 k2) | fail)
    clear z0 z1 z2 z3 z4 z5 z6 hf
    have HN2 := Lib.hid (K1.out.tr K2.out)
    first | rw [HN.out] | rw [show (D.map (mvC cx cy)).length = n by rw [List.length_map, HN.out]]
    obtain ⟨g, o, hA, hcell⟩ := chain_cells (by rw [HN.out]; omega) S2.out
    subst hA
    have HCL := Lib.hid hcell
    clear hcell
    by_cases h2 : t < 2
    · have e2 : decide (t < 2) = true := decide_eq_true h2
      clear h2
      go_wp2_with fail
      go_ret
      exact ⟨rfl, HNW.out.tr HN2.out⟩
    have e2 : decide (t < 2) = false := decide_eq_false h2
    have z0 := (HB0.out.nwA HN2.out).cell 0
    have z1 := (HB0.out.nwA HN2.out).cell 1
    have z4 := (HB0.out.nwA HN2.out).cell 4
    have z5 := (HB0.out.nwA HN2.out).cell 5
    have v := HV.out
    have sf := sq_small v.1 v.2.2.1
    have cd := fun w1 => rsub_any fx fy cx cy w1
    rw [sf.1, sf.2.1] at cd
    have cR := fun w1 => rdot_any (fx - cx) (fy - cy) (fx - cx) (fy - cy) w1
    rw [sf.2.2.1, show sqF fx fy cx cy = nrm (fx - cx, fy - cy) from rfl] at cR
    clear v sf
    generalize hx1 : fx - cx = x1 at *
    generalize hy1 : fy - cy = y1 at *
    generalize hRR : nrm (x1, y1) = R at *
    go_upto_region 7 with (first | (go_at_call 20; ((with_reducible refine (Calls.kept_first (cd _)).mono ?_); rintro e _ ⟨rfl, p, rfl⟩)) | fail)
    have HN4 := Lib.hid p.since
    generalize p.wd = wa at HN4 ⊢
    generalize hw3 : World.alloc _ _ = w3
    obtain ⟨gd, hgd⟩ : ∃ x, wa.heap.size = x := ⟨_, rfl⟩
    have HBD := Lib.hid (show Blk w3 gd 23 #[.int .i64 x1, .int .i64 y1] by rw [← hw3, ← hgd]; exact Blk.new _ _ _)
    have HN3 := Lib.hid (show Nw w2 w3 by rw [← hw3]; exact HN4.out.tr (nw_alloc _ _))
    try rw [hgd]
    clear hw3 hgd z0 z1 z4 z5 cd e2
    go_wp2_with fail
    go_loopw [8] (fun i wr => ∃ k : Nat, i = .int .i64 k ∧ 1 ≤ k ∧ k ≤ n ∧ Nw w3 wr) (fun i _ => n - (intOf i).toNat)
    case atStart => exact ⟨1, rfl, Nat.le_refl _, by omega, Kp.refl _ _⟩
    case round =>
      obtain ⟨k, rfl, hk1, hk, hnw⟩ := hrel
      have HK := Lib.hid hnw
      clear hnw
      by_cases hkn : k < n
      · have i0 : (0 : Int) ≤ (k : Int) := by omega
        have i1 : (k : Int) < (n : Int) := by omega
        obtain ⟨s4, hs4⟩ : ∃ s : Nat, k + 1 = s := ⟨_, rfl⟩
        have a4 : IntKind.i64.wrap ((k : Int) + 1) = (s4 : Int) := by rw [IntKind.wrap_i64]; omega
        have H4 := Lib.hid hs4
        obtain ⟨j, hj⟩ : ∃ j : Nat, k - 1 = j := ⟨_, rfl⟩
        have aj : IntKind.i64.wrap ((k : Int) - 1) = (j : Int) := by rw [IntKind.wrap_i64]; omega
        have j0 : (0 : Int) ≤ (j : Int) := by omega
        have j1 : (j : Int) < (n : Int) := by omega
        obtain ⟨⟨ax, ay⟩, ha⟩ : ∃ p, D[j]? = some p := ⟨_, List.getElem?_eq_getElem (by rw [HN.out]; omega)⟩
        obtain ⟨⟨bx, bz⟩, hb⟩ : ∃ p, D[k]? = some p := ⟨_, List.getElem?_eq_getElem (by rw [HN.out]; exact hkn)⟩
        have hs := HF.out.seg j _ _ ha (by rw [show j + 1 = k by omega]; exact hb)
        have va := dig_2000 HR.out.2 (HF.out.pts _ (List.mem_of_getElem? ha)).1
        have vb := dig_2000 HR.out.2 (HF.out.pts _ (List.mem_of_getElem? hb)).1
        have vc := HV.out.2.2.1
        have d1 := fun w1 => rsub_any (ax + cx) (ay + cy) cx cy w1
        have d2 := fun w1 => rsub_any (bx + cx) (bz + cy) cx cy w1
        rw [back va.1 vc.1, back va.2 vc.2] at d1
        rw [back vb.1 vc.1, back vb.2 vc.2] at d2
        have HA := Lib.hid ha
        have HB := Lib.hid hb
        have HS := Lib.hid hs
        have cx2 := fun w1 => distant_any ax ay bx bz R t va vb ⟨Int.le_of_lt HR.out.1, HR.out.2⟩ HT.out (relS_diff hs) (fun h1 h3 h4 => tol_seg HR.out.1 (by omega) hs h1 h3 h4) w1
        have q0 := fun p : KeptW wr => (HCL.out p.wd (HN3.out.tr (HK.out.tr p.since)) j ax ay HA.out).1
        have q1 := fun p : KeptW wr => (HCL.out p.wd (HN3.out.tr (HK.out.tr p.since)) j ax ay HA.out).2
        have q2 := fun p : KeptW wr => (HCL.out p.wd (HN3.out.tr (HK.out.tr p.since)) k bx bz HB.out).1
        have q3 := fun p : KeptW wr => (HCL.out p.wd (HN3.out.tr (HK.out.tr p.since)) k bx bz HB.out).2
        have q4 := fun p : KeptW wr => ((((HB0.out.nwA HN2.out).nwA HN3.out).nwA HK.out).kept p).cell 4
        have q5 := fun p : KeptW wr => ((((HB0.out.nwA HN2.out).nwA HN3.out).nwA HK.out).kept p).cell 5
        have q6 := fun p : KeptW wr => ((HBD.out.nwA HK.out).kept p).cell 0
        have q7 := fun p : KeptW wr => ((HBD.out.nwA HK.out).kept p).cell 1
        clear ha hb hs va vb vc hs4 hj
        go_upto_region 10 with fail
        refine wp_region_kept (Kp.refl _ _) (by assumption) (by kernel_rfl) ?_
        repeat (with_reducible refine wpQuiet_step (fun K hK => ?_); go_simp; first | ((with_reducible refine hK _ ?_); clear hK K) | (with_reducible apply Exists.intro; (with_reducible refine ⟨fun _ => ?_, hK _ ?_⟩); ((first | (go_at_call 20; with_reducible exact Calls.kept_of (d1 _)) | (go_at_call 20; with_reducible exact Calls.kept_of (d2 _)) | (go_at_call 21; with_reducible exact Calls.kept_of (cR _)) | (go_at_call 22; with_reducible exact Calls.kept_of (cx2 _)) | fail)); clear hK K) | (simp only [undef, reduceCtorEq, if_false]; (with_reducible refine hK _ ?_); clear hK K))
        with_reducible refine wpQuiet_nil ?_
        rintro _ ⟨p, rfl⟩
        go_wp2_with fail
        go_roundw
        case rel => exact ⟨k + 1, by rw [← H4.out], by omega, by omega, by repeat (first | exact HK.out.tr p.since | refine Kp.drew ?_)⟩
        case measure => (have := H4.out; simp [intOf]; try omega)
      · obtain rfl : k = n := by omega
        have i5 : ¬ ((k : Int) < (k : Int)) := by omega
        go_wp2_with fail
        go_ret
        exact ⟨rfl, HNW.out.tr (HN2.out.tr (HN3.out.tr HK.out))⟩

end Go.Proofs.Ytlogihcmmoldkaa.W
