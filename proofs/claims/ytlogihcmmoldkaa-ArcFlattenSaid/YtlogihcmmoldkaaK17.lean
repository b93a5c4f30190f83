/-
  arc: Flatten of the reference: what it returns. No condition on the arguments; the chain is that of the chapter.
-/
import Derived.Test.YtlogihcmmoldkaaK16
import Derived.Test.YtlogihcmmoldkaaK11
namespace Go.Proofs.Ytlogihcmmoldkaa.W
open Go.RowKit Go.Proofs.Ytlogihcmmoldkaa.V Go.Proofs.Ytlogihcmmoldkaa.A

set_option maxRecDepth 100000 in
set_option maxHeartbeats 3200000 in
theorem rflat_arg (fx fy tx ty cx cy t : Int) (cw : Bool) (hv : validA fx fy tx ty cx cy = false) (w : World) : Calls Try.prog 13 #[arV fx fy tx ty cx cy cw, .int .i64 t] w fun e w' => e = .returned (.tuple #[.slice none 0 0, .int .i64 1]) ∧ Nw w w' := by
  have hmix := mixed7
  have c1 := fun w1 => ravalid_any fx fy tx ty cx cy cw w1
  obtain ⟨W0, hW0⟩ : ∃ W, w.alloc (.cells (arC fx fy tx ty cx cy cw) 25) = W := ⟨_, rfl⟩
  have HB0 := Lib.hid (show Blk W0 w.heap.size 25 (arC fx fy tx ty cx cy cw) by rw [← hW0]; exact Blk.new _ _ _)
  have HNW := Lib.hid (show Nw w W0 by rw [← hW0]; exact nw_alloc _ _)
  have m0 := HB0.out.cell 0
  have m1 := HB0.out.cell 1
  have m2 := HB0.out.cell 2
  have m3 := HB0.out.cell 3
  have m4 := HB0.out.cell 4
  have m5 := HB0.out.cell 5
  have m6 := HB0.out.cell 6
  rw [hv] at c1
  go_enter Try.func13, Try.ntmps13
  go_upto_region 1 with fail
  try rw [hW0]
  clear hW0
  go_wp2_with (first | (go_at_call 16; ((with_reducible refine (Calls.kept_first (c1 _)).mono ?_); rintro e _ ⟨rfl, p, rfl⟩)) | fail)
  go_ret2
  exact ⟨rfl, by repeat (first | exact HNW.out.tr p.since | exact HNW.out | refine Kp.drew ?_ | refine Kp.alloc ?_ _)⟩

set_option maxRecDepth 100000 in
set_option maxHeartbeats 3200000 in
theorem rflat_range (fx fy tx ty cx cy t : Int) (cw : Bool) (hv : validA fx fy tx ty cx cy = true) (ht : ¬ (1 ≤ t ∧ t ≤ 50)) (w : World) : Calls Try.prog 13 #[arV fx fy tx ty cx cy cw, .int .i64 t] w fun e w' => e = .returned (.tuple #[.slice none 0 0, .int .i64 2]) ∧ Nw w w' := by
  have hmix := mixed7
  have c1 := fun w1 => ravalid_any fx fy tx ty cx cy cw w1
  obtain ⟨W0, hW0⟩ : ∃ W, w.alloc (.cells (arC fx fy tx ty cx cy cw) 25) = W := ⟨_, rfl⟩
  have HB0 := Lib.hid (show Blk W0 w.heap.size 25 (arC fx fy tx ty cx cy cw) by rw [← hW0]; exact Blk.new _ _ _)
  have HNW := Lib.hid (show Nw w W0 by rw [← hW0]; exact nw_alloc _ _)
  have m0 := HB0.out.cell 0
  have m1 := HB0.out.cell 1
  have m2 := HB0.out.cell 2
  have m3 := HB0.out.cell 3
  have m4 := HB0.out.cell 4
  have m5 := HB0.out.cell 5
  have m6 := HB0.out.cell 6
  rw [hv] at c1
  by_cases h1 : t < 1
  · have e1 : decide (t < 1) = true := decide_eq_true h1
    clear ht
    go_enter Try.func13, Try.ntmps13
    go_upto_region 1 with fail
    try rw [hW0]
    clear hW0
    go_wp2_with (first | (go_at_call 16; ((with_reducible refine (Calls.kept_first (c1 _)).mono ?_); rintro e _ ⟨rfl, p, rfl⟩)) | fail)
    go_ret2
    exact ⟨rfl, by repeat (first | exact HNW.out.tr p.since | exact HNW.out | refine Kp.drew ?_ | refine Kp.alloc ?_ _)⟩
  · have e1 : decide (t < 1) = false := decide_eq_false h1
    have h2 : 50 < t := by omega
    have e2 : decide (50 < t) = true := decide_eq_true h2
    clear ht
    go_enter Try.func13, Try.ntmps13
    go_upto_region 1 with fail
    try rw [hW0]
    clear hW0
    go_wp2_with (first | (go_at_call 16; ((with_reducible refine (Calls.kept_first (c1 _)).mono ?_); rintro e _ ⟨rfl, p, rfl⟩)) | fail)
    go_ret2
    exact ⟨rfl, by repeat (first | exact HNW.out.tr p.since | exact HNW.out | refine Kp.drew ?_ | refine Kp.alloc ?_ _)⟩

set_option maxRecDepth 100000 in
set_option maxHeartbeats 12800000 in
theorem rflat_false (fx fy tx ty cx cy t : Int) (hv : validA fx fy tx ty cx cy = true) (ht : 1 ≤ t ∧ t ≤ 50) {l : List Pt} (hch : Ch (nrm (fx - cx, fy - cy)) t (fx - cx, fy - cy) (tx - cx, ty - cy) l) (w : World) :
    Calls Try.prog 13 #[arV fx fy tx ty cx cy false, .int .i64 t] w fun e w' => ∃ v, e = .returned (.tuple #[v, .int .i64 0]) ∧ SrcV w' v (((fx - cx, fy - cy) :: l).map (mvC cx cy)) ∧ Nw w w' := by
  have hmix := mixed7
  have c1 := fun w1 => ravalid_any fx fy tx ty cx cy false w1
  obtain ⟨W0, hW0⟩ : ∃ W, w.alloc (.cells (arC fx fy tx ty cx cy false) 25) = W := ⟨_, rfl⟩
  have HB0 := Lib.hid (show Blk W0 w.heap.size 25 (arC fx fy tx ty cx cy false) by rw [← hW0]; exact Blk.new _ _ _)
  have HNW := Lib.hid (show Nw w W0 by rw [← hW0]; exact nw_alloc _ _)
  have m0 := HB0.out.cell 0
  have m1 := HB0.out.cell 1
  have m2 := HB0.out.cell 2
  have m3 := HB0.out.cell 3
  have m4 := HB0.out.cell 4
  have m5 := HB0.out.cell 5
  have m6 := HB0.out.cell 6
  rw [hv] at c1
  have e1 : decide (t < 1) = false := decide_eq_false (by omega)
  have e2 : decide (50 < t) = false := decide_eq_false (by omega)
  obtain ⟨v1, v2, v3, v4, v5, v6⟩ := valid_parts hv
  have d1 := fun w1 => rsub_any fx fy cx cy w1
  have d2 := fun w1 => rsub_any tx ty cx cy w1
  rw [(sq_small v1 v3).1, (sq_small v1 v3).2.1] at d1
  rw [(sq_small v2 v3).1, (sq_small v2 v3).2.1] at d2
  have hsm := ch_small v4 v5 hch rfl v6
  have hlen := ch_max v4 v5 hch rfl v6
  have cc := fun w1 => rchain_any v4 v5 ht rfl v6 hch w1
  have HV3 := Lib.hid v3
  clear v1 v2 v3 v4 v5 v6 hv ht hch
  obtain ⟨x1, hx1⟩ : ∃ x, fx - cx = x := ⟨_, rfl⟩
  obtain ⟨y1, hy1⟩ : ∃ x, fy - cy = x := ⟨_, rfl⟩
  obtain ⟨x2, hx2⟩ : ∃ x, tx - cx = x := ⟨_, rfl⟩
  obtain ⟨y2, hy2⟩ : ∃ x, ty - cy = x := ⟨_, rfl⟩
  rw [hx1, hy1] at d1 hsm ⊢; rw [hx2, hy2] at d2
  rw [hx1, hy1, hx2, hy2] at cc
  clear hx1 hy1 hx2 hy2
  obtain ⟨L, hL⟩ : ∃ L, ((x1, y1) :: l) = L := ⟨_, rfl⟩
  obtain ⟨n, hn⟩ : ∃ n, L.length = n := ⟨_, rfl⟩
  have hl : n ≤ 64032009 := by rw [← hn, ← hL]; simp; omega
  have hn0 : 0 < n := by rw [← hn, ← hL]; simp
  have HSM := Lib.hid (show ∀ x ∈ L, Sm2 x from fun x hx => hsm x (by rw [← hL] at hx; exact hx))
  have HN := Lib.hid hn
  rw [hL] at cc ⊢
  unfold OwnA at cc
  rw [hn] at cc
  clear hsm hn hL hlen
  go_enter Try.func13, Try.ntmps13
  go_upto_region 1 with fail
  try rw [hW0]
  clear hW0
  go_upto_region 5 with (first | (go_at_call 16; ((with_reducible refine (Calls.kept_first (c1 _)).mono ?_); rintro e _ ⟨rfl, p, rfl⟩)) | fail)
  have HW3 := Lib.hid p.since
  generalize p.wd = w3 at HW3 ⊢
  clear m0 m1 m2 m3 m4 m5 m6 c1 e1 e2
  have HP := Lib.hid (show ∀ w', Nw w3 w' → w'.cell? (⟨w.heap.size, 0, none⟩ : Addr) = some (.int .i64 fx) ∧ w'.cell? (⟨w.heap.size, 1, none⟩ : Addr) = some (.int .i64 fy) ∧ w'.cell? (⟨w.heap.size, 2, none⟩ : Addr) = some (.int .i64 tx) ∧ w'.cell? (⟨w.heap.size, 3, none⟩ : Addr) = some (.int .i64 ty) ∧ w'.cell? (⟨w.heap.size, 4, none⟩ : Addr) = some (.int .i64 cx) ∧ w'.cell? (⟨w.heap.size, 5, none⟩ : Addr) = some (.int .i64 cy) from fun w' h => by
    have b := (HB0.out.nwA HW3.out).nwA h
    exact ⟨b.cell 0, b.cell 1, b.cell 2, b.cell 3, b.cell 4, b.cell 5⟩)
  go_cut [6, 7] from 22 to 31 (fun p5 p6 wx => ARel2 x1 y1 x2 y2 w3 p5 p6 wx)
  case first =>
    go_wp2_with fail
    go_region_held3 (fun w' : World => w'.cell? (⟨w.heap.size, 0, none⟩ : Addr) = some (.int .i64 fx) ∧ w'.cell? (⟨w.heap.size, 1, none⟩ : Addr) = some (.int .i64 fy) ∧ w'.cell? (⟨w.heap.size, 2, none⟩ : Addr) = some (.int .i64 tx) ∧ w'.cell? (⟨w.heap.size, 3, none⟩ : Addr) = some (.int .i64 ty) ∧ w'.cell? (⟨w.heap.size, 4, none⟩ : Addr) = some (.int .i64 cx) ∧ w'.cell? (⟨w.heap.size, 5, none⟩ : Addr) = some (.int .i64 cy))
      (first | ((refine HP.out _ ?_); (repeat (first | exact hb2 | exact hb1 | exact Kp.refl _ _ | refine Kp.alloc ?_ _ | refine Kp.drew ?_ | refine Kp.new ?_ (by omega) _ _))) | fail)
      (first | (go_at_call 20; ((with_reducible refine (d1 _).mono ?_); rintro e u1 ⟨rfl, hk1⟩; have hb1 : Nw w3 u1 := Kp.tr (by repeat (first | exact hb2 | exact hb1 | exact Kp.refl _ _ | refine Kp.alloc ?_ _ | refine Kp.drew ?_ | refine Kp.new ?_ (by omega) _ _)) hk1; have l1 := hb1.size; with_reducible (first | (have p1 := Blk.nwA (Blk.drew (Blk.new_at _ 23 #[.int .i64 0, .int .i64 0] (n := w3.heap.size + 1) (by simp))) hk1; have p0 := Blk.nwA (Blk.drew (Blk.alloc (Blk.new_at _ 23 #[.int .i64 0, .int .i64 0] (n := w3.heap.size) (by simp)) _)) hk1; have t1 := (p0).cell 0; have t2 := (p0).cell 1; have t3 := (p0).frozen 0; have t4 := (p0).frozen 1; have t5 := Nat.ne_of_lt p0.lt; have t6 := Ne.symm (Nat.ne_of_lt p0.lt); have t1 := (p1).cell 0; have t2 := (p1).cell 1; have t3 := (p1).frozen 0; have t4 := (p1).frozen 1; have t5 := Nat.ne_of_lt p1.lt; have t6 := Ne.symm (Nat.ne_of_lt p1.lt)) | (have p0 := Blk.nwA (Blk.drew (Blk.new_at _ 23 #[.int .i64 0, .int .i64 0] (n := w3.heap.size) (by simp))) hk1; have t1 := (p0).cell 0; have t2 := (p0).cell 1; have t3 := (p0).frozen 0; have t4 := (p0).frozen 1; have t5 := Nat.ne_of_lt p0.lt; have t6 := Ne.symm (Nat.ne_of_lt p0.lt)) | skip))) | (go_at_call 20; ((with_reducible refine (d2 _).mono ?_); rintro e u2 ⟨rfl, hk2⟩; have hb2 : Nw w3 u2 := Kp.tr (by repeat (first | exact hb2 | exact hb1 | exact Kp.refl _ _ | refine Kp.alloc ?_ _ | refine Kp.drew ?_ | refine Kp.new ?_ (by omega) _ _)) hk2; have l2 := hb2.size; with_reducible (first | (have t := p1; have rr1 := Blk.nwA p1 hk2; have rr0 := Blk.nwA p0 hk2; have t1 := (rr0).cell 0; have t2 := (rr0).cell 1; have t3 := (rr0).frozen 0; have t4 := (rr0).frozen 1; have t5 := Nat.ne_of_lt rr0.lt; have t6 := Ne.symm (Nat.ne_of_lt rr0.lt); have t1 := (rr1).cell 0; have t2 := (rr1).cell 1; have t3 := (rr1).frozen 0; have t4 := (rr1).frozen 1; have t5 := Nat.ne_of_lt rr1.lt; have t6 := Ne.symm (Nat.ne_of_lt rr1.lt)) | (have t := p0; have rr0 := Blk.nwA (Blk.alloc p0 _) hk2; have o0 := Blk.nwA (Blk.new_at _ 23 #[.int .i64 0, .int .i64 0] (n := u1.heap.size) (by simp)) hk2; have t1 := (rr0).cell 0; have t2 := (rr0).cell 1; have t3 := (rr0).frozen 0; have t4 := (rr0).frozen 1; have t5 := Nat.ne_of_lt rr0.lt; have t6 := Ne.symm (Nat.ne_of_lt rr0.lt); have t1 := (o0).cell 0; have t2 := (o0).cell 1; have t3 := (o0).frozen 0; have t4 := (o0).frozen 1; have t5 := Nat.ne_of_lt o0.lt; have t6 := Ne.symm (Nat.ne_of_lt o0.lt)) | (have t := p0; have rr0 := Blk.nwA p0 hk2; have t1 := (rr0).cell 0; have t2 := (rr0).cell 1; have t3 := (rr0).frozen 0; have t4 := (rr0).frozen 1; have t5 := Nat.ne_of_lt rr0.lt; have t6 := Ne.symm (Nat.ne_of_lt rr0.lt); have t1 := (rr0.alloc (.cells #[.int .i64 0, .int .i64 0] 23)).cell 0; have t2 := (rr0.alloc (.cells #[.int .i64 0, .int .i64 0] 23)).cell 1; have t3 := (rr0.alloc (.cells #[.int .i64 0, .int .i64 0] 23)).frozen 0; have t4 := (rr0.alloc (.cells #[.int .i64 0, .int .i64 0] 23)).frozen 1; have t1 := (rr0.alloc (.cells #[.int .i64 x1, .int .i64 y1] 23)).cell 0; have t2 := (rr0.alloc (.cells #[.int .i64 x1, .int .i64 y1] 23)).cell 1; have t3 := (rr0.alloc (.cells #[.int .i64 x1, .int .i64 y1] 23)).frozen 0; have t4 := (rr0.alloc (.cells #[.int .i64 x1, .int .i64 y1] 23)).frozen 1) | (have o1 := Blk.nwA (Blk.new_at _ 23 #[.int .i64 0, .int .i64 0] (n := u1.heap.size + 1) (by simp)) hk2; have o0 := Blk.nwA (Blk.alloc (Blk.new_at _ 23 #[.int .i64 0, .int .i64 0] (n := u1.heap.size) (by simp)) _) hk2; have t1 := (o0).cell 0; have t2 := (o0).cell 1; have t3 := (o0).frozen 0; have t4 := (o0).frozen 1; have t5 := Nat.ne_of_lt o0.lt; have t6 := Ne.symm (Nat.ne_of_lt o0.lt); have t1 := (o1).cell 0; have t2 := (o1).cell 1; have t3 := (o1).frozen 0; have t4 := (o1).frozen 1; have t5 := Nat.ne_of_lt o1.lt; have t6 := Ne.symm (Nat.ne_of_lt o1.lt)) | (have o0 := Blk.nwA (Blk.new_at _ 23 #[.int .i64 0, .int .i64 0] (n := u1.heap.size) (by simp)) hk2; have t1 := (o0).cell 0; have t2 := (o0).cell 1; have t3 := (o0).frozen 0; have t4 := (o0).frozen 1; have t5 := Nat.ne_of_lt o0.lt; have t6 := Ne.symm (Nat.ne_of_lt o0.lt); have t1 := (o0.alloc (.cells #[.int .i64 0, .int .i64 0] 23)).cell 0; have t2 := (o0.alloc (.cells #[.int .i64 0, .int .i64 0] 23)).cell 1; have t3 := (o0.alloc (.cells #[.int .i64 0, .int .i64 0] 23)).frozen 0; have t4 := (o0.alloc (.cells #[.int .i64 0, .int .i64 0] 23)).frozen 1; have t1 := (o0.alloc (.cells #[.int .i64 x1, .int .i64 y1] 23)).cell 0; have t2 := (o0.alloc (.cells #[.int .i64 x1, .int .i64 y1] 23)).cell 1; have t3 := (o0.alloc (.cells #[.int .i64 x1, .int .i64 y1] 23)).frozen 0; have t4 := (o0.alloc (.cells #[.int .i64 x1, .int .i64 y1] 23)).frozen 1) | skip))))
    all_goals (go_wp2_with fail; go_meet; case rel => (first | with_reducible exact atwo1 hb2 | with_reducible exact atwo2 hb2 | with_reducible exact atwo3 hb2 rr0 (by omega) | with_reducible exact atwo3 hb2 rr1 (by omega) | with_reducible exact atwo3 hb2 o0 (by omega) | with_reducible exact atwo3 hb2 o1 (by omega) | with_reducible exact atwo5 hb2 rr0 (by omega) | with_reducible exact atwo5 hb2 rr1 (by omega) | with_reducible exact atwo5 hb2 o0 (by omega) | with_reducible exact atwo5 hb2 o1 (by omega) | with_reducible exact atwo4 hb2 rr0 rr1 (by omega) (by omega) (by omega) | with_reducible exact atwo4 hb2 rr0 o0 (by omega) (by omega) (by omega) | with_reducible exact atwo4 hb2 rr0 o1 (by omega) (by omega) (by omega) | with_reducible exact atwo4 hb2 rr1 rr0 (by omega) (by omega) (by omega) | with_reducible exact atwo4 hb2 rr1 o0 (by omega) (by omega) (by omega) | with_reducible exact atwo4 hb2 rr1 o1 (by omega) (by omega) (by omega) | with_reducible exact atwo4 hb2 o0 rr0 (by omega) (by omega) (by omega) | with_reducible exact atwo4 hb2 o0 rr1 (by omega) (by omega) (by omega) | with_reducible exact atwo4 hb2 o0 o1 (by omega) (by omega) (by omega) | with_reducible exact atwo4 hb2 o1 rr0 (by omega) (by omega) (by omega) | with_reducible exact atwo4 hb2 o1 rr1 (by omega) (by omega) (by omega) | with_reducible exact atwo4 hb2 o1 o0 (by omega) (by omega) (by omega)))
  case rest =>
    obtain ⟨G6, G7, rfl, rfl, b6, b7, hkc, -⟩ := hcut
    have HKC := Lib.hid (HW3.out.tr hkc)
    obtain ⟨z0, z1, z2, z3⟩ := b6.two
    obtain ⟨z4, z5, z6, z7⟩ := b7.two
    have mb := (HB0.out.nwA HKC.out).cell 6
    clear b6 b7 hkc d1 d2 HP
    go_upto_region 15 with (first | (go_at_call 30; refine (cc _).mono ?_; rintro e w5 ⟨v5, rfl, own5, hk5⟩; have HO5 := Lib.hid own5; have HK5 := Lib.hid (HKC.out.tr hk5); (obtain ⟨A5, c5, rfl⟩ := (own_src own5).shape); clear own5 hk5) | fail)
    clear z0 z1 z2 z3 z4 z5 z6 z7 mb cc
    have HV := Lib.hid (src_n (show SrcV w5 (.slice A5 L.length c5) L by show Src _ 2 _ L.length _; rw [HN.out]; exact own_src HO5.out) HN.out)
    clear HO5
    skip
    go_wp2_with fail
    go_loopw [8, 12] (fun ov i wr => ∃ k : Nat, i = .int .i64 k ∧ k ≤ n ∧ wr.ownsRow w5.heap.size 23 2 ov k (flat vC (((L).take k).map (mvC cx cy))) ∧ Nw w5 wr) (fun ov i _ => n - (intOf i).toNat)
    case atStart => exact ⟨0, rfl, Nat.zero_le _, World.ownsRow_nil _ _ _ _, Kp.refl _ _⟩
    case round =>
      obtain ⟨k, rfl, hk, hown, hnw⟩ := hrel
      obtain ⟨Av, cv, rfl⟩ := (own_src hown).shape
      obtain ⟨ov, hov⟩ : ∃ v, (Value.slice Av k cv) = v := ⟨_, rfl⟩
      rw [hov] at hown
      try rw [hov]
      have HO := Lib.hid hown
      have HOV := Lib.hid hov
      clear hown hov
      have HK := Lib.hid hnw
      clear hnw
      by_cases hkn : k < n
      · have i0 : (0 : Int) ≤ (k : Int) := by omega
        have i1 : (k : Int) < (n : Int) := by omega
        obtain ⟨s4, hs4⟩ : ∃ s : Nat, k + 1 = s := ⟨_, rfl⟩
        have a4 : IntKind.i64.wrap ((k : Int) + 1) = (s4 : Int) := by rw [IntKind.wrap_i64]; omega
        have H4 := Lib.hid hs4
        obtain ⟨g, o, rfl, hg, hc⟩ := src_at HV.out (by omega)
        obtain ⟨⟨px, py⟩, hp⟩ : ∃ p, G.at_ L k = p := ⟨_, rfl⟩
        have hpl : L[k]? = some (px, py) := by rw [← hp]; exact G.at_some (by rw [HN.out]; omega)
        have hsp := HSM.out _ (List.mem_of_getElem? hpl)
        have v3 := HV3.out
        have ca := fun w1 => radd_any px py cx cy w1
        unfold Sm2 at hsp
        simp only at hsp
        rw [w64_id (n := px + cx) ⟨by omega, by omega⟩, w64_id (n := py + cy) ⟨by omega, by omega⟩] at ca
        have HTK := Lib.hid (show ((L).take (k + 1)).map (mvC cx cy) = ((L).take k).map (mvC cx cy) ++ [(px + cx, py + cy)] by
          rw [List.take_add_one, show (L)[k]? = some (px, py) from hpl, List.map_append]
          rfl)
        have hBC : ∀ w', Nw w5 w' → Blk w' w.heap.size 25 (arC fx fy tx ty cx cy false) := fun w' h => (HB0.out.nwA HK5.out).nwA h
        have HP := Lib.hid (show ∀ w', Kp (fun k => ov.ownBlock = some k) wr w' → w'.cell? (⟨g, o + k * 2, none⟩ : Addr) = some (.int .i64 px) ∧ w'.cell? (⟨g, o + k * 2 + 1, none⟩ : Addr) = some (.int .i64 py) ∧ w'.cell? (⟨w.heap.size, 4, none⟩ : Addr) = some (.int .i64 cx) ∧ w'.cell? (⟨w.heap.size, 5, none⟩ : Addr) = some (.int .i64 cy) from fun w' h => by
          have hn5 : Nw w5 w' := Kp.own HK.out h (fun b e => (World.ownsRow.lt HO.out _ e).1)
          obtain ⟨y0, y1⟩ := hc w' hn5 k (by omega)
          rw [hp] at y0 y1
          exact ⟨y0, y1, (hBC w' hn5).cell 4, (hBC w' hn5).cell 5⟩)
        clear hp hpl hsp v3 hc hg hBC
        have j0 : (0 : Int) ≤ (k : Int) := by omega
        go_upto_region 18 with fail
        go_wp2_with fail
        go_region_held3 (fun w' : World => w'.cell? (⟨g, o + k * 2, none⟩ : Addr) = some (.int .i64 px) ∧ w'.cell? (⟨g, o + k * 2 + 1, none⟩ : Addr) = some (.int .i64 py) ∧ w'.cell? (⟨w.heap.size, 4, none⟩ : Addr) = some (.int .i64 cx) ∧ w'.cell? (⟨w.heap.size, 5, none⟩ : Addr) = some (.int .i64 cy))
          (first | ((refine HP.out _ ?_); (repeat (first | exact kk6 | exact kk5 | exact Kp.refl _ _ | refine Kp.alloc ?_ _ | refine Kp.drew ?_))) | fail)
          (first
            | (go_simp; go_at_call 25; ((with_reducible refine (ca _).mono ?_); rintro e w6 ⟨rfl, hk6⟩; have nn5 : Nw wr w6 := Kp.tr (by repeat (first | exact Kp.refl _ _ | refine Kp.alloc ?_ _ | refine Kp.drew ?_)) hk6; have kk5 : Kp (fun k => ov.ownBlock = some k) wr w6 := Nw.kp nn5))
            | (refine step_appG (by rfl) (.tmp 66) (.tmp 74) 27 23 2 16 (.agg #[.int .i64 0, .int .i64 0]) (by rfl) Try.underlying27 infoA rfl (by omega) w5.heap.size k 1 ov (.slice (some ⟨w6.heap.size, 0, none⟩) 1 1) (flat vC (((L).take k).map (mvC cx cy))) [.int .i64 (px + cx), .int .i64 (py + cy)] (by rfl) (own_nw HO.out (by repeat (first | exact nn5 | refine Kp.alloc ?_ _ | refine Kp.drew ?_))) (by rfl) (by exact src_one (Blk.new _ _ _)) (by intro u hu; simp at hu; rcases hu with rfl | rfl <;> rfl) (by omega) (by omega) (by have := nn5.size; have := HK.out.size; simp; try omega) ?_; intro v7 w7 own7 gr7; have ss7 : Stq wr ov w7 v7 := Stq.nw (by repeat (first | exact nn5 | refine Kp.alloc ?_ _ | refine Kp.drew ?_)) (Stq.of_grew gr7); have kk6 := ss7.1))
        all_goals (
          have HO7 := Lib.hid own7
          have HS7 := Lib.hid ss7
          clear own7 gr7 ss7 kk6 kk5 nn5 ca
          go_wp2_with fail
          go_roundw
          case rel =>
            refine ⟨k + 1, by rw [← H4.out], by omega, ?_, Kp.own HK.out HS7.out.1 (fun b e => (World.ownsRow.lt HO.out _ e).1)⟩
            rw [HTK.out, flat_app]
            exact HO7.out
          case measure => (have := H4.out; simp [intOf]; try omega))
      · obtain rfl : k = n := by omega
        have i5 : ¬ ((k : Int) < (k : Int)) := by omega
        go_wp2_with fail
        have HF := Lib.hid HO.out
        rw [← HOV.out] at HF
        try rw [← HOV.out]
        go_ret2
        refine ⟨_, rfl, ?_, HNW.out.tr (HK5.out.tr HK.out)⟩
        have h := own_src HF.out
        rw [List.take_of_length_le (by rw [HN.out]; exact Nat.le_refl _)] at h
        show Src _ 2 _ (L.map (mvC cx cy)).length _
        rw [List.length_map, HN.out]
        exact h

end Go.Proofs.Ytlogihcmmoldkaa.W
