/-
  arc: Flatten of a clockwise arc. Conditions: the arc is valid, the tolerance in range.
-/
import Derived.Test.YtlogihcmmoldkaaK11
namespace Go.Proofs.Ytlogihcmmoldkaa.W
open Go.RowKit Go.Proofs.Ytlogihcmmoldkaa.V Go.Proofs.Ytlogihcmmoldkaa.A

set_option maxRecDepth 100000 in
set_option maxHeartbeats 6400000 in
theorem flat_true (fx fy tx ty cx cy t : Int) (hv : validA fx fy tx ty cx cy = true) (ht : 1 ≤ t ∧ t ≤ 50) {l : List Pt} (hch : Ch (nrm (fx - cx, fy - cy)) t (tx - cx, ty - cy) (fx - cx, fy - cy) l) (w : World) :
    Calls Try.prog 12 #[arV fx fy tx ty cx cy true, .int .i64 t] w fun e w' => ∃ v, e = .returned (.tuple #[v, .int .i64 0]) ∧ SrcV w' v (((tx - cx, ty - cy) :: l).reverse.map (mvC cx cy)) ∧ Nw w w' := by
  have hmix := mixed7
  have c1 := fun w1 => avalid_any fx fy tx ty cx cy true w1
  obtain ⟨W0, hW0⟩ : ∃ W, w.alloc (.cells (arC fx fy tx ty cx cy true) 25) = W := ⟨_, rfl⟩
  have HB0 := Lib.hid (show Blk W0 w.heap.size 25 (arC fx fy tx ty cx cy true) by rw [← hW0]; exact Blk.new _ _ _)
  have HNW := Lib.hid (show Nw w W0 by rw [← hW0]; exact nw_alloc _ _)
  have m0 := HB0.out.cell 0
  have m1 := HB0.out.cell 1
  have m2 := HB0.out.cell 2
  have m3 := HB0.out.cell 3
  have m4 := HB0.out.cell 4
  have m5 := HB0.out.cell 5
  have m6 := HB0.out.cell 6
  rw [hv] at c1
  have e1 : decide (t < 1) = false := decide_eq_false (by omega)
  have e2 : decide (50 < t) = false := decide_eq_false (by omega)
  obtain ⟨v1, v2, v3, v4, v5, v6⟩ := valid_parts hv
  have d1 := fun w1 => sub_any fx fy cx cy w1
  have d2 := fun w1 => sub_any tx ty cx cy w1
  rw [(sq_small v1 v3).1, (sq_small v1 v3).2.1] at d1
  rw [(sq_small v2 v3).1, (sq_small v2 v3).2.1] at d2
  have hsm := ch_small v4 v5 hch v6 rfl
  have hlen := ch_max v4 v5 hch v6 rfl
  have cc := fun w1 => counter_any v4 v5 ht v6 rfl hch w1
  have HV3 := Lib.hid v3
  clear v1 v2 v3 v4 v5 v6 hv ht hch
  obtain ⟨x1, hx1⟩ : ∃ x, fx - cx = x := ⟨_, rfl⟩
  obtain ⟨y1, hy1⟩ : ∃ x, fy - cy = x := ⟨_, rfl⟩
  obtain ⟨x2, hx2⟩ : ∃ x, tx - cx = x := ⟨_, rfl⟩
  obtain ⟨y2, hy2⟩ : ∃ x, ty - cy = x := ⟨_, rfl⟩
  rw [hx1, hy1] at d1; rw [hx2, hy2] at d2; rw [hx2, hy2] at hsm ⊢
  rw [hx1, hy1, hx2, hy2] at cc
  clear hx1 hy1 hx2 hy2
  obtain ⟨L, hL⟩ : ∃ L, ((x2, y2) :: l).reverse = L := ⟨_, rfl⟩
  obtain ⟨n, hn⟩ : ∃ n, L.length = n := ⟨_, rfl⟩
  have hl : n ≤ 64032009 := by rw [← hn, ← hL]; simp; omega
  have HSM := Lib.hid (show ∀ x ∈ L, Sm2 x from fun x hx => hsm x (by rw [← hL] at hx; exact List.mem_reverse.1 hx))
  have HL := Lib.hid hL
  have HN := Lib.hid hn
  rw [hL]
  clear hsm hn hL hlen
  go_enter Try.func12, Try.ntmps12
  go_upto_region 1 with fail
  try rw [hW0]
  clear hW0
  go_upto_region 5 with (first | (go_at_call 15; ((with_reducible refine (Calls.kept_first (c1 _)).mono ?_); rintro e _ ⟨rfl, p, rfl⟩)) | fail)
  have HW3 := Lib.hid p.since
  generalize p.wd = w3 at HW3 ⊢
  clear m0 m1 m2 m3 m4 m5 m6 c1 e1 e2
  have HP := Lib.hid (show ∀ w', Nw w3 w' → w'.cell? (⟨w.heap.size, 0, none⟩ : Addr) = some (.int .i64 fx) ∧ w'.cell? (⟨w.heap.size, 1, none⟩ : Addr) = some (.int .i64 fy) ∧ w'.cell? (⟨w.heap.size, 2, none⟩ : Addr) = some (.int .i64 tx) ∧ w'.cell? (⟨w.heap.size, 3, none⟩ : Addr) = some (.int .i64 ty) ∧ w'.cell? (⟨w.heap.size, 4, none⟩ : Addr) = some (.int .i64 cx) ∧ w'.cell? (⟨w.heap.size, 5, none⟩ : Addr) = some (.int .i64 cy) from fun w' h => by
    have b := (HB0.out.nwA HW3.out).nwA h
    exact ⟨b.cell 0, b.cell 1, b.cell 2, b.cell 3, b.cell 4, b.cell 5⟩)
  go_cut [6, 7] from 22 to 31 (fun p5 p6 wx => ARel2 x1 y1 x2 y2 w3 p5 p6 wx)
  case first =>
    go_wp2_with fail
    go_region_held3 (fun w' : World => w'.cell? (⟨w.heap.size, 0, none⟩ : Addr) = some (.int .i64 fx) ∧ w'.cell? (⟨w.heap.size, 1, none⟩ : Addr) = some (.int .i64 fy) ∧ w'.cell? (⟨w.heap.size, 2, none⟩ : Addr) = some (.int .i64 tx) ∧ w'.cell? (⟨w.heap.size, 3, none⟩ : Addr) = some (.int .i64 ty) ∧ w'.cell? (⟨w.heap.size, 4, none⟩ : Addr) = some (.int .i64 cx) ∧ w'.cell? (⟨w.heap.size, 5, none⟩ : Addr) = some (.int .i64 cy))
      (first | ((refine HP.out _ ?_); (repeat (first | exact hb2 | exact hb1 | exact Kp.refl _ _ | refine Kp.alloc ?_ _ | refine Kp.drew ?_ | refine Kp.new ?_ (by omega) _ _))) | fail)
      (first | (go_at_call 26; ((with_reducible refine (d1 _).mono ?_); rintro e u1 ⟨rfl, hk1⟩; have hb1 : Nw w3 u1 := Kp.tr (by repeat (first | exact hb2 | exact hb1 | exact Kp.refl _ _ | refine Kp.alloc ?_ _ | refine Kp.drew ?_ | refine Kp.new ?_ (by omega) _ _)) hk1; have l1 := hb1.size; with_reducible (first | (have p1 := Blk.nwA (Blk.drew (Blk.new_at _ 23 #[.int .i64 0, .int .i64 0] (n := w3.heap.size + 1) (by simp))) hk1; have p0 := Blk.nwA (Blk.drew (Blk.alloc (Blk.new_at _ 23 #[.int .i64 0, .int .i64 0] (n := w3.heap.size) (by simp)) _)) hk1; have t1 := (p0).cell 0; have t2 := (p0).cell 1; have t3 := (p0).frozen 0; have t4 := (p0).frozen 1; have t5 := Nat.ne_of_lt p0.lt; have t6 := Ne.symm (Nat.ne_of_lt p0.lt); have t1 := (p1).cell 0; have t2 := (p1).cell 1; have t3 := (p1).frozen 0; have t4 := (p1).frozen 1; have t5 := Nat.ne_of_lt p1.lt; have t6 := Ne.symm (Nat.ne_of_lt p1.lt)) | (have p0 := Blk.nwA (Blk.drew (Blk.new_at _ 23 #[.int .i64 0, .int .i64 0] (n := w3.heap.size) (by simp))) hk1; have t1 := (p0).cell 0; have t2 := (p0).cell 1; have t3 := (p0).frozen 0; have t4 := (p0).frozen 1; have t5 := Nat.ne_of_lt p0.lt; have t6 := Ne.symm (Nat.ne_of_lt p0.lt)) | skip))) | (go_at_call 26; ((with_reducible refine (d2 _).mono ?_); rintro e u2 ⟨rfl, hk2⟩; have hb2 : Nw w3 u2 := Kp.tr (by repeat (first | exact hb2 | exact hb1 | exact Kp.refl _ _ | refine Kp.alloc ?_ _ | refine Kp.drew ?_ | refine Kp.new ?_ (by omega) _ _)) hk2; have l2 := hb2.size; with_reducible (first | (have t := p1; have rr1 := Blk.nwA p1 hk2; have rr0 := Blk.nwA p0 hk2; have t1 := (rr0).cell 0; have t2 := (rr0).cell 1; have t3 := (rr0).frozen 0; have t4 := (rr0).frozen 1; have t5 := Nat.ne_of_lt rr0.lt; have t6 := Ne.symm (Nat.ne_of_lt rr0.lt); have t1 := (rr1).cell 0; have t2 := (rr1).cell 1; have t3 := (rr1).frozen 0; have t4 := (rr1).frozen 1; have t5 := Nat.ne_of_lt rr1.lt; have t6 := Ne.symm (Nat.ne_of_lt rr1.lt)) | (have t := p0; have rr0 := Blk.nwA (Blk.alloc p0 _) hk2; have o0 := Blk.nwA (Blk.new_at _ 23 #[.int .i64 0, .int .i64 0] (n := u1.heap.size) (by simp)) hk2; have t1 := (rr0).cell 0; have t2 := (rr0).cell 1; have t3 := (rr0).frozen 0; have t4 := (rr0).frozen 1; have t5 := Nat.ne_of_lt rr0.lt; have t6 := Ne.symm (Nat.ne_of_lt rr0.lt); have t1 := (o0).cell 0; have t2 := (o0).cell 1; have t3 := (o0).frozen 0; have t4 := (o0).frozen 1; have t5 := Nat.ne_of_lt o0.lt; have t6 := Ne.symm (Nat.ne_of_lt o0.lt)) | (have t := p0; have rr0 := Blk.nwA p0 hk2; have t1 := (rr0).cell 0; have t2 := (rr0).cell 1; have t3 := (rr0).frozen 0; have t4 := (rr0).frozen 1; have t5 := Nat.ne_of_lt rr0.lt; have t6 := Ne.symm (Nat.ne_of_lt rr0.lt); have t1 := (rr0.alloc (.cells #[.int .i64 0, .int .i64 0] 23)).cell 0; have t2 := (rr0.alloc (.cells #[.int .i64 0, .int .i64 0] 23)).cell 1; have t3 := (rr0.alloc (.cells #[.int .i64 0, .int .i64 0] 23)).frozen 0; have t4 := (rr0.alloc (.cells #[.int .i64 0, .int .i64 0] 23)).frozen 1; have t1 := (rr0.alloc (.cells #[.int .i64 x1, .int .i64 y1] 23)).cell 0; have t2 := (rr0.alloc (.cells #[.int .i64 x1, .int .i64 y1] 23)).cell 1; have t3 := (rr0.alloc (.cells #[.int .i64 x1, .int .i64 y1] 23)).frozen 0; have t4 := (rr0.alloc (.cells #[.int .i64 x1, .int .i64 y1] 23)).frozen 1) | (have o1 := Blk.nwA (Blk.new_at _ 23 #[.int .i64 0, .int .i64 0] (n := u1.heap.size + 1) (by simp)) hk2; have o0 := Blk.nwA (Blk.alloc (Blk.new_at _ 23 #[.int .i64 0, .int .i64 0] (n := u1.heap.size) (by simp)) _) hk2; have t1 := (o0).cell 0; have t2 := (o0).cell 1; have t3 := (o0).frozen 0; have t4 := (o0).frozen 1; have t5 := Nat.ne_of_lt o0.lt; have t6 := Ne.symm (Nat.ne_of_lt o0.lt); have t1 := (o1).cell 0; have t2 := (o1).cell 1; have t3 := (o1).frozen 0; have t4 := (o1).frozen 1; have t5 := Nat.ne_of_lt o1.lt; have t6 := Ne.symm (Nat.ne_of_lt o1.lt)) | (have o0 := Blk.nwA (Blk.new_at _ 23 #[.int .i64 0, .int .i64 0] (n := u1.heap.size) (by simp)) hk2; have t1 := (o0).cell 0; have t2 := (o0).cell 1; have t3 := (o0).frozen 0; have t4 := (o0).frozen 1; have t5 := Nat.ne_of_lt o0.lt; have t6 := Ne.symm (Nat.ne_of_lt o0.lt); have t1 := (o0.alloc (.cells #[.int .i64 0, .int .i64 0] 23)).cell 0; have t2 := (o0.alloc (.cells #[.int .i64 0, .int .i64 0] 23)).cell 1; have t3 := (o0.alloc (.cells #[.int .i64 0, .int .i64 0] 23)).frozen 0; have t4 := (o0.alloc (.cells #[.int .i64 0, .int .i64 0] 23)).frozen 1; have t1 := (o0.alloc (.cells #[.int .i64 x1, .int .i64 y1] 23)).cell 0; have t2 := (o0.alloc (.cells #[.int .i64 x1, .int .i64 y1] 23)).cell 1; have t3 := (o0.alloc (.cells #[.int .i64 x1, .int .i64 y1] 23)).frozen 0; have t4 := (o0.alloc (.cells #[.int .i64 x1, .int .i64 y1] 23)).frozen 1) | skip))))
    all_goals (go_wp2_with fail; go_meet; case rel => (first | with_reducible exact atwo1 hb2 | with_reducible exact atwo2 hb2 | with_reducible exact atwo3 hb2 rr0 (by omega) | with_reducible exact atwo3 hb2 rr1 (by omega) | with_reducible exact atwo3 hb2 o0 (by omega) | with_reducible exact atwo3 hb2 o1 (by omega) | with_reducible exact atwo5 hb2 rr0 (by omega) | with_reducible exact atwo5 hb2 rr1 (by omega) | with_reducible exact atwo5 hb2 o0 (by omega) | with_reducible exact atwo5 hb2 o1 (by omega) | with_reducible exact atwo4 hb2 rr0 rr1 (by omega) (by omega) (by omega) | with_reducible exact atwo4 hb2 rr0 o0 (by omega) (by omega) (by omega) | with_reducible exact atwo4 hb2 rr0 o1 (by omega) (by omega) (by omega) | with_reducible exact atwo4 hb2 rr1 rr0 (by omega) (by omega) (by omega) | with_reducible exact atwo4 hb2 rr1 o0 (by omega) (by omega) (by omega) | with_reducible exact atwo4 hb2 rr1 o1 (by omega) (by omega) (by omega) | with_reducible exact atwo4 hb2 o0 rr0 (by omega) (by omega) (by omega) | with_reducible exact atwo4 hb2 o0 rr1 (by omega) (by omega) (by omega) | with_reducible exact atwo4 hb2 o0 o1 (by omega) (by omega) (by omega) | with_reducible exact atwo4 hb2 o1 rr0 (by omega) (by omega) (by omega) | with_reducible exact atwo4 hb2 o1 rr1 (by omega) (by omega) (by omega) | with_reducible exact atwo4 hb2 o1 o0 (by omega) (by omega) (by omega)))
  case rest =>
    obtain ⟨G6, G7, rfl, rfl, b6, b7, hkc, hne, hs6, hs7⟩ := hcut
    have HNE := Lib.hid (And.intro hne (And.intro (Nat.le_trans HW3.out.size hs6) (Nat.le_trans HW3.out.size hs7)))
    have HKC := Lib.hid (HW3.out.tr hkc)
    have HB6 := Lib.hid b6
    have HB7 := Lib.hid b7
    obtain ⟨z0, z1, z2, z3⟩ := b6.two
    obtain ⟨z4, z5, z6, z7⟩ := b7.two
    have mb := (HB0.out.nwA HKC.out).cell 6
    clear b6 b7 hkc d1 d2 HP hmix hne hs6 hs7
    have hne : G6 ≠ G7 := HNE.out.1
    go_upto_region 8 with fail
    generalize hw8 : World.setCell _ _ _ = w8
    have HB68 := Lib.hid (show Blk w8 G6 23 #[.int .i64 x2, .int .i64 y2] by rw [← hw8]; exact (HB6.out.lay2 _ _).farA hne _ _)
    have HB78 := Lib.hid (show Blk w8 G7 23 #[.int .i64 x1, .int .i64 y1] by rw [← hw8]; exact (HB7.out.farA (Ne.symm hne) _ _).lay2 _ _)
    have HK8 := Lib.hid (show Nw W0 w8 by rw [← hw8]; exact (HKC.out.newA HNE.out.2.1 _ _).newA HNE.out.2.2 _ _)
    clear z0 z1 z2 z3 z4 z5 z6 z7 hne mb hw8
    have z0 := HB68.out.cell 0
    have z1 := HB68.out.cell 1
    have z4 := HB78.out.cell 0
    have z5 := HB78.out.cell 1
    go_upto_region 9 with (first | (go_at_call 27; refine (cc _).mono ?_; rintro e w5 ⟨v5, rfl, own5, hk5⟩; have HO5 := Lib.hid own5; have HK5 := Lib.hid (HK8.out.tr hk5); clear own5 hk5) | fail)
    clear z0 z1 z4 z5 cc
    obtain ⟨g, cap, rfl, hBg, hgl, hnc, hcm, hrow⟩ := own_holdsA HO5.out (by simp)
    have hrv := fun w1 (h : RowV w1 g ((x2, y2) :: l)) => vRev_rowA ((x2, y2) :: l) g cap w1 h (by have := HN.out; rw [← HL.out, List.length_reverse] at this; omega)
    rw [HL.out] at hrv
    rw [show ((x2, y2) :: l).length = n by rw [← HN.out, ← HL.out, List.length_reverse]] at hnc hrv ⊢
    have HROW := Lib.hid hrow
    have HG := Lib.hid (show w.heap.size < g by have := HB0.out.lt; have := HK8.out.size; omega)
    have HGL := Lib.hid hgl
    have HCAP := Lib.hid (show n ≤ cap ∧ cap ≤ maxLen from ⟨hnc, hcm⟩)
    have mb := (HB0.out.nwA HK5.out).cell 6
    clear hrow hBg hgl hnc hcm HO5 HB6 HB7
    go_upto_region 11 with (first | (go_at_call 28; refine (hrv _ HROW.out).mono ?_; rintro e w6 ⟨rfl, hrow6, hk6⟩; have HROW6 := Lib.hid hrow6; have HK6 := Lib.hid hk6; clear hrow6 hk6) | fail)
    clear hrv mb
    go_wp2_with fail
    go_loopw [46] (fun i wr => ∃ (k : Nat) (M : List Pt), i = .int .i64 k ∧ k ≤ n ∧ M.length = n ∧ (∀ j, j < k → M[j]? = (L[j]?).map (mvC cx cy)) ∧ (∀ j, k ≤ j → M[j]? = L[j]?) ∧ RowV wr g M ∧ Kp (fun b => b = g) w6 wr) (fun i _ => n - (intOf i).toNat)
    case atStart => exact ⟨0, L, rfl, Nat.zero_le _, HN.out, fun j h => absurd h (Nat.not_lt_zero _), fun _ _ => rfl, HROW6.out, Kp.refl _ _⟩
    case round =>
      obtain ⟨k, M, rfl, hk, hml, hlo, hhi, hrow, hnw⟩ := hrel
      have HML := Lib.hid hml
      have HLO := Lib.hid hlo
      have HHI := Lib.hid hhi
      have HRW := Lib.hid hrow
      clear hml hlo hhi hrow
      have HK := Lib.hid hnw
      clear hnw
      by_cases hkn : k < n
      · have i0 : (0 : Int) ≤ (k : Int) := by omega
        have i1 : (k : Int) < (n : Int) := by omega
        obtain ⟨s4, hs4⟩ : ∃ s : Nat, k + 1 = s := ⟨_, rfl⟩
        have a4 : IntKind.i64.wrap ((k : Int) + 1) = (s4 : Int) := by rw [IntKind.wrap_i64]; omega
        have H4 := Lib.hid hs4
        obtain ⟨⟨px, py⟩, hp⟩ : ∃ p, L[k]? = some p := ⟨_, List.getElem?_eq_getElem (by rw [HN.out]; exact hkn)⟩
        have hMk : M[k]? = some (px, py) := by rw [HHI.out k (Nat.le_refl _), hp]
        obtain ⟨⟨y0, y1⟩, y2, y3⟩ := HRW.out k _ hMk
        have hsp := HSM.out _ (List.mem_of_getElem? hp)
        have HLK := Lib.hid hp
        have v3 := HV3.out
        have ca := fun w1 => add_any px py cx cy w1
        unfold Sm2 at hsp
        simp only at hsp y0 y1
        rw [w64_id (n := px + cx) ⟨by omega, by omega⟩, w64_id (n := py + cy) ⟨by omega, by omega⟩] at ca
        clear hs4 hp hMk hsp v3
        go_upto_region 14 with fail
        generalize hwb : World.alloc _ (.cells #[.int .i64 px, .int .i64 py] _) = wb
        obtain ⟨gp, hgp⟩ : ∃ x, wr.heap.size = x := ⟨_, rfl⟩
        have HKB := Lib.hid (show Kp (fun b => b = g) w6 wb by rw [← hwb]; exact HK.out.alloc _)
        have HNB := Lib.hid (show Nw wr wb by rw [← hwb]; exact nw_alloc _ _)
        have HPB := Lib.hid (show Blk wb gp 23 #[.int .i64 px, .int .i64 py] by rw [← hwb, ← hgp]; exact Blk.new _ _ _)
        have HAB := Lib.hid (((HB0.out.nwA HK5.out).kp HK6.out (fun e => by have := HG.out; omega)).kp HKB.out (fun e => by have := HG.out; omega))
        have HRB := Lib.hid (HRW.out.nw (Nat.lt_of_lt_of_le (Nat.lt_of_lt_of_le HGL.out HK6.out.size) HK.out.size) HNB.out)
        try rw [hgp]
        clear hwb hgp y0 y1 y2 y3
        have z0 := HPB.out.cell 0
        have z1 := HPB.out.cell 1
        have z2 := HAB.out.cell 4
        have z3 := HAB.out.cell 5
        have hgw : g < wb.heap.size := Nat.lt_of_lt_of_le (Nat.lt_of_lt_of_le HGL.out HK6.out.size) HKB.out.size
        go_wp2_with (first | (go_at_call 29; ((with_reducible refine (ca _).mono ?_); rintro e w6 ⟨rfl, hk6⟩; have HK6 := Lib.hid hk6; have HR6 := Lib.hid (HRB.out.nw hgw hk6); (obtain ⟨⟨t0, t1⟩, t2, t3⟩ := HR6.out k _ (show M[k]? = some (px, py) by rw [HHI.out k (Nat.le_refl _), HLK.out])); clear hk6)) | fail)
        go_roundw
        case rel =>
          refine ⟨k + 1, M.set k (px + cx, py + cy), by rw [← H4.out], by omega, by rw [List.length_set]; exact HML.out, fun j hj => ?_, fun j hj => ?_, HR6.out.set_ (by rw [HML.out]; exact hkn) _ _, ((HKB.out.tr (Nw.kp HK6.out)).rcA _ _).rcA _ _⟩
          · rcases Nat.lt_or_ge j k with h | h
            · rw [List.getElem?_set_ne (by omega)]
              exact HLO.out j h
            · obtain rfl : j = k := by omega
              rw [List.getElem?_set_self (by rw [HML.out]; exact hkn), HLK.out]
              rfl
          · rw [List.getElem?_set_ne (by omega)]
            exact HHI.out j (by omega)
        case measure => (have := H4.out; simp [intOf]; try omega)
      · obtain rfl : k = n := by omega
        have i5 : ¬ ((k : Int) < (k : Int)) := by omega
        have hME : M = L.map (mvC cx cy) := by
          apply List.ext_getElem?
          intro j
          rw [List.getElem?_map]
          rcases Nat.lt_or_ge j k with hj | hj
          · exact HLO.out j hj
          · rw [HHI.out j hj, List.getElem?_eq_none (by rw [HN.out]; exact hj)]; rfl
        subst hME
        go_wp2_with fail
        go_ret2
        exact ⟨_, rfl, HRW.out.src (Nat.lt_of_lt_of_le (Nat.lt_of_lt_of_le HGL.out HK6.out.size) HK.out.size) (List.take_of_length_le (by rw [HML.out]; exact Nat.le_refl _)) HML.out HCAP.out.1 HCAP.out.2, Kp.own (HNW.out.tr HK5.out) (HK6.out.tr HK.out) (fun b e => by have := HG.out; have e2 : b = g := e; omega)⟩

end Go.Proofs.Ytlogihcmmoldkaa.W
