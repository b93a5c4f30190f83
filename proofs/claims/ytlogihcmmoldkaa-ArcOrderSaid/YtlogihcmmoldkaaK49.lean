/-
  arc: the law ArcOrder: it returns true. No condition but that the arguments are ints.
-/
import Derived.Test.YtlogihcmmoldkaaK45
namespace Go.Proofs.Ytlogihcmmoldkaa.W
open Go.RowKit Go.Proofs.Ytlogihcmmoldkaa.V Go.Proofs.Ytlogihcmmoldkaa.A

set_option maxRecDepth 100000 in
set_option maxHeartbeats 12800000 in
theorem lawOrder_any (fx fy tx ty cx cy t : Int) (cw : Bool) (w : World) : Calls Try.prog 8 #[arV fx fy tx ty cx cy cw, .int .i64 t] w fun e w' => e = .returned (.bool true) ∧ Nw w w' := by
  have hmix := mixed7
  obtain ⟨W0, hW0⟩ : ∃ W, w.alloc (.cells (arC fx fy tx ty cx cy cw) 25) = W := ⟨_, rfl⟩
  have HB0 := Lib.hid (show Blk W0 w.heap.size 25 (arC fx fy tx ty cx cy cw) by rw [← hW0]; exact Blk.new _ _ _)
  have HNW := Lib.hid (show Nw w W0 by rw [← hW0]; exact nw_alloc _ _)
  rcases flat_two fx fy tx ty cx cy t cw with ⟨ec, hec, hbad, hf, -⟩ | ⟨hv, ht, l, hc, hf, -⟩
  · unfold FlatR at hf
    have e9 : (ec != 0) = true := by simp [hec]
    clear hec
    go_enter Try.func8, Try.ntmps8
    go_upto_region 1 with fail
    try rw [hW0]
    clear hW0
    go_upto_region 3 with (first | (go_at_call 11; ((with_reducible refine (awakeA_any _).mono ?_); rintro e w1 ⟨rfl, k1⟩; have K1 := Lib.hid k1; clear k1)) | fail)
    have z0 := (HB0.out.nwA K1.out).cell 0
    have z1 := (HB0.out.nwA K1.out).cell 1
    have z2 := (HB0.out.nwA K1.out).cell 2
    have z3 := (HB0.out.nwA K1.out).cell 3
    have z4 := (HB0.out.nwA K1.out).cell 4
    have z5 := (HB0.out.nwA K1.out).cell 5
    have z6 := (HB0.out.nwA K1.out).cell 6
    go_upto_region 4 with (first | (go_at_call 12; refine (hf _).mono ?_; rintro e w2 ⟨v2, rfl, s2, k2⟩; (obtain ⟨A2, c2, rfl⟩ := s2.shape); have S2 := Lib.hid s2; have K2 := Lib.hid k2; clear s2 k2) | fail)
    clear z0 z1 z2 z3 z4 z5 z6 hf
    have HN2 := Lib.hid (K1.out.tr K2.out)
    try simp only [List.length_nil]
    clear hbad
    go_wp2_with fail
    go_ret
    exact ⟨rfl, HNW.out.tr HN2.out⟩
  · unfold FlatR at hf
    obtain ⟨D, hD, F⟩ := chain_pack hv ht hc
    have HR := Lib.hid (show 0 < nrm (fx - cx, fy - cy) ∧ nrm (fx - cx, fy - cy) ≤ 4000000 from ⟨(valid_parts hv).2.2.2.1, (valid_parts hv).2.2.2.2.1⟩)
    have HV := Lib.hid (valid_parts hv)
    rw [hD] at hf
    obtain ⟨n, hn⟩ : ∃ n, D.length = n := ⟨_, rfl⟩
    have hn2 : 2 ≤ n := hn ▸ F.two
    have hn3 : n ≤ 64032009 := hn ▸ F.top
    have HF := Lib.hid F
    have HN := Lib.hid hn
    have HT := Lib.hid ht
    clear hD F hc hv hn
    go_enter Try.func8, Try.ntmps8
    go_upto_region 1 with fail
    try rw [hW0]
    clear hW0
    go_upto_region 3 with (first | (go_at_call 11; ((with_reducible refine (awakeA_any _).mono ?_); rintro e w1 ⟨rfl, k1⟩; have K1 := Lib.hid k1; clear k1)) | fail)
    have z0 := (HB0.out.nwA K1.out).cell 0
    have z1 := (HB0.out.nwA K1.out).cell 1
    have z2 := (HB0.out.nwA K1.out).cell 2
    have z3 := (HB0.out.nwA K1.out).cell 3
    have z4 := (HB0.out.nwA K1.out).cell 4
    have z5 := (HB0.out.nwA K1.out).cell 5
    have z6 := (HB0.out.nwA K1.out).cell 6
    go_upto_region 4 with (first | (go_at_call 12; refine (hf _).mono ?_; rintro e w2 ⟨v2, rfl, s2, k2⟩; (obtain ⟨A2, c2, rfl⟩ := s2.shape); have S2 := Lib.hid s2; have K2 := Lib.hid k2; clear s2 k2) | fail)
    clear z0 z1 z2 z3 z4 z5 z6 hf
    have HN2 := Lib.hid (K1.out.tr K2.out)
    first | rw [HN.out] | rw [show (D.map (mvC cx cy)).length = n by rw [List.length_map, HN.out]]
    obtain ⟨g, o, hA, hcell⟩ := chain_cells (by rw [HN.out]; omega) S2.out
    subst hA
    have HCL := Lib.hid hcell
    clear hcell
    go_wp2_with fail
    go_loopw [7] (fun i wr => ∃ k : Nat, i = .int .i64 k ∧ 1 ≤ k ∧ k ≤ n ∧ Nw w2 wr) (fun i _ => n - (intOf i).toNat)
    case atStart => exact ⟨1, rfl, Nat.le_refl _, by omega, Kp.refl _ _⟩
    case round =>
      obtain ⟨k, rfl, hk1, hk, hnw⟩ := hrel
      have HK := Lib.hid hnw
      clear hnw
      by_cases hkn : k < n
      · have i0 : (0 : Int) ≤ (k : Int) := by omega
        have i1 : (k : Int) < (n : Int) := by omega
        obtain ⟨s4, hs4⟩ : ∃ s : Nat, k + 1 = s := ⟨_, rfl⟩
        have a4 : IntKind.i64.wrap ((k : Int) + 1) = (s4 : Int) := by rw [IntKind.wrap_i64]; omega
        have H4 := Lib.hid hs4
        obtain ⟨j, hj⟩ : ∃ j : Nat, k - 1 = j := ⟨_, rfl⟩
        have aj : IntKind.i64.wrap ((k : Int) - 1) = (j : Int) := by rw [IntKind.wrap_i64]; omega
        have j0 : (0 : Int) ≤ (j : Int) := by omega
        have j1 : (j : Int) < (n : Int) := by omega
        obtain ⟨⟨ax, ay⟩, ha⟩ : ∃ p, D[j]? = some p := ⟨_, List.getElem?_eq_getElem (by rw [HN.out]; omega)⟩
        obtain ⟨⟨bx, bz⟩, hb⟩ : ∃ p, D[k]? = some p := ⟨_, List.getElem?_eq_getElem (by rw [HN.out]; exact hkn)⟩
        have hs := HF.out.seg j _ _ ha (by rw [show j + 1 = k by omega]; exact hb)
        have va := dig_2000 HR.out.2 (HF.out.pts _ (List.mem_of_getElem? ha)).1
        have vb := dig_2000 HR.out.2 (HF.out.pts _ (List.mem_of_getElem? hb)).1
        have vc := HV.out.2.2.1
        have d1 := fun w1 => rsub_any (ax + cx) (ay + cy) cx cy w1
        have d2 := fun w1 => rsub_any (bx + cx) (bz + cy) cx cy w1
        rw [back va.1 vc.1, back va.2 vc.2] at d1
        rw [back vb.1 vc.1, back vb.2 vc.2] at d2
        have HA := Lib.hid ha
        have HB := Lib.hid hb
        have HS := Lib.hid hs
        have hab := relS_arcs hs
        have sw := small_words va vb
        have c3 := fun w1 => rcross_any ax ay bx bz w1
        have c4 := fun w1 => rdot_any ax ay bx bz w1
        rw [sw.1] at c3
        rw [sw.2] at c4
        have bnd : -9000000 ≤ crs0 (ax, ay) (bx, bz) ∧ crs0 (ax, ay) (bx, bz) ≤ 9000000 := by
          have m1 := abs_mul_le (x := ax) (y := bz) (A := 2000) (B := 2000) va.1 vb.2
          have m2 := abs_mul_le (x := ay) (y := bx) (A := 2000) (B := 2000) va.2 vb.1
          unfold crs0
          simp only
          omega
        generalize crs0 (ax, ay) (bx, bz) = C at *
        generalize dot0 (ax, ay) (bx, bz) = E at *
        have HBW := Lib.hid ((HB0.out.nwA HN2.out).nwA HK.out)
        have HP := Lib.hid (show ∀ w', Nw wr w' → w'.cell? (⟨g, o + j * 2, none⟩ : Addr) = some (.int .i64 (ax + cx)) ∧ w'.cell? (⟨g, o + j * 2 + 1, none⟩ : Addr) = some (.int .i64 (ay + cy)) ∧ w'.cell? (⟨g, o + k * 2, none⟩ : Addr) = some (.int .i64 (bx + cx)) ∧ w'.cell? (⟨g, o + k * 2 + 1, none⟩ : Addr) = some (.int .i64 (bz + cy)) ∧ w'.cell? (⟨w.heap.size, 4, none⟩ : Addr) = some (.int .i64 cx) ∧ w'.cell? (⟨w.heap.size, 5, none⟩ : Addr) = some (.int .i64 cy) from fun w' h => by
          have h1 := HCL.out w' (HK.out.tr h) j ax ay HA.out
          have h2 := HCL.out w' (HK.out.tr h) k bx bz HB.out
          have b := HBW.out.nwA h
          exact ⟨h1.1, h1.2, h2.1, h2.2, b.cell 4, b.cell 5⟩)
        have HAB := Lib.hid hab
        have HBN := Lib.hid bnd
        clear ha hb hs va vb vc hs4 hj hab sw bnd
        go_upto_region 9 with fail
        go_cut [8, 9] from 27 to 41 (fun p8 p9 wx => ARel2 ax ay bx bz wr p8 p9 wx)
        case first =>
          go_wp2_with fail
          go_region_held3 (fun w' : World => w'.cell? (⟨g, o + j * 2, none⟩ : Addr) = some (.int .i64 (ax + cx)) ∧ w'.cell? (⟨g, o + j * 2 + 1, none⟩ : Addr) = some (.int .i64 (ay + cy)) ∧ w'.cell? (⟨g, o + k * 2, none⟩ : Addr) = some (.int .i64 (bx + cx)) ∧ w'.cell? (⟨g, o + k * 2 + 1, none⟩ : Addr) = some (.int .i64 (bz + cy)) ∧ w'.cell? (⟨w.heap.size, 4, none⟩ : Addr) = some (.int .i64 cx) ∧ w'.cell? (⟨w.heap.size, 5, none⟩ : Addr) = some (.int .i64 cy))
            (first | ((refine HP.out _ ?_); (repeat (first | exact hb2 | exact hb1 | exact Kp.refl _ _ | refine Kp.alloc ?_ _ | refine Kp.drew ?_ | refine Kp.new ?_ (by omega) _ _))) | fail)
            (first | (go_at_call 20; ((with_reducible refine (d1 _).mono ?_); rintro e u1 ⟨rfl, hk1⟩; have hb1 : Nw wr u1 := Kp.tr (by repeat (first | exact hb2 | exact hb1 | exact Kp.refl _ _ | refine Kp.alloc ?_ _ | refine Kp.drew ?_ | refine Kp.new ?_ (by omega) _ _)) hk1; have l1 := hb1.size; with_reducible (first | (have p1 := Blk.nwA (Blk.drew (Blk.new_at _ 23 #[.int .i64 0, .int .i64 0] (n := wr.heap.size + 1) (by simp))) hk1; have p0 := Blk.nwA (Blk.drew (Blk.alloc (Blk.new_at _ 23 #[.int .i64 0, .int .i64 0] (n := wr.heap.size) (by simp)) _)) hk1; have t1 := (p0).cell 0; have t2 := (p0).cell 1; have t3 := (p0).frozen 0; have t4 := (p0).frozen 1; have t5 := Nat.ne_of_lt p0.lt; have t6 := Ne.symm (Nat.ne_of_lt p0.lt); have t1 := (p1).cell 0; have t2 := (p1).cell 1; have t3 := (p1).frozen 0; have t4 := (p1).frozen 1; have t5 := Nat.ne_of_lt p1.lt; have t6 := Ne.symm (Nat.ne_of_lt p1.lt)) | (have p0 := Blk.nwA (Blk.drew (Blk.new_at _ 23 #[.int .i64 0, .int .i64 0] (n := wr.heap.size) (by simp))) hk1; have t1 := (p0).cell 0; have t2 := (p0).cell 1; have t3 := (p0).frozen 0; have t4 := (p0).frozen 1; have t5 := Nat.ne_of_lt p0.lt; have t6 := Ne.symm (Nat.ne_of_lt p0.lt)) | skip))) | (go_at_call 20; ((with_reducible refine (d2 _).mono ?_); rintro e u2 ⟨rfl, hk2⟩; have hb2 : Nw wr u2 := Kp.tr (by repeat (first | exact hb2 | exact hb1 | exact Kp.refl _ _ | refine Kp.alloc ?_ _ | refine Kp.drew ?_ | refine Kp.new ?_ (by omega) _ _)) hk2; have l2 := hb2.size; with_reducible (first | (have t := p1; have rr1 := Blk.nwA p1 hk2; have rr0 := Blk.nwA p0 hk2; have t1 := (rr0).cell 0; have t2 := (rr0).cell 1; have t3 := (rr0).frozen 0; have t4 := (rr0).frozen 1; have t5 := Nat.ne_of_lt rr0.lt; have t6 := Ne.symm (Nat.ne_of_lt rr0.lt); have t1 := (rr1).cell 0; have t2 := (rr1).cell 1; have t3 := (rr1).frozen 0; have t4 := (rr1).frozen 1; have t5 := Nat.ne_of_lt rr1.lt; have t6 := Ne.symm (Nat.ne_of_lt rr1.lt)) | (have t := p0; have rr0 := Blk.nwA (Blk.alloc p0 _) hk2; have o0 := Blk.nwA (Blk.new_at _ 23 #[.int .i64 0, .int .i64 0] (n := u1.heap.size) (by simp)) hk2; have t1 := (rr0).cell 0; have t2 := (rr0).cell 1; have t3 := (rr0).frozen 0; have t4 := (rr0).frozen 1; have t5 := Nat.ne_of_lt rr0.lt; have t6 := Ne.symm (Nat.ne_of_lt rr0.lt); have t1 := (o0).cell 0; have t2 := (o0).cell 1; have t3 := (o0).frozen 0; have t4 := (o0).frozen 1; have t5 := Nat.ne_of_lt o0.lt; have t6 := Ne.symm (Nat.ne_of_lt o0.lt)) | (have t := p0; have rr0 := Blk.nwA p0 hk2; have t1 := (rr0).cell 0; have t2 := (rr0).cell 1; have t3 := (rr0).frozen 0; have t4 := (rr0).frozen 1; have t5 := Nat.ne_of_lt rr0.lt; have t6 := Ne.symm (Nat.ne_of_lt rr0.lt); have t1 := (rr0.alloc (.cells #[.int .i64 0, .int .i64 0] 23)).cell 0; have t2 := (rr0.alloc (.cells #[.int .i64 0, .int .i64 0] 23)).cell 1; have t3 := (rr0.alloc (.cells #[.int .i64 0, .int .i64 0] 23)).frozen 0; have t4 := (rr0.alloc (.cells #[.int .i64 0, .int .i64 0] 23)).frozen 1; have t1 := (rr0.alloc (.cells #[.int .i64 ax, .int .i64 ay] 23)).cell 0; have t2 := (rr0.alloc (.cells #[.int .i64 ax, .int .i64 ay] 23)).cell 1; have t3 := (rr0.alloc (.cells #[.int .i64 ax, .int .i64 ay] 23)).frozen 0; have t4 := (rr0.alloc (.cells #[.int .i64 ax, .int .i64 ay] 23)).frozen 1) | (have o1 := Blk.nwA (Blk.new_at _ 23 #[.int .i64 0, .int .i64 0] (n := u1.heap.size + 1) (by simp)) hk2; have o0 := Blk.nwA (Blk.alloc (Blk.new_at _ 23 #[.int .i64 0, .int .i64 0] (n := u1.heap.size) (by simp)) _) hk2; have t1 := (o0).cell 0; have t2 := (o0).cell 1; have t3 := (o0).frozen 0; have t4 := (o0).frozen 1; have t5 := Nat.ne_of_lt o0.lt; have t6 := Ne.symm (Nat.ne_of_lt o0.lt); have t1 := (o1).cell 0; have t2 := (o1).cell 1; have t3 := (o1).frozen 0; have t4 := (o1).frozen 1; have t5 := Nat.ne_of_lt o1.lt; have t6 := Ne.symm (Nat.ne_of_lt o1.lt)) | (have o0 := Blk.nwA (Blk.new_at _ 23 #[.int .i64 0, .int .i64 0] (n := u1.heap.size) (by simp)) hk2; have t1 := (o0).cell 0; have t2 := (o0).cell 1; have t3 := (o0).frozen 0; have t4 := (o0).frozen 1; have t5 := Nat.ne_of_lt o0.lt; have t6 := Ne.symm (Nat.ne_of_lt o0.lt); have t1 := (o0.alloc (.cells #[.int .i64 0, .int .i64 0] 23)).cell 0; have t2 := (o0.alloc (.cells #[.int .i64 0, .int .i64 0] 23)).cell 1; have t3 := (o0.alloc (.cells #[.int .i64 0, .int .i64 0] 23)).frozen 0; have t4 := (o0.alloc (.cells #[.int .i64 0, .int .i64 0] 23)).frozen 1; have t1 := (o0.alloc (.cells #[.int .i64 ax, .int .i64 ay] 23)).cell 0; have t2 := (o0.alloc (.cells #[.int .i64 ax, .int .i64 ay] 23)).cell 1; have t3 := (o0.alloc (.cells #[.int .i64 ax, .int .i64 ay] 23)).frozen 0; have t4 := (o0.alloc (.cells #[.int .i64 ax, .int .i64 ay] 23)).frozen 1) | skip))))
          all_goals (go_wp2_with fail; go_meet; case rel => (first | with_reducible exact atwo1 hb2 | with_reducible exact atwo2 hb2 | with_reducible exact atwo3 hb2 rr0 (by omega) | with_reducible exact atwo3 hb2 rr1 (by omega) | with_reducible exact atwo3 hb2 o0 (by omega) | with_reducible exact atwo3 hb2 o1 (by omega) | with_reducible exact atwo5 hb2 rr0 (by omega) | with_reducible exact atwo5 hb2 rr1 (by omega) | with_reducible exact atwo5 hb2 o0 (by omega) | with_reducible exact atwo5 hb2 o1 (by omega) | with_reducible exact atwo4 hb2 rr0 rr1 (by omega) (by omega) (by omega) | with_reducible exact atwo4 hb2 rr0 o0 (by omega) (by omega) (by omega) | with_reducible exact atwo4 hb2 rr0 o1 (by omega) (by omega) (by omega) | with_reducible exact atwo4 hb2 rr1 rr0 (by omega) (by omega) (by omega) | with_reducible exact atwo4 hb2 rr1 o0 (by omega) (by omega) (by omega) | with_reducible exact atwo4 hb2 rr1 o1 (by omega) (by omega) (by omega) | with_reducible exact atwo4 hb2 o0 rr0 (by omega) (by omega) (by omega) | with_reducible exact atwo4 hb2 o0 rr1 (by omega) (by omega) (by omega) | with_reducible exact atwo4 hb2 o0 o1 (by omega) (by omega) (by omega) | with_reducible exact atwo4 hb2 o1 rr0 (by omega) (by omega) (by omega) | with_reducible exact atwo4 hb2 o1 rr1 (by omega) (by omega) (by omega) | with_reducible exact atwo4 hb2 o1 o0 (by omega) (by omega) (by omega)))
        case rest =>
          obtain ⟨G8, G9, rfl, rfl, b8, b9, hkc, -⟩ := hcut
          have HKC := Lib.hid (HK.out.tr hkc)
          have z0 := b8.cell 0
          have z1 := b8.cell 1
          have z2 := b9.cell 0
          have z3 := b9.cell 1
          have q0 := fun p : KeptW wc => (b8.kept p).cell 0
          have q1 := fun p : KeptW wc => (b8.kept p).cell 1
          have q2 := fun p : KeptW wc => (b9.kept p).cell 0
          have q3 := fun p : KeptW wc => (b9.kept p).cell 1
          have q6 := fun p : KeptW wc => ((HBW.out.nwA hkc).kept p).cell 6
          have hq := HAB.out
          have hbn := HBN.out
          clear b8 b9 hkc
          cases cw with
          | false =>
            rw [if_neg (by decide)] at hq
            have e1 : decide (C ≤ 0) = false := decide_eq_false (by omega)
            have e2 : decide (E < 0) = false := decide_eq_false (by omega)
            clear hq hbn
            go_wp2_with (first | (go_at_call 23; ((with_reducible refine (Calls.kept_first (c3 _)).mono ?_); rintro e _ ⟨rfl, p, rfl⟩)) | (go_at_call 21; ((with_reducible refine (Calls.kept_of (c4 _)).mono ?_); rintro e _ ⟨rfl, p, rfl⟩)) | fail)
            go_roundw
            case rel => exact ⟨k + 1, by rw [← H4.out], by omega, by omega, HKC.out.tr p.since⟩
            case measure => (have := H4.out; simp [intOf]; try omega)
          | true =>
            rw [if_pos rfl] at hq
            obtain ⟨N, hN⟩ : ∃ N, -C = N := ⟨_, rfl⟩
            have e0 : wrap64 (-C) = N := by rw [← hN]; exact w64_id ⟨by omega, by omega⟩
            have e1 : decide (N ≤ 0) = false := decide_eq_false (by omega)
            have e2 : decide (E < 0) = false := decide_eq_false (by omega)
            clear hq hbn hN
            go_wp2_with (first | (go_at_call 23; ((with_reducible refine (Calls.kept_first (c3 _)).mono ?_); rintro e _ ⟨rfl, p, rfl⟩)) | (go_at_call 21; ((with_reducible refine (Calls.kept_of (c4 _)).mono ?_); rintro e _ ⟨rfl, p, rfl⟩)) | fail)
            go_roundw
            case rel => exact ⟨k + 1, by rw [← H4.out], by omega, by omega, HKC.out.tr p.since⟩
            case measure => (have := H4.out; simp [intOf]; try omega)
      · obtain rfl : k = n := by omega
        have i5 : ¬ ((k : Int) < (k : Int)) := by omega
        go_wp2_with fail
        go_ret
        exact ⟨rfl, HNW.out.tr (HN2.out.tr HK.out)⟩

end Go.Proofs.Ytlogihcmmoldkaa.W
