/-
  arc: the chain of a law, by its places; the law ArcEnds. No condition but that the arguments are ints.
-/
import Derived.Test.YtlogihcmmoldkaaK38
import Derived.Test.YtlogihcmmoldkaaK44
import Derived.Test.YtlogihcmmoldkaaK10
namespace Go.Proofs.Ytlogihcmmoldkaa.W
open Go.RowKit Go.Proofs.Ytlogihcmmoldkaa.V Go.Proofs.Ytlogihcmmoldkaa.A

theorem chain_pack {fx fy tx ty cx cy t : Int} {cw : Bool} {l : List Pt} (hv : validA fx fy tx ty cx cy = true) (_ht : 1 ≤ t ∧ t ≤ 50) (hc : chainOk cw fx fy tx ty cx cy t l) : ∃ D : List Pt, flatL cw fx fy tx ty cx cy l = D.map (mvC cx cy) ∧ RelF cw (nrm (fx - cx, fy - cy)) t (fx - cx, fy - cy) (tx - cx, ty - cy) D := by
  obtain ⟨_, _, _, h4, h5, h6⟩ := valid_parts hv
  exact ⟨relD cw (fx - cx, fy - cy) (tx - cx, ty - cy) l, rfl, rel_facts h4 h5 rfl h6 hc⟩
theorem chain_cells {w2 : World} {A : Option Addr} {c : Nat} {D : List Pt} {cx cy : Int} (h0 : 0 < D.length) (hs : SrcV w2 (.slice A (D.map (mvC cx cy)).length c) (D.map (mvC cx cy))) : ∃ g o, A = some ⟨g, o, none⟩ ∧ ∀ w', Nw w2 w' → ∀ (k : Nat) (x y : Int), D[k]? = some (x, y) → w'.cell? ⟨g, o + k * 2, none⟩ = some (.int .i64 (x + cx)) ∧ w'.cell? ⟨g, o + k * 2 + 1, none⟩ = some (.int .i64 (y + cy)) := by
  obtain ⟨g, o, hA, _, hc⟩ := src_at (src_n hs rfl) (by rw [List.length_map]; omega)
  refine ⟨g, o, hA, fun w' hw k x y hk => ?_⟩
  have hlt := (List.getElem?_eq_some_iff.1 hk).1
  have h := hc w' hw k (by rw [List.length_map]; exact hlt)
  have e : G.at_ (D.map (mvC cx cy)) k = (x + cx, y + cy) := G.at_of (by rw [List.getElem?_map, hk]; rfl)
  rw [e] at h
  exact h
theorem back {x c : Int} (hx : -2000 ≤ x ∧ x ≤ 2000) (_hc : -2000 ≤ c ∧ c ≤ 2000) : w64 (x + c - c) = x := by rw [Int.add_sub_cancel]; exact w64_id ⟨by omega, by omega⟩

set_option maxRecDepth 100000 in
set_option maxHeartbeats 12800000 in
theorem lawEnds_any (fx fy tx ty cx cy t : Int) (cw : Bool) (w : World) : Calls Try.prog 6 #[arV fx fy tx ty cx cy cw, .int .i64 t] w fun e w' => e = .returned (.bool true) ∧ Nw w w' := by
  have hmix := mixed7
  obtain ⟨W0, hW0⟩ : ∃ W, w.alloc (.cells (arC fx fy tx ty cx cy cw) 25) = W := ⟨_, rfl⟩
  have HB0 := Lib.hid (show Blk W0 w.heap.size 25 (arC fx fy tx ty cx cy cw) by rw [← hW0]; exact Blk.new _ _ _)
  have HNW := Lib.hid (show Nw w W0 by rw [← hW0]; exact nw_alloc _ _)
  rcases flat_two fx fy tx ty cx cy t cw with ⟨ec, hec, hbad, hf, -⟩ | ⟨hv, ht, l, hc, hf, -⟩
  · unfold FlatR at hf
    have e9 : (ec != 0) = true := by simp [hec]
    clear hec
    go_enter Try.func6, Try.ntmps6
    go_upto_region 1 with fail
    try rw [hW0]
    clear hW0
    go_upto_region 3 with (first | (go_at_call 11; ((with_reducible refine (awakeA_any _).mono ?_); rintro e w1 ⟨rfl, k1⟩; have K1 := Lib.hid k1; clear k1)) | fail)
    have z0 := (HB0.out.nwA K1.out).cell 0
    have z1 := (HB0.out.nwA K1.out).cell 1
    have z2 := (HB0.out.nwA K1.out).cell 2
    have z3 := (HB0.out.nwA K1.out).cell 3
    have z4 := (HB0.out.nwA K1.out).cell 4
    have z5 := (HB0.out.nwA K1.out).cell 5
    have z6 := (HB0.out.nwA K1.out).cell 6
    go_upto_region 4 with (first | (go_at_call 12; refine (hf _).mono ?_; rintro e w2 ⟨v2, rfl, s2, k2⟩; (obtain ⟨A2, c2, rfl⟩ := s2.shape); have S2 := Lib.hid s2; have K2 := Lib.hid k2; clear s2 k2) | fail)
    clear z0 z1 z2 z3 z4 z5 z6 hf
    have HN2 := Lib.hid (K1.out.tr K2.out)
    try simp only [List.length_nil]
    have z0 := (HB0.out.nwA HN2.out).cell 0
    have z1 := (HB0.out.nwA HN2.out).cell 1
    have z2 := (HB0.out.nwA HN2.out).cell 2
    have z3 := (HB0.out.nwA HN2.out).cell 3
    have z4 := (HB0.out.nwA HN2.out).cell 4
    have z5 := (HB0.out.nwA HN2.out).cell 5
    have z6 := (HB0.out.nwA HN2.out).cell 6
    have cv := fun w1 => avalid_any fx fy tx ty cx cy cw w1
    rcases hbad with hb | hb
    · rw [hb] at cv
      clear hb
      go_wp2_with (first | (go_at_call 15; ((with_reducible refine (Calls.kept_first (cv _)).mono ?_); rintro e _ ⟨rfl, p, rfl⟩)) | fail)
      go_ret
      exact ⟨rfl, by repeat (first | exact HNW.out.tr (HN2.out.tr p.since) | refine Kp.drew ?_)⟩
    · generalize validA fx fy tx ty cx cy = b at cv
      cases b with
      | false =>
        clear hb
        go_wp2_with (first | (go_at_call 15; ((with_reducible refine (Calls.kept_first (cv _)).mono ?_); rintro e _ ⟨rfl, p, rfl⟩)) | fail)
        go_ret
        exact ⟨rfl, by repeat (first | exact HNW.out.tr (HN2.out.tr p.since) | refine Kp.drew ?_)⟩
      | true =>
        by_cases h1 : t < 1
        · have e1 : decide (t < 1) = true := decide_eq_true h1
          clear hb
          go_wp2_with (first | (go_at_call 15; ((with_reducible refine (Calls.kept_first (cv _)).mono ?_); rintro e _ ⟨rfl, p, rfl⟩)) | fail)
          go_ret
          exact ⟨rfl, by repeat (first | exact HNW.out.tr (HN2.out.tr p.since) | refine Kp.drew ?_)⟩
        · have e1 : decide (t < 1) = false := decide_eq_false h1
          have e2 : decide (50 < t) = true := decide_eq_true (by omega)
          clear hb
          go_wp2_with (first | (go_at_call 15; ((with_reducible refine (Calls.kept_first (cv _)).mono ?_); rintro e _ ⟨rfl, p, rfl⟩)) | fail)
          go_ret
          exact ⟨rfl, by repeat (first | exact HNW.out.tr (HN2.out.tr p.since) | refine Kp.drew ?_)⟩
  · unfold FlatR at hf
    obtain ⟨D, hD, F⟩ := chain_pack hv ht hc
    have HR := Lib.hid (show 0 < nrm (fx - cx, fy - cy) ∧ nrm (fx - cx, fy - cy) ≤ 4000000 from ⟨(valid_parts hv).2.2.2.1, (valid_parts hv).2.2.2.2.1⟩)
    have HV := Lib.hid (valid_parts hv)
    rw [hD] at hf
    obtain ⟨n, hn⟩ : ∃ n, D.length = n := ⟨_, rfl⟩
    have hn2 : 2 ≤ n := hn ▸ F.two
    have hn3 : n ≤ 64032009 := hn ▸ F.top
    have HF := Lib.hid F
    have HN := Lib.hid hn
    have HT := Lib.hid ht
    clear hD F hc hv hn
    go_enter Try.func6, Try.ntmps6
    go_upto_region 1 with fail
    try rw [hW0]
    clear hW0
    go_upto_region 3 with (first | (go_at_call 11; ((with_reducible refine (awakeA_any _).mono ?_); rintro e w1 ⟨rfl, k1⟩; have K1 := Lib.hid k1; clear k1)) | fail)
    have z0 := (HB0.out.nwA K1.out).cell 0
    have z1 := (HB0.out.nwA K1.out).cell 1
    have z2 := (HB0.out.nwA K1.out).cell 2
    have z3 := (HB0.out.nwA K1.out).cell 3
    have z4 := (HB0.out.nwA K1.out).cell 4
    have z5 := (HB0.out.nwA K1.out).cell 5
    have z6 := (HB0.out.nwA K1.out).cell 6
    go_upto_region 4 with (first | (go_at_call 12; refine (hf _).mono ?_; rintro e w2 ⟨v2, rfl, s2, k2⟩; (obtain ⟨A2, c2, rfl⟩ := s2.shape); have S2 := Lib.hid s2; have K2 := Lib.hid k2; clear s2 k2) | fail)
    clear z0 z1 z2 z3 z4 z5 z6 hf
    have HN2 := Lib.hid (K1.out.tr K2.out)
    first | rw [HN.out] | rw [show (D.map (mvC cx cy)).length = n by rw [List.length_map, HN.out]]
    obtain ⟨g, o, hA, hcell⟩ := chain_cells (by rw [HN.out]; omega) S2.out
    subst hA
    have HCL := Lib.hid hcell
    clear hcell
    -- the ends
    obtain ⟨m, hm⟩ : ∃ m, n - 1 = m := ⟨_, rfl⟩
    have a1 : IntKind.i64.wrap ((n : Int) - 1) = (m : Int) := by rw [IntKind.wrap_i64]; omega
    have b0 : decide ((n : Int) < 2) = false := decide_eq_false (by omega)
    have i0 : (0 : Int) < (n : Int) := by omega
    have i00 : 0 < n := by omega
    have i1 : (0 : Int) ≤ (m : Int) := by omega
    have i2 : (m : Int) < (n : Int) := by omega
    have HE := Lib.hid (show ∀ w', Nw w2 w' → (w'.cell? ⟨g, o, none⟩ = some (.int .i64 fx) ∧ w'.cell? ⟨g, o + 1, none⟩ = some (.int .i64 fy)) ∧ w'.cell? ⟨g, o + m * 2, none⟩ = some (.int .i64 tx) ∧ w'.cell? ⟨g, o + m * 2 + 1, none⟩ = some (.int .i64 ty) from fun w' h => by
      have h1 := HCL.out w' h 0 _ _ HF.out.fst
      have h2 := HCL.out w' h m _ _ (by rw [← hm, ← HN.out]; exact HF.out.lst)
      rw [Int.sub_add_cancel, Int.sub_add_cancel] at h1 h2
      rw [Nat.zero_mul, Nat.add_zero] at h1
      exact ⟨h1, h2⟩)
    have q0 := fun p : KeptW w2 => (HE.out p.wd p.since).1.1
    have q1 := fun p : KeptW w2 => (HE.out p.wd p.since).1.2
    have q2 := fun p : KeptW w2 => (HE.out p.wd p.since).2.1
    have q3 := fun p : KeptW w2 => (HE.out p.wd p.since).2.2
    have q4 := fun p : KeptW w2 => ((HB0.out.nwA HN2.out).kept p).cell 0
    have q5 := fun p : KeptW w2 => ((HB0.out.nwA HN2.out).kept p).cell 1
    have q6 := fun p : KeptW w2 => ((HB0.out.nwA HN2.out).kept p).cell 2
    have q7 := fun p : KeptW w2 => ((HB0.out.nwA HN2.out).kept p).cell 3
    have x1 := fun w1 => neq_vec fx fy fx fy w1
    have x2 := fun w1 => neq_vec tx ty tx ty w1
    have y1 : (fx == fx && fy == fy) = true := by simp
    have y2 : (tx == tx && ty == ty) = true := by simp
    have w6 := HE.out w2 (Kp.refl _ _)
    have w60 := w6.1.1
    have w61 := w6.1.2
    have w62 := w6.2.1
    have w63 := w6.2.2
    clear w6
    rw [y1] at x1
    rw [y2] at x2
    go_upto_region 6 with fail
    refine wp_region_kept (Kp.refl _ _) (by assumption) (by kernel_rfl) ?_
    repeat (with_reducible refine wpQuiet_step (fun K hK => ?_); go_simp; first | ((with_reducible refine hK _ ?_); clear hK K) | (with_reducible apply Exists.intro; (with_reducible refine ⟨fun _ => ?_, hK _ ?_⟩); (fail); clear hK K) | (simp only [undef, reduceCtorEq, if_false]; (with_reducible refine hK _ ?_); clear hK K))
    with_reducible refine wpQuiet_nil ?_
    rintro _ ⟨p, rfl⟩
    go_upto_region 8 with fail
    have HNp := Lib.hid p.since
    generalize p.wd = wq at HNp ⊢
    clear w60 w61 w62 w63 q0 q1 q2 q3 q4 q5 q6 q7 x1 x2 y1 y2 a1 b0 i0 i00 i1 i2 hm
    have HNq := Lib.hid (HN2.out.tr HNp.out)
    have z0 := (HB0.out.nwA HNq.out).cell 0
    have z1 := (HB0.out.nwA HNq.out).cell 1
    have z4 := (HB0.out.nwA HNq.out).cell 4
    have z5 := (HB0.out.nwA HNq.out).cell 5
    have v := HV.out
    have sf := sq_small v.1 v.2.2.1
    have cd := fun w1 => rsub_any fx fy cx cy w1
    rw [sf.1, sf.2.1] at cd
    have cR := fun w1 => rdot_any (fx - cx) (fy - cy) (fx - cx) (fy - cy) w1
    rw [sf.2.2.1, show sqF fx fy cx cy = nrm (fx - cx, fy - cy) from rfl] at cR
    clear v sf
    generalize hx1 : fx - cx = x1 at *
    generalize hy1 : fy - cy = y1 at *
    generalize hRR : nrm (x1, y1) = R at *
    go_upto_region 9 with (first | (go_at_call 20; ((with_reducible refine (Calls.kept_first (cd _)).mono ?_); rintro e _ ⟨rfl, p, rfl⟩)) | fail)
    have HN4 := Lib.hid p.since
    generalize p.wd = wa at HN4 ⊢
    generalize hw3 : World.alloc _ _ = w3
    obtain ⟨gd, hgd⟩ : ∃ x, wa.heap.size = x := ⟨_, rfl⟩
    have HBD := Lib.hid (show Blk w3 gd 23 #[.int .i64 x1, .int .i64 y1] by rw [← hw3, ← hgd]; exact Blk.new _ _ _)
    have HN3 := Lib.hid (show Nw w2 w3 by rw [← hw3]; exact HNp.out.tr (HN4.out.tr (nw_alloc _ _)))
    try rw [hgd]
    clear hw3 hgd z0 z1 z4 z5 cd
    have z0 := HBD.out.cell 0
    have z1 := HBD.out.cell 1
    go_upto_region 10 with (first | (go_at_call 21; ((with_reducible refine (Calls.kept_first (cR _)).mono ?_); rintro e _ ⟨rfl, p, rfl⟩)) | fail)
    have HN5 := Lib.hid (HN3.out.tr p.since)
    generalize p.wd = w5 at HN5 ⊢
    clear z0 z1 cR
    go_wp2_with fail
    go_loopw [9] (fun i wr => ∃ k : Nat, i = .int .i64 k ∧ k ≤ n ∧ Nw w5 wr) (fun i _ => n - (intOf i).toNat)
    case atStart => exact ⟨0, rfl, Nat.zero_le _, Kp.refl _ _⟩
    case round =>
      obtain ⟨k, rfl, hk, hnw⟩ := hrel
      have HK := Lib.hid hnw
      clear hnw
      by_cases hkn : k < n
      · have i0 : (0 : Int) ≤ (k : Int) := by omega
        have i1 : (k : Int) < (n : Int) := by omega
        obtain ⟨s4, hs4⟩ : ∃ s : Nat, k + 1 = s := ⟨_, rfl⟩
        have a4 : IntKind.i64.wrap ((k : Int) + 1) = (s4 : Int) := by rw [IntKind.wrap_i64]; omega
        have H4 := Lib.hid hs4
        obtain ⟨⟨ax, ay⟩, ha⟩ : ∃ p, D[k]? = some p := ⟨_, List.getElem?_eq_getElem (by rw [HN.out]; exact hkn)⟩
        have hpt := HF.out.pts _ (List.mem_of_getElem? ha)
        have va := dig_2000 HR.out.2 hpt.1
        have vc := HV.out.2.2.1
        have d1 := fun w1 => rsub_any (ax + cx) (ay + cy) cx cy w1
        rw [back va.1 vc.1, back va.2 vc.2] at d1
        have nw := near_words HR.out.1 HR.out.2 hpt.1 hpt.2
        have cn := fun w1 => rdot_any ax ay ax ay w1
        rw [(small_words va va).2, show dot0 (ax, ay) (ax, ay) = nrm (ax, ay) from rfl] at cn
        generalize hnn : nrm (ax, ay) = nn at *
        obtain ⟨nn0, nn1, nn2, nn3, nn4⟩ := nw
        obtain ⟨kk, hkk⟩ : ∃ kk, nn + R - 1 = kk := ⟨_, rfl⟩
        rw [hkk] at nn2 nn3
        have hR2 := HR.out
        have sk := sqn kk
        have e1 : IntKind.i64.wrap (nn + R) = nn + R := by rw [IntKind.wrap_i64]; omega
        have e2 : IntKind.i64.wrap (nn + R - 1) = kk := by rw [IntKind.wrap_i64]; omega
        have e3 : decide (0 ≤ kk) = true := decide_eq_true nn2
        have e4 : IntKind.i64.wrap (kk * kk) = kk * kk := by rw [IntKind.wrap_i64]; omega
        have e5 : IntKind.i64.wrap (4 * nn) = 4 * nn := by rw [IntKind.wrap_i64]; omega
        have e6 : IntKind.i64.wrap (4 * nn * R) = 4 * nn * R := by rw [IntKind.wrap_i64]; omega
        have e7 : decide (4 * nn * R ≤ kk * kk) = false := decide_eq_false (by omega)
        have HA := Lib.hid ha
        have HP := Lib.hid (show ∀ w', Nw wr w' → w'.cell? (⟨g, o + k * 2, none⟩ : Addr) = some (.int .i64 (ax + cx)) ∧ w'.cell? (⟨g, o + k * 2 + 1, none⟩ : Addr) = some (.int .i64 (ay + cy)) ∧ w'.cell? (⟨w.heap.size, 4, none⟩ : Addr) = some (.int .i64 cx) ∧ w'.cell? (⟨w.heap.size, 5, none⟩ : Addr) = some (.int .i64 cy) from fun w' h => by
          have h1 := HCL.out w' (HN5.out.tr (HK.out.tr h)) k ax ay HA.out
          have b := (HB0.out.nwA (HN2.out.tr (HN5.out.tr HK.out))).nwA h
          exact ⟨h1.1, h1.2, b.cell 4, b.cell 5⟩)
        have HH4 := Lib.hid hs4
        clear hpt va vc hs4 nn0 nn1 nn2 nn3 nn4 hkk hR2 sk hnn
        go_upto_region 13 with fail
        go_cut [10] from 75 to 81 (fun v10 wx => ∃ gx, v10 = .pointer (some ⟨gx, 0, none⟩) ∧ Blk wx gx 23 #[.int .i64 ax, .int .i64 ay] ∧ Nw wr wx)
        case first =>
          go_wp2_with fail
          go_region_held3 (fun w' : World => w'.cell? (⟨g, o + k * 2, none⟩ : Addr) = some (.int .i64 (ax + cx)) ∧ w'.cell? (⟨g, o + k * 2 + 1, none⟩ : Addr) = some (.int .i64 (ay + cy)) ∧ w'.cell? (⟨w.heap.size, 4, none⟩ : Addr) = some (.int .i64 cx) ∧ w'.cell? (⟨w.heap.size, 5, none⟩ : Addr) = some (.int .i64 cy))
            (first | ((refine HP.out _ ?_); (repeat (first | exact hb1 | exact Kp.refl _ _ | refine Kp.alloc ?_ _ | refine Kp.drew ?_ | refine Kp.new ?_ (by omega) _ _))) | fail)
            (first | (go_at_call 20; ((with_reducible refine (d1 _).mono ?_); rintro e u1 ⟨rfl, hk1⟩; have hb1 : Nw wr u1 := Kp.tr (by repeat (first | exact hb1 | exact Kp.refl _ _ | refine Kp.alloc ?_ _ | refine Kp.drew ?_ | refine Kp.new ?_ (by omega) _ _)) hk1; have l1 := hb1.size; with_reducible (first | (have p0 := Blk.nwA (Blk.drew (Blk.new_at _ 23 #[.int .i64 0, .int .i64 0] (n := wr.heap.size) (by simp))) hk1; have t1 := p0.cell 0; have t2 := p0.cell 1; have t3 := p0.frozen 0; have t4 := p0.frozen 1; have t5 := p0.lt) | skip))))
          all_goals (go_wp2_with fail; go_meet; case rel => (first | exact ⟨_, rfl, Blk.new _ _ _, hb1.alloc _⟩ | exact ⟨_, rfl, p0.lay2 _ _, hb1.newA (by omega) _ _⟩))
        case rest =>
          obtain ⟨gx, rfl, bx, hkc⟩ := hcut
          have z0 := bx.cell 0
          have z1 := bx.cell 1
          have HKC := Lib.hid (HK.out.tr hkc)
          clear bx hkc d1
          go_upto_region 15 with (first | (go_at_call 21; ((with_reducible refine (Calls.kept_first (cn _)).mono ?_); rintro e _ ⟨rfl, p, rfl⟩)) | fail)
          have HK6 := Lib.hid (HKC.out.tr p.since)
          generalize p.wd = w6 at HK6 ⊢
          clear z0 z1 cn
          rcases Nat.eq_zero_or_pos k with hk0 | hk0
          · subst hk0
            have e8 : decide ((0 : Int) < ((0 : Nat) : Int)) = false := by decide
            go_upto_region 16 with fail
            refine wp_region_kept (Kp.refl _ _) (by assumption) (by kernel_rfl) ?_
            repeat (with_reducible refine wpQuiet_step (fun K hK => ?_); go_simp; first | ((with_reducible refine hK _ ?_); clear hK K) | (with_reducible apply Exists.intro; (with_reducible refine ⟨fun _ => ?_, hK _ ?_⟩); (fail); clear hK K) | (simp only [undef, reduceCtorEq, if_false]; (with_reducible refine hK _ ?_); clear hK K))
            with_reducible refine wpQuiet_nil ?_
            rintro _ ⟨p, rfl⟩
            go_wp2_with fail
            go_roundw
            case rel => exact ⟨1, rfl, by omega, HK6.out.tr p.since⟩
            case measure => (simp [intOf]; try omega)
          · obtain ⟨j, hj⟩ : ∃ j, k - 1 = j := ⟨_, rfl⟩
            obtain ⟨⟨bx, bz⟩, hb⟩ : ∃ p, D[j]? = some p := ⟨_, List.getElem?_eq_getElem (by rw [HN.out]; omega)⟩
            have hne := relS_ne (HF.out.seg j _ _ hb (by rw [show j + 1 = k by omega]; exact HA.out))
            have e8 : decide ((0 : Int) < (k : Int)) = true := decide_eq_true (by omega)
            have e9 : IntKind.i64.wrap ((k : Int) - 1) = (j : Int) := by rw [IntKind.wrap_i64]; omega
            have e10 : (0 : Int) ≤ (j : Int) := by omega
            have e11 : (j : Int) < (n : Int) := by omega
            have e12 : (ax + cx == bx + cx && ay + cy == bz + cy) = false := by
              cases g : (ax + cx == bx + cx && ay + cy == bz + cy) with
              | false => rfl
              | true => simp only [Bool.and_eq_true, beq_iff_eq] at g; exact absurd (by rw [show bx = ax by omega, show bz = ay by omega]) hne
            have x1 := fun w1 => eql_vec (ax + cx) (ay + cy) (bx + cx) (bz + cy) w1
            rw [e12] at x1
            have q0 := fun p : KeptW w6 => (HCL.out p.wd (HN5.out.tr (HK6.out.tr p.since)) k ax ay HA.out).1
            have q1 := fun p : KeptW w6 => (HCL.out p.wd (HN5.out.tr (HK6.out.tr p.since)) k ax ay HA.out).2
            have q2 := fun p : KeptW w6 => (HCL.out p.wd (HN5.out.tr (HK6.out.tr p.since)) j bx bz hb).1
            have q3 := fun p : KeptW w6 => (HCL.out p.wd (HN5.out.tr (HK6.out.tr p.since)) j bx bz hb).2
            clear hb hne e12 hj
            go_upto_region 16 with fail
            refine wp_region_kept (Kp.refl _ _) (by assumption) (by kernel_rfl) ?_
            repeat (with_reducible refine wpQuiet_step (fun K hK => ?_); go_simp; first | ((with_reducible refine hK _ ?_); clear hK K) | (with_reducible apply Exists.intro; (with_reducible refine ⟨fun _ => ?_, hK _ ?_⟩); (fail); clear hK K) | (simp only [undef, reduceCtorEq, if_false]; (with_reducible refine hK _ ?_); clear hK K))
            with_reducible refine wpQuiet_nil ?_
            rintro _ ⟨p, rfl⟩
            go_wp2_with fail
            go_roundw
            case rel => exact ⟨k + 1, by rw [← HH4.out], by omega, by repeat (first | exact HK6.out.tr p.since | refine Kp.drew ?_)⟩
            case measure => (have := HH4.out; simp [intOf]; try omega)
      · obtain rfl : k = n := by omega
        have i5 : ¬ ((k : Int) < (k : Int)) := by omega
        go_wp2_with fail
        go_ret
        exact ⟨rfl, HNW.out.tr (HN2.out.tr (HN5.out.tr HK.out))⟩

end Go.Proofs.Ytlogihcmmoldkaa.W
