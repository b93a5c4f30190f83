/-
  arc: the law ArcOpposite: it returns true. No condition but that the arguments are ints.
-/
import Derived.Test.YtlogihcmmoldkaaK51
import Derived.Test.YtlogihcmmoldkaaK05
namespace Go.Proofs.Ytlogihcmmoldkaa.W
open Go.RowKit Go.Proofs.Ytlogihcmmoldkaa.V Go.Proofs.Ytlogihcmmoldkaa.A

theorem valid_opp (fx fy tx ty cx cy : Int) : validA tx ty fx fy cx cy = validA fx fy tx ty cx cy := by
  unfold validA
  generalize withinV fx fy 2000 = a
  generalize withinV tx ty 2000 = b
  generalize withinV cx cy 2000 = c
  generalize sqF fx fy cx cy = R
  generalize sqF tx ty cx cy = Q
  by_cases h : R = Q
  · subst h
    cases a <;> cases b <;> cases c <;> rfl
  · have e1 : (R == Q) = false := by simp [h]
    have e2 : (Q == R) = false := by simp; exact fun e => h e.symm
    rw [e1, e2]
    simp
theorem flat_opp {fx fy tx ty cx cy t : Int} {cw : Bool} {l : List Pt} (hv : validA fx fy tx ty cx cy = true) (hc : chainOk cw fx fy tx ty cx cy t l) : chainOk (!cw) tx ty fx fy cx cy t l ∧ flatL (!cw) tx ty fx fy cx cy l = (flatL cw fx fy tx ty cx cy l).reverse := by
  obtain ⟨_, _, _, _, _, h6⟩ := valid_parts hv
  cases cw with
  | false =>
    refine ⟨?_, ?_⟩
    · show Ch (nrm (tx - cx, ty - cy)) t (fx - cx, fy - cy) (tx - cx, ty - cy) l
      rw [h6]
      exact hc
    · unfold flatL
      simp only [Bool.not_false, if_true, Bool.false_eq_true, if_false, List.map_reverse]
  | true =>
    refine ⟨?_, ?_⟩
    · show Ch (nrm (tx - cx, ty - cy)) t (tx - cx, ty - cy) (fx - cx, fy - cy) l
      rw [h6]
      exact hc
    · unfold flatL
      simp only [Bool.not_true, if_true, Bool.false_eq_true, if_false, List.map_reverse, List.reverse_reverse]
theorem flat_in (fx fy tx ty cx cy t : Int) (cw : Bool) (hv : validA fx fy tx ty cx cy = true) (ht : 1 ≤ t ∧ t ≤ 50) {l : List Pt} (hc : chainOk cw fx fy tx ty cx cy t l) : FlatR 12 (arV fx fy tx ty cx cy cw) (.int .i64 t) (flatL cw fx fy tx ty cx cy l) 0 := by
  cases cw with
  | false => exact fun w => flat_false fx fy tx ty cx cy t hv ht hc w
  | true => exact fun w => flat_true fx fy tx ty cx cy t hv ht hc w
theorem flat_mv (fx fy tx ty cx cy vx vy : Int) (l : List Pt) (cw : Bool) : flatL cw (fx + vx) (fy + vy) (tx + vx) (ty + vy) (cx + vx) (cy + vy) l = (flatL cw fx fy tx ty cx cy l).map (mvC vx vy) := by
  have e : ∀ a b v : Int, a + v - (b + v) = a - b := fun a b v => by omega
  unfold flatL
  simp only [e, List.map_map]
  congr 1
  funext p
  simp only [Function.comp, mvC, Int.add_assoc]
theorem chain_mv {fx fy tx ty cx cy t vx vy : Int} {l : List Pt} {cw : Bool} (h : chainOk cw fx fy tx ty cx cy t l) : chainOk cw (fx + vx) (fy + vy) (tx + vx) (ty + vy) (cx + vx) (cy + vy) t l := by
  have e : ∀ a b v : Int, a + v - (b + v) = a - b := fun a b v => by omega
  unfold chainOk at *
  simp only [e]
  exact h
/-- both flattenings of an arc and its opposite -/
theorem opp_two (fx fy tx ty cx cy t : Int) (cw : Bool) : (∃ ec, ec ≠ 0 ∧ FlatR 12 (arV fx fy tx ty cx cy cw) (.int .i64 t) [] ec ∧ FlatR 12 (arV tx ty fx fy cx cy (!cw)) (.int .i64 t) [] ec) ∨
    (validA fx fy tx ty cx cy = true ∧ (1 ≤ t ∧ t ≤ 50) ∧ ∃ l, chainOk cw fx fy tx ty cx cy t l ∧ FlatR 12 (arV fx fy tx ty cx cy cw) (.int .i64 t) (flatL cw fx fy tx ty cx cy l) 0 ∧ FlatR 12 (arV tx ty fx fy cx cy (!cw)) (.int .i64 t) (flatL cw fx fy tx ty cx cy l).reverse 0) := by
  have nil : ∀ {f : FuncId} {a t : Value} {ec : Int}, (∀ w : World, Calls Try.prog f #[a, t] w fun e w' => e = .returned (.tuple #[.slice none 0 0, .int .i64 ec]) ∧ Nw w w') → FlatR f a t [] ec := fun h w1 => (h w1).mono fun e w' ⟨he, hn⟩ => ⟨_, he, src_none _ _ _ (Nat.zero_le _), hn⟩
  cases hv : validA fx fy tx ty cx cy with
  | false => exact .inl ⟨1, by decide, nil fun w => flat_arg fx fy tx ty cx cy t cw hv w, nil fun w => flat_arg tx ty fx fy cx cy t (!cw) (by rw [valid_opp]; exact hv) w⟩
  | true =>
    by_cases ht : 1 ≤ t ∧ t ≤ 50
    · rcases flat_two fx fy tx ty cx cy t cw with ⟨_, _, hb, _⟩ | ⟨_, _, l, hc, hf, _⟩
      · rcases hb with hb | hb
        · rw [hv] at hb; cases hb
        · exact absurd ht hb
      · refine .inr ⟨rfl, ht, l, hc, hf, ?_⟩
        have h := flat_opp hv hc
        rw [← h.2]
        exact flat_in tx ty fx fy cx cy t (!cw) (by rw [valid_opp]; exact hv) ht h.1
    · exact .inl ⟨2, by decide, nil fun w => flat_range fx fy tx ty cx cy t cw hv ht w, nil fun w => flat_range tx ty fx fy cx cy t (!cw) (by rw [valid_opp]; exact hv) ht w⟩
/-- the flattening of the moved arc -/
theorem moved_two (fx fy tx ty cx cy t vx vy : Int) (cw : Bool) (hv : validA fx fy tx ty cx cy = true) (ht : 1 ≤ t ∧ t ≤ 50) (hw : (-4000 ≤ vx ∧ vx ≤ 4000) ∧ (-4000 ≤ vy ∧ vy ≤ 4000)) {l : List Pt} (hc : chainOk cw fx fy tx ty cx cy t l) : ∃ M ed, FlatR 12 (arV (w64 (fx + vx)) (w64 (fy + vy)) (w64 (tx + vx)) (w64 (ty + vy)) (w64 (cx + vx)) (w64 (cy + vy)) cw) (.int .i64 t) M ed ∧ (ed ≠ 0 ∨ (ed = 0 ∧ M = (flatL cw fx fy tx ty cx cy l).map (mvC vx vy))) := by
  obtain ⟨h1, h2, h3, _⟩ := valid_parts hv
  rw [w64_id (n := fx + vx) ⟨by omega, by omega⟩, w64_id (n := fy + vy) ⟨by omega, by omega⟩, w64_id (n := tx + vx) ⟨by omega, by omega⟩, w64_id (n := ty + vy) ⟨by omega, by omega⟩, w64_id (n := cx + vx) ⟨by omega, by omega⟩, w64_id (n := cy + vy) ⟨by omega, by omega⟩]
  rcases flat_two (fx + vx) (fy + vy) (tx + vx) (ty + vy) (cx + vx) (cy + vy) t cw with ⟨ed, hed, _, hf, _⟩ | ⟨hv2, _, _, _, _, _⟩
  · exact ⟨_, ed, hf, .inl hed⟩
  · exact ⟨_, 0, flat_in _ _ _ _ _ _ t cw hv2 ht (chain_mv hc), .inr ⟨rfl, flat_mv fx fy tx ty cx cy vx vy l cw⟩⟩
theorem far_ok (fx fy tx ty cx cy t vx vy : Int) (cw : Bool) : ∃ M ed, FlatR 12 (arV (w64 (fx + vx)) (w64 (fy + vy)) (w64 (tx + vx)) (w64 (ty + vy)) (w64 (cx + vx)) (w64 (cy + vy)) cw) (.int .i64 t) M ed := by
  obtain ⟨M, ed, h, _⟩ := flat_same (w64 (fx + vx)) (w64 (fy + vy)) (w64 (tx + vx)) (w64 (ty + vy)) (w64 (cx + vx)) (w64 (cy + vy)) t cw
  exact ⟨M, ed, h⟩

theorem Blk.lay7 {w : World} {g : Nat} {t : TypeId} {a b c d e f h : Value} (hb : Blk w g t #[a, b, c, d, e, f, h]) (x1 x2 x3 x4 x5 x6 x7 : Value) :
    Blk (((((((w.setCell ⟨g, 0, none⟩ x1).setCell ⟨g, 1, none⟩ x2).setCell ⟨g, 2, none⟩ x3).setCell ⟨g, 3, none⟩ x4).setCell ⟨g, 4, none⟩ x5).setCell ⟨g, 5, none⟩ x6).setCell ⟨g, 6, none⟩ x7) g t #[x1, x2, x3, x4, x5, x6, x7] := by
  have h0 : Blk (w.setCell ⟨g, 0, none⟩ x1) g t #[x1, b, c, d, e, f, h] := hb.set_ 0 x1
  have h1 : Blk ((w.setCell ⟨g, 0, none⟩ x1).setCell ⟨g, 1, none⟩ x2) g t #[x1, x2, c, d, e, f, h] := h0.set_ 1 x2
  have h2 : Blk (((w.setCell ⟨g, 0, none⟩ x1).setCell ⟨g, 1, none⟩ x2).setCell ⟨g, 2, none⟩ x3) g t #[x1, x2, x3, d, e, f, h] := h1.set_ 2 x3
  have h3 : Blk ((((w.setCell ⟨g, 0, none⟩ x1).setCell ⟨g, 1, none⟩ x2).setCell ⟨g, 2, none⟩ x3).setCell ⟨g, 3, none⟩ x4) g t #[x1, x2, x3, x4, e, f, h] := h2.set_ 3 x4
  have h4 : Blk (((((w.setCell ⟨g, 0, none⟩ x1).setCell ⟨g, 1, none⟩ x2).setCell ⟨g, 2, none⟩ x3).setCell ⟨g, 3, none⟩ x4).setCell ⟨g, 4, none⟩ x5) g t #[x1, x2, x3, x4, x5, f, h] := h3.set_ 4 x5
  have h5 : Blk ((((((w.setCell ⟨g, 0, none⟩ x1).setCell ⟨g, 1, none⟩ x2).setCell ⟨g, 2, none⟩ x3).setCell ⟨g, 3, none⟩ x4).setCell ⟨g, 4, none⟩ x5).setCell ⟨g, 5, none⟩ x6) g t #[x1, x2, x3, x4, x5, x6, h] := h4.set_ 5 x6
  have h6 : Blk (((((((w.setCell ⟨g, 0, none⟩ x1).setCell ⟨g, 1, none⟩ x2).setCell ⟨g, 2, none⟩ x3).setCell ⟨g, 3, none⟩ x4).setCell ⟨g, 4, none⟩ x5).setCell ⟨g, 5, none⟩ x6).setCell ⟨g, 6, none⟩ x7) g t #[x1, x2, x3, x4, x5, x6, x7] := h5.set_ 6 x7
  exact h6
theorem Kp.new7 {Q : Nat → Prop} {a w : World} (h : Kp Q a w) {g : Nat} (hb : a.heap.size ≤ g) (x1 x2 x3 x4 x5 x6 x7 : Value) :
    Kp Q a (((((((w.setCell ⟨g, 0, none⟩ x1).setCell ⟨g, 1, none⟩ x2).setCell ⟨g, 2, none⟩ x3).setCell ⟨g, 3, none⟩ x4).setCell ⟨g, 4, none⟩ x5).setCell ⟨g, 5, none⟩ x6).setCell ⟨g, 6, none⟩ x7) := ((((((h.new hb 0 x1).new hb 1 x2).new hb 2 x3).new hb 3 x4).new hb 4 x5).new hb 5 x6).new hb 6 x7

set_option maxRecDepth 100000 in
set_option maxHeartbeats 12800000 in
theorem lawOpp_any (fx fy tx ty cx cy t vx vy : Int) (cw : Bool) (w : World) : Calls Try.prog 9 #[arV fx fy tx ty cx cy cw, .int .i64 t, vV vx vy] w fun e w' => e = .returned (.bool true) ∧ Nw w w' := by
  have hmix := mixed7
  obtain ⟨W0, hW0⟩ : ∃ W, ((w.alloc (.cells (arC fx fy tx ty cx cy cw) 25)).alloc (.cells #[.int .i64 vx, .int .i64 vy] 23)) = W := ⟨_, rfl⟩
  have HB0 := Lib.hid (show Blk W0 w.heap.size 25 (arC fx fy tx ty cx cy cw) by rw [← hW0]; exact (Blk.new_at w 25 (arC fx fy tx ty cx cy cw) (n := w.heap.size) (by simp)).alloc _)
  have HB1 := Lib.hid (show Blk W0 (w.heap.size + 1) 23 #[.int .i64 vx, .int .i64 vy] by rw [← hW0]; exact Blk.new_at _ 23 #[.int .i64 vx, .int .i64 vy] (n := w.heap.size + 1) (by simp))
  have HNW := Lib.hid (show Nw w W0 by rw [← hW0]; exact (nw_alloc _ _).alloc _)
  obtain ⟨L, ec, N, M, ed, hf, hg, hh, hcase⟩ : ∃ L ec N M ed, FlatR 12 (arV fx fy tx ty cx cy cw) (.int .i64 t) L ec ∧ FlatR 12 (arV tx ty fx fy cx cy (!cw)) (.int .i64 t) N ec ∧
      FlatR 12 (arV (w64 (fx + vx)) (w64 (fy + vy)) (w64 (tx + vx)) (w64 (ty + vy)) (w64 (cx + vx)) (w64 (cy + vy)) cw) (.int .i64 t) M ed ∧ N = L.reverse ∧ L.length ≤ 64032009 ∧ (∀ x ∈ L, (-4000 ≤ x.1 ∧ x.1 ≤ 4000) ∧ (-4000 ≤ x.2 ∧ x.2 ≤ 4000)) ∧ (withinV vx vy 4000 = true → ec ≠ 0 ∨ ed ≠ 0 ∨ (ec = 0 ∧ ed = 0 ∧ M = L.map (mvC vx vy))) := by
    rcases opp_two fx fy tx ty cx cy t cw with ⟨ec, hec, hf, hg⟩ | ⟨hv, ht, l, hc, hf, hg⟩
    · obtain ⟨M, ed, hh⟩ := far_ok fx fy tx ty cx cy t vx vy cw
      exact ⟨_, _, _, _, _, hf, hg, hh, rfl, by simp, (fun x hx => by cases hx), fun _ => .inl hec⟩
    · obtain ⟨D, e1, F⟩ := chain_pack hv ht hc
      have vp := valid_parts hv
      have top : (flatL cw fx fy tx ty cx cy l).length ≤ 64032009 := by rw [e1, List.length_map]; exact F.top
      have all : ∀ x ∈ flatL cw fx fy tx ty cx cy l, (-4000 ≤ x.1 ∧ x.1 ≤ 4000) ∧ (-4000 ≤ x.2 ∧ x.2 ≤ 4000) := fun x hx => by
        rw [e1] at hx
        obtain ⟨y, hy, rfl⟩ := List.mem_map.1 hx
        have d := dig_2000 vp.2.2.2.2.1 (F.pts y hy).1
        have c := vp.2.2.1
        unfold mvC
        simp only
        omega
      by_cases hw : withinV vx vy 4000 = true
      · obtain ⟨M, ed, hh, hm⟩ := moved_two fx fy tx ty cx cy t vx vy cw hv ht (within_le (by decide) hw) hc
        refine ⟨_, _, _, _, _, hf, hg, hh, rfl, top, all, fun _ => .inr (hm.imp id fun h => ⟨rfl, h.1, h.2⟩)⟩
      · obtain ⟨M, ed, hh⟩ := far_ok fx fy tx ty cx cy t vx vy cw
        exact ⟨_, _, _, _, _, hf, hg, hh, rfl, top, all, fun h => absurd h hw⟩
  obtain ⟨hN, hlen, hall, hmv⟩ := hcase
  subst hN
  unfold FlatR at hf hg hh
  obtain ⟨n, hn⟩ : ∃ n, L.length = n := ⟨_, rfl⟩
  rw [hn] at hlen
  have HALL := Lib.hid hall
  have HMV := Lib.hid hmv
  have HN := Lib.hid hn
  have HH := Lib.hid hh
  have d1 := fun w1 => radd_any fx fy vx vy w1
  have d2 := fun w1 => radd_any tx ty vx vy w1
  have d3 := fun w1 => radd_any cx cy vx vy w1
  have cw4 := fun w1 => rwithin_any vx vy 4000 w1
  obtain ⟨X1, hX1⟩ : ∃ x, w64 (fx + vx) = x := ⟨_, rfl⟩
  obtain ⟨Y1, hY1⟩ : ∃ x, w64 (fy + vy) = x := ⟨_, rfl⟩
  obtain ⟨X2, hX2⟩ : ∃ x, w64 (tx + vx) = x := ⟨_, rfl⟩
  obtain ⟨Y2, hY2⟩ : ∃ x, w64 (ty + vy) = x := ⟨_, rfl⟩
  obtain ⟨X3, hX3⟩ : ∃ x, w64 (cx + vx) = x := ⟨_, rfl⟩
  obtain ⟨Y3, hY3⟩ : ∃ x, w64 (cy + vy) = x := ⟨_, rfl⟩
  rw [hX1, hY1] at d1 hh
  rw [hX2, hY2] at d2 hh
  rw [hX3, hY3] at d3 hh
  clear hall hmv hn HH hX1 hY1 hX2 hY2 hX3 hY3
  go_enter Try.func9, Try.ntmps9
  go_upto_region 1 with fail
  try rw [hW0]
  clear hW0
  go_upto_region 3 with (first | (go_at_call 11; ((with_reducible refine (awakeA_any _).mono ?_); rintro e w1 ⟨rfl, k1⟩; have K1 := Lib.hid k1; clear k1)) | fail)
  have z0 := (HB0.out.nwA K1.out).cell 0
  have z1 := (HB0.out.nwA K1.out).cell 1
  have z2 := (HB0.out.nwA K1.out).cell 2
  have z3 := (HB0.out.nwA K1.out).cell 3
  have z4 := (HB0.out.nwA K1.out).cell 4
  have z5 := (HB0.out.nwA K1.out).cell 5
  have z6 := (HB0.out.nwA K1.out).cell 6
  go_upto_region 4 with (first | (go_at_call 12; refine (hf _).mono ?_; rintro e w2 ⟨v2, rfl, s2, k2⟩; (obtain ⟨A2, c2, rfl⟩ := s2.shape); have S2 := Lib.hid s2; have K2 := Lib.hid k2; clear s2 k2) | fail)
  clear z0 z1 z2 z3 z4 z5 z6 hf
  have HN2 := Lib.hid (K1.out.tr K2.out)
  have z0 := (HB0.out.nwA HN2.out).cell 0
  have z1 := (HB0.out.nwA HN2.out).cell 1
  have z2 := (HB0.out.nwA HN2.out).cell 2
  have z3 := (HB0.out.nwA HN2.out).cell 3
  have z4 := (HB0.out.nwA HN2.out).cell 4
  have z5 := (HB0.out.nwA HN2.out).cell 5
  have z6 := (HB0.out.nwA HN2.out).cell 6
  go_upto_region 5 with (first | (go_at_call 12; refine (hg _).mono ?_; rintro e w3 ⟨v3, rfl, s3, k3⟩; (obtain ⟨A3, c3, rfl⟩ := s3.shape); have S3 := Lib.hid s3; have K3 := Lib.hid k3; clear s3 k3) | fail)
  clear z0 z1 z2 z3 z4 z5 z6 hg
  have HN3 := Lib.hid (HN2.out.tr K3.out)
  try rw [List.length_reverse]
  rw [HN.out]
  have e1 : (ec != ec) = false := by simp
  go_wp2_with fail
  go_loopw [11] (fun i wr => ∃ k : Nat, i = .int .i64 k ∧ k ≤ n ∧ Nw w3 wr) (fun i _ => n - (intOf i).toNat)
  case atStart => exact ⟨0, rfl, Nat.zero_le _, Kp.refl _ _⟩
  case round =>
    obtain ⟨k, rfl, hk, hnw⟩ := hrel
    have HK := Lib.hid hnw
    clear hnw
    by_cases hkn : k < n
    · have i0 : (0 : Int) ≤ (k : Int) := by omega
      have i1 : (k : Int) < (n : Int) := by omega
      obtain ⟨s4, hs4⟩ : ∃ s : Nat, k + 1 = s := ⟨_, rfl⟩
      have a4 : IntKind.i64.wrap ((k : Int) + 1) = (s4 : Int) := by rw [IntKind.wrap_i64]; omega
      have H4 := Lib.hid hs4
      obtain ⟨j, hj⟩ : ∃ j : Nat, n - 1 - k = j := ⟨_, rfl⟩
      have a1 : IntKind.i64.wrap ((n : Int) - 1) = (n : Int) - 1 := by rw [IntKind.wrap_i64]; omega
      have a2 : IntKind.i64.wrap ((n : Int) - 1 - (k : Int)) = (j : Int) := by rw [IntKind.wrap_i64]; omega
      have j0 : (0 : Int) ≤ (j : Int) := by omega
      have j1 : (j : Int) < (n : Int) := by omega
      obtain ⟨gL, oL, hA2, hcL⟩ := list_cells (show 0 < n by omega) HN.out S2.out
      obtain ⟨gM, oM, hA3, hcM⟩ := list_cells (show 0 < n by omega) (by rw [List.length_reverse]; exact HN.out) S3.out
      obtain ⟨⟨ax, ay⟩, ha⟩ : ∃ p, L[k]? = some p := ⟨_, List.getElem?_eq_getElem (by rw [HN.out]; exact hkn)⟩
      have hb : L.reverse[j]? = some (ax, ay) := by rw [List.getElem?_reverse (by rw [HN.out]; omega), HN.out, show n - 1 - j = k by omega]; exact ha
      have q0 := fun p : KeptW wr => (hcL p.wd ((K3.out.tr HK.out).tr p.since) k ax ay ha).1
      have q1 := fun p : KeptW wr => (hcL p.wd ((K3.out.tr HK.out).tr p.since) k ax ay ha).2
      have q2 := fun p : KeptW wr => (hcM p.wd (HK.out.tr p.since) j ax ay hb).1
      have q3 := fun p : KeptW wr => (hcM p.wd (HK.out.tr p.since) j ax ay hb).2
      have x1 := fun w1 => neq_vec ax ay ax ay w1
      have y1 : (ax == ax && ay == ay) = true := by simp
      rw [y1] at x1
      subst hA2 hA3
      clear hcL hcM ha hb hj hs4 y1
      go_upto_region 10 with fail
      refine wp_region_kept (Kp.refl _ _) (by assumption) (by kernel_rfl) ?_
      repeat (with_reducible refine wpQuiet_step (fun K hK => ?_); go_simp; first | ((with_reducible refine hK _ ?_); clear hK K) | (with_reducible apply Exists.intro; (with_reducible refine ⟨fun _ => ?_, hK _ ?_⟩); (fail); clear hK K) | (simp only [undef, reduceCtorEq, if_false]; (with_reducible refine hK _ ?_); clear hK K))
      with_reducible refine wpQuiet_nil ?_
      rintro _ ⟨p, rfl⟩
      go_wp2_with fail
      go_roundw
      case rel => exact ⟨k + 1, by rw [← H4.out], by omega, by repeat (first | exact HK.out.tr p.since | refine Kp.drew ?_)⟩
      case measure => (have := H4.out; simp [intOf]; try omega)
    · have i5 : ¬ ((k : Int) < (n : Int)) := by omega
      have HBA := Lib.hid ((HB0.out.nwA HN3.out).nwA HK.out)
      have HBV := Lib.hid ((HB1.out.nwA HN3.out).nwA HK.out)
      have HNR := Lib.hid (HNW.out.tr (HN3.out.tr HK.out))
      have z0 := HBV.out.cell 0
      have z1 := HBV.out.cell 1
      obtain ⟨bw, hbw⟩ : ∃ b, withinV vx vy 4000 = b := ⟨_, rfl⟩
      have HMW := Lib.hid hbw
      rw [hbw] at cw4
      clear hbw
      cases bw with
      | false =>
        go_wp2_with (first | (go_at_call 24; ((with_reducible refine (Calls.kept_first (cw4 _)).mono ?_); rintro e _ ⟨rfl, p, rfl⟩)) | fail)
        go_ret
        exact ⟨rfl, HNR.out.tr p.since⟩
      | true =>
        go_upto_region 14 with (first | (go_at_call 24; ((with_reducible refine (Calls.kept_first (cw4 _)).mono ?_); rintro e _ ⟨rfl, p, rfl⟩)) | fail)
        have HW5 := Lib.hid p.since
        generalize p.wd = w5 at HW5 ⊢
        clear z0 z1 cw4
        have HP := Lib.hid (show ∀ w', Nw w5 w' → w'.cell? (⟨w.heap.size, 0, none⟩ : Addr) = some (.int .i64 fx) ∧ w'.cell? (⟨w.heap.size, 1, none⟩ : Addr) = some (.int .i64 fy) ∧ w'.cell? (⟨w.heap.size, 2, none⟩ : Addr) = some (.int .i64 tx) ∧ w'.cell? (⟨w.heap.size, 3, none⟩ : Addr) = some (.int .i64 ty) ∧ w'.cell? (⟨w.heap.size, 4, none⟩ : Addr) = some (.int .i64 cx) ∧ w'.cell? (⟨w.heap.size, 5, none⟩ : Addr) = some (.int .i64 cy) ∧ w'.cell? (⟨w.heap.size, 6, none⟩ : Addr) = some (.bool cw) ∧ w'.cell? (⟨w.heap.size + 1, 0, none⟩ : Addr) = some (.int .i64 vx) ∧ w'.cell? (⟨w.heap.size + 1, 1, none⟩ : Addr) = some (.int .i64 vy) from fun w' h => by
          have a := (HBA.out.nwA HW5.out).nwA h
          have b := (HBV.out.nwA HW5.out).nwA h
          exact ⟨a.cell 0, a.cell 1, a.cell 2, a.cell 3, a.cell 4, a.cell 5, a.cell 6, b.cell 0, b.cell 1⟩)
        have i7 : (Try.prog.info? 25).map (·.size) = some 7 := by kernel_rfl
        go_cut [12] from 71 to 85 (fun p12 wx => ∃ g, p12 = .pointer (some ⟨g, 0, none⟩) ∧ Blk wx g 25 #[.int .i64 X1, .int .i64 Y1, .int .i64 X2, .int .i64 Y2, .int .i64 X3, .int .i64 Y3, .bool cw] ∧ Nw w5 wx)
        case first =>
          go_wp2_with fail
          go_region_held3 (fun w' : World => w'.cell? (⟨w.heap.size, 0, none⟩ : Addr) = some (.int .i64 fx) ∧ w'.cell? (⟨w.heap.size, 1, none⟩ : Addr) = some (.int .i64 fy) ∧ w'.cell? (⟨w.heap.size, 2, none⟩ : Addr) = some (.int .i64 tx) ∧ w'.cell? (⟨w.heap.size, 3, none⟩ : Addr) = some (.int .i64 ty) ∧ w'.cell? (⟨w.heap.size, 4, none⟩ : Addr) = some (.int .i64 cx) ∧ w'.cell? (⟨w.heap.size, 5, none⟩ : Addr) = some (.int .i64 cy) ∧ w'.cell? (⟨w.heap.size, 6, none⟩ : Addr) = some (.bool cw) ∧ w'.cell? (⟨w.heap.size + 1, 0, none⟩ : Addr) = some (.int .i64 vx) ∧ w'.cell? (⟨w.heap.size + 1, 1, none⟩ : Addr) = some (.int .i64 vy))
            (first | ((refine HP.out _ ?_); (repeat (first | with_reducible exact hb3 | with_reducible exact hb2 | with_reducible exact hb1 | with_reducible exact Kp.refl _ _ | with_reducible refine Kp.alloc ?_ _ | with_reducible refine Kp.drew ?_ | with_reducible refine Kp.new ?_ (by omega) _ _))) | fail)
            (first | (go_at_call 25; ((with_reducible refine (d1 _).mono ?_); rintro e u1 ⟨rfl, hk1⟩; have hb1 : Nw w5 u1 := Kp.tr (by repeat (first | with_reducible exact hb3 | with_reducible exact hb2 | with_reducible exact hb1 | with_reducible exact Kp.refl _ _ | with_reducible refine Kp.alloc ?_ _ | with_reducible refine Kp.drew ?_ | with_reducible refine Kp.new ?_ (by omega) _ _)) hk1; have l1 := hb1.size; with_reducible (first | (have p0 := Blk.nwA (Blk.drew (Blk.new_at _ 25 #[.int .i64 0, .int .i64 0, .int .i64 0, .int .i64 0, .int .i64 0, .int .i64 0, .bool false] (n := w5.heap.size) (by simp))) hk1; have t5 := p0.lt) | skip))) | (go_at_call 25; ((with_reducible refine (d2 _).mono ?_); rintro e u2 ⟨rfl, hk2⟩; have hb2 : Nw w5 u2 := Kp.tr (by repeat (first | with_reducible exact hb3 | with_reducible exact hb2 | with_reducible exact hb1 | with_reducible exact Kp.refl _ _ | with_reducible refine Kp.alloc ?_ _ | with_reducible refine Kp.drew ?_ | with_reducible refine Kp.new ?_ (by omega) _ _)) hk2; have l2 := hb2.size; with_reducible (first | (have t := p0; have pp := Blk.nwA p0 hk2; have t5 := pp.lt) | (have pp := Blk.nwA (Blk.new_at _ 25 #[.int .i64 0, .int .i64 0, .int .i64 0, .int .i64 0, .int .i64 0, .int .i64 0, .bool false] (n := u1.heap.size) (by simp)) hk2; have t5 := pp.lt) | skip))) | (go_at_call 25; ((with_reducible refine (d3 _).mono ?_); rintro e u3 ⟨rfl, hk3⟩; have hb3 : Nw w5 u3 := Kp.tr (by repeat (first | with_reducible exact hb3 | with_reducible exact hb2 | with_reducible exact hb1 | with_reducible exact Kp.refl _ _ | with_reducible refine Kp.alloc ?_ _ | with_reducible refine Kp.drew ?_ | with_reducible refine Kp.new ?_ (by omega) _ _)) hk3; have l3 := hb3.size; with_reducible (first | (have t := pp; have ppp := Blk.nwA pp hk3; have t5 := ppp.lt; have c0 := ppp.cell 0; have f0 := ppp.frozen 0; have c1 := ppp.cell 1; have f1 := ppp.frozen 1; have c2 := ppp.cell 2; have f2 := ppp.frozen 2; have c3 := ppp.cell 3; have f3 := ppp.frozen 3; have c4 := ppp.cell 4; have f4 := ppp.frozen 4; have c5 := ppp.cell 5; have f5 := ppp.frozen 5; have c6 := ppp.cell 6; have f6 := ppp.frozen 6) | (have ppp := Blk.nwA (Blk.new_at _ 25 #[.int .i64 0, .int .i64 0, .int .i64 0, .int .i64 0, .int .i64 0, .int .i64 0, .bool false] (n := u2.heap.size) (by simp)) hk3; have t5 := ppp.lt; have c0 := ppp.cell 0; have f0 := ppp.frozen 0; have c1 := ppp.cell 1; have f1 := ppp.frozen 1; have c2 := ppp.cell 2; have f2 := ppp.frozen 2; have c3 := ppp.cell 3; have f3 := ppp.frozen 3; have c4 := ppp.cell 4; have f4 := ppp.frozen 4; have c5 := ppp.cell 5; have f5 := ppp.frozen 5; have c6 := ppp.cell 6; have f6 := ppp.frozen 6) | skip))) | fail)
          all_goals (go_wp2_with fail; go_meet; case rel => (first | with_reducible exact ⟨_, rfl, Blk.new _ _ _, hb3.alloc _⟩ | with_reducible exact ⟨_, rfl, ppp.lay7 _ _ _ _ _ _ _, hb3.new7 (by omega) _ _ _ _ _ _ _⟩))
        case rest =>
          obtain ⟨gb, rfl, hbb, hkc⟩ := hcut
          have HKC := Lib.hid (HW5.out.tr hkc)
          have z0 := hbb.cell 0
          have z1 := hbb.cell 1
          have z2 := hbb.cell 2
          have z3 := hbb.cell 3
          have z4 := hbb.cell 4
          have z5 := hbb.cell 5
          have z6 := hbb.cell 6
          clear hbb hkc d1 d2 d3
          go_upto_region 16 with (first | (go_at_call 12; refine (hh _).mono ?_; rintro e w6 ⟨v6, rfl, s6, k6⟩; (obtain ⟨A6, c6, rfl⟩ := s6.shape); have S6 := Lib.hid s6; have K6 := Lib.hid k6; clear s6 k6) | fail)
          clear z0 z1 z2 z3 z4 z5 z6 hh
          have HN6 := Lib.hid (HNR.out.tr (HKC.out.tr K6.out))
          have hm := HMV.out HMW.out
          by_cases g1 : ec = 0
          · by_cases g2 : ed = 0
            · obtain ⟨-, -, hM⟩ := (hm.resolve_left (fun h => h g1)).resolve_left (fun h => h g2)
              subst g1 g2 hM
              have hml : (L.map (mvC vx vy)).length = n := by rw [List.length_map]; exact HN.out
              have HML := Lib.hid hml
              first | rw [HN.out] | rw [hml]
              have vw := within_le (m := 4000) (by decide) HMW.out
              have HVW := Lib.hid vw
              have HN36 := Lib.hid (HK.out.tr (HKC.out.tr K6.out))
              clear hm hml vw
              go_wp2_with fail
              go_loopw [15] (fun i wr => ∃ k : Nat, i = .int .i64 k ∧ k ≤ n ∧ Nw w6 wr) (fun i _ => n - (intOf i).toNat)
              case atStart => exact ⟨0, rfl, Nat.zero_le _, Kp.refl _ _⟩
              case round =>
                obtain ⟨k2, rfl, hk2, hnw⟩ := hrel
                have HK2 := Lib.hid hnw
                clear hnw
                by_cases hkn : k2 < n
                · have dd : decide ((k2 : Int) < (n : Int)) = true := decide_eq_true (by omega)
                  have i0 : (0 : Int) ≤ (k2 : Int) := by omega
                  have i1 : (k2 : Int) < (n : Int) := by omega
                  have a4 : IntKind.i64.wrap ((k2 : Int) + 1) = ((k2 + 1 : Nat) : Int) := by rw [IntKind.wrap_i64]; omega
                  obtain ⟨gL, oL, hA2, hcL⟩ := list_cells (show 0 < n by omega) HN.out S2.out
                  obtain ⟨gM, oM, hA6, hcM⟩ := list_cells (show 0 < n by omega) HML.out S6.out
                  obtain ⟨⟨ax, ay⟩, ha⟩ : ∃ p, L[k2]? = some p := ⟨_, List.getElem?_eq_getElem (by rw [HN.out]; exact hkn)⟩
                  have hb : (L.map (mvC vx vy))[k2]? = some (ax + vx, ay + vy) := by rw [List.getElem?_map, ha]; rfl
                  have q0 := fun p : KeptW wr => (hcL p.wd ((K3.out.tr (HN36.out.tr HK2.out)).tr p.since) k2 ax ay ha).1
                  have q1 := fun p : KeptW wr => (hcL p.wd ((K3.out.tr (HN36.out.tr HK2.out)).tr p.since) k2 ax ay ha).2
                  have q2 := fun p : KeptW wr => (hcM p.wd (HK2.out.tr p.since) k2 _ _ hb).1
                  have q3 := fun p : KeptW wr => (hcM p.wd (HK2.out.tr p.since) k2 _ _ hb).2
                  have q4 := fun p : KeptW wr => ((HBV.out.nwA ((HKC.out.tr K6.out).tr HK2.out)).kept p).cell 0
                  have q5 := fun p : KeptW wr => ((HBV.out.nwA ((HKC.out.tr K6.out).tr HK2.out)).kept p).cell 1
                  have va := HALL.out _ (List.mem_of_getElem? ha)
                  have vw := HVW.out
                  simp only at va
                  have ca := fun w1 => radd_any ax ay vx vy w1
                  rw [w64_id (n := ax + vx) ⟨by omega, by omega⟩, w64_id (n := ay + vy) ⟨by omega, by omega⟩] at ca
                  have x1 := fun w1 => neq_vec (ax + vx) (ay + vy) (ax + vx) (ay + vy) w1
                  have y1 : (ax + vx == ax + vx && ay + vy == ay + vy) = true := by simp
                  rw [y1] at x1
                  subst hA2 hA6
                  clear hcL hcM ha hb va vw y1
                  go_upto_region 21 with fail
                  refine wp_region_kept (Kp.refl _ _) (by assumption) (by kernel_rfl) ?_
                  repeat (with_reducible refine wpQuiet_step (fun K hK => ?_); go_simp; first | ((with_reducible refine hK _ ?_); clear hK K) | (with_reducible apply Exists.intro; (with_reducible refine ⟨fun _ => ?_, hK _ ?_⟩); ((first | (go_at_call 25; with_reducible exact Calls.kept_of (ca _)) | fail)); clear hK K) | (simp only [undef, reduceCtorEq, if_false]; (with_reducible refine hK _ ?_); clear hK K))
                  with_reducible refine wpQuiet_nil ?_
                  rintro _ ⟨p, rfl⟩
                  go_wp2_with fail
                  go_roundw
                  case rel => exact ⟨k2 + 1, rfl, by omega, by repeat (first | exact HK2.out.tr p.since | refine Kp.drew ?_)⟩
                  case measure => (simp [intOf]; try omega)
                · have dd : decide ((k2 : Int) < (n : Int)) = false := decide_eq_false (by omega)
                  have ee : ((n : Int) == (n : Int)) = true := by simp
                  go_wp2_with fail
                  go_ret
                  exact ⟨by first | rfl | simp, HN6.out.tr HK2.out⟩
            · have e2 : (ed != 0) = true := by simp [g2]
              subst g1
              clear hm g2
              go_wp2_with fail
              go_ret
              exact ⟨rfl, HN6.out⟩
          · have e2 : (ec != 0) = true := by simp [g1]
            clear hm g1
            go_wp2_with fail
            go_ret
            exact ⟨rfl, HN6.out⟩

end Go.Proofs.Ytlogihcmmoldkaa.W
