/-
  arc: the points between two points, of the reference. Conditions: as in a valid arc.
-/
import Derived.Test.YtlogihcmmoldkaaK08
import Derived.Test.YtlogihcmmoldkaaK13
import Derived.Test.YtlogihcmmoldkaaK14
namespace Go.Proofs.Ytlogihcmmoldkaa.W
open Go.RowKit Go.Proofs.Ytlogihcmmoldkaa.V Go.Proofs.Ytlogihcmmoldkaa.A


set_option maxRecDepth 100000 in
set_option maxHeartbeats 25600000 in
theorem rbetween_any {R t : Int} (hR : 0 < R) (hR2 : R ≤ 4000000) (ht : 1 ≤ t ∧ t ≤ 50) {p q : Pt} {l : List Pt} (h : Bt R t p q l) : Arcs R p q → ∀ (w : World),
    Calls Try.prog 42 #[vV p.1 p.2, vV q.1 q.2, .int .i64 R, .int .i64 t] w fun e w' => ∃ v, e = .returned v ∧ OwnA w' w.heap.size v l ∧ Nw w w' := by
  induction h with
  | @cl p q hc =>
    intro a w
    have hmix := mixed7
    obtain ⟨px, py⟩ := p
    obtain ⟨qx, qy⟩ := q
    have sp : Sm2 (px, py) := dig_2000 hR2 a.1
    have sq : Sm2 (qx, qy) := dig_2000 hR2 a.2.1
    have c1 := fun w1 => rclose_any px py qx qy R t sp sq ⟨Int.le_of_lt hR, hR2⟩ ht (arcs_diff a) w1
    have c2 := fun w1 => rmid_any px py qx qy R sp sq ⟨Int.le_of_lt hR, hR2⟩ (arcs_sum a) w1
    obtain ⟨W0, hW0⟩ : ∃ W, ((w.alloc (.cells #[.int .i64 px, .int .i64 py] 23)).alloc (.cells #[.int .i64 qx, .int .i64 qy] 23)) = W := ⟨_, rfl⟩
    have HW := Lib.hid (show Nw w W0 by rw [← hW0]; exact (nw_alloc _ _).alloc _)
    have HB0 := Lib.hid (show Blk W0 w.heap.size 23 #[.int .i64 px, .int .i64 py] by rw [← hW0]; exact (Blk.new_at w 23 #[.int .i64 px, .int .i64 py] (n := w.heap.size) (by simp)).alloc _)
    have HB1 := Lib.hid (show Blk W0 (w.heap.size + 1) 23 #[.int .i64 qx, .int .i64 qy] by rw [← hW0]; exact Blk.new_at _ 23 #[.int .i64 qx, .int .i64 qy] (n := w.heap.size + 1) (by simp))
    have m0 := HB0.out.cell 0
    have m1 := HB0.out.cell 1
    have m2 := HB1.out.cell 0
    have m3 := HB1.out.cell 1
    have q0 := fun p : KeptW W0 => (HB0.out.kept p).cell 0
    have q1 := fun p : KeptW W0 => (HB0.out.kept p).cell 1
    have q2 := fun p : KeptW W0 => (HB1.out.kept p).cell 0
    have q3 := fun p : KeptW W0 => (HB1.out.kept p).cell 1
    clear sp sq
    rw [hc] at c1
    go_enter Try.func42, Try.ntmps42
    go_upto_region 1 with fail
    try rw [hW0]
    clear hW0
    go_wp2_with (first | (go_at_call 61; ((with_reducible refine (Calls.kept_first (c1 _)).mono ?_); rintro e _ ⟨rfl, p, rfl⟩)) | fail)
    go_ret
    exact ⟨_, rfl, OwnA.nil _ _, (by repeat (first | exact HW.out.tr p.since | refine Kp.drew ?_ | refine Kp.alloc ?_ _))⟩
  | @eq p q hc he =>
    intro a w
    have hmix := mixed7
    obtain ⟨px, py⟩ := p
    obtain ⟨qx, qy⟩ := q
    have sp : Sm2 (px, py) := dig_2000 hR2 a.1
    have sq : Sm2 (qx, qy) := dig_2000 hR2 a.2.1
    have c1 := fun w1 => rclose_any px py qx qy R t sp sq ⟨Int.le_of_lt hR, hR2⟩ ht (arcs_diff a) w1
    have c2 := fun w1 => rmid_any px py qx qy R sp sq ⟨Int.le_of_lt hR, hR2⟩ (arcs_sum a) w1
    obtain ⟨W0, hW0⟩ : ∃ W, ((w.alloc (.cells #[.int .i64 px, .int .i64 py] 23)).alloc (.cells #[.int .i64 qx, .int .i64 qy] 23)) = W := ⟨_, rfl⟩
    have HW := Lib.hid (show Nw w W0 by rw [← hW0]; exact (nw_alloc _ _).alloc _)
    have HB0 := Lib.hid (show Blk W0 w.heap.size 23 #[.int .i64 px, .int .i64 py] by rw [← hW0]; exact (Blk.new_at w 23 #[.int .i64 px, .int .i64 py] (n := w.heap.size) (by simp)).alloc _)
    have HB1 := Lib.hid (show Blk W0 (w.heap.size + 1) 23 #[.int .i64 qx, .int .i64 qy] by rw [← hW0]; exact Blk.new_at _ 23 #[.int .i64 qx, .int .i64 qy] (n := w.heap.size + 1) (by simp))
    have m0 := HB0.out.cell 0
    have m1 := HB0.out.cell 1
    have m2 := HB1.out.cell 0
    have m3 := HB1.out.cell 1
    have q0 := fun p : KeptW W0 => (HB0.out.kept p).cell 0
    have q1 := fun p : KeptW W0 => (HB0.out.kept p).cell 1
    have q2 := fun p : KeptW W0 => (HB1.out.kept p).cell 0
    have q3 := fun p : KeptW W0 => (HB1.out.kept p).cell 1
    clear sp sq
    rw [hc] at c1
    obtain ⟨⟨mx, my⟩, hm⟩ : ∃ m, mid R (px, py) (qx, qy) = m := ⟨_, rfl⟩
    rw [hm] at c2 he
    go_enter Try.func42, Try.ntmps42
    go_upto_region 1 with fail
    try rw [hW0]
    clear hW0
    have x1 := fun w1 => eql_vec mx my px py w1
    have x2 := fun w1 => eql_vec mx my qx qy w1
    go_upto_region 4 with (first | (go_at_call 61; ((with_reducible refine (Calls.kept_first (c1 _)).mono ?_); rintro e _ ⟨rfl, p, rfl⟩)) | (go_at_call 62; ((with_reducible refine (Calls.kept_of (c2 _)).mono ?_); rintro e _ ⟨rfl, p, rfl⟩)) | fail)
    have HN1 := Lib.hid p.since
    generalize p.wd = wa at HN1 ⊢
    generalize hwm : World.alloc _ _ = wm
    obtain ⟨gm, hgm⟩ : ∃ x, wa.heap.size = x := ⟨_, rfl⟩
    have HM := Lib.hid (show Blk wm gm 23 #[.int .i64 mx, .int .i64 my] by rw [← hwm, ← hgm]; exact Blk.new _ _ _)
    have HNM := Lib.hid (show Nw w wm by rw [← hwm]; exact HW.out.tr (HN1.out.tr (nw_alloc _ _)))
    have HN0 := Lib.hid (show Nw W0 wm by rw [← hwm]; exact HN1.out.tr (nw_alloc _ _))
    try rw [hgm]
    clear hwm hgm m0 m1 m2 m3 q0 q1 q2 q3 c1 c2
    have z0 := (HB0.out.nwA HN0.out).cell 0
    have z1 := (HB0.out.nwA HN0.out).cell 1
    have z2 := (HB1.out.nwA HN0.out).cell 0
    have z3 := (HB1.out.nwA HN0.out).cell 1
    have z4 := HM.out.cell 0
    have z5 := HM.out.cell 1
    by_cases e1 : (mx, my) = (px, py)
    · have b1 : (mx == px && my == py) = true := by simp only [Prod.mk.injEq] at e1; simp [e1]
      rw [b1] at x1
      clear e1 he
      go_wp2_with fail
      go_ret
      exact ⟨_, rfl, OwnA.nil _ _, HNM.out⟩
    · have e2 := he.resolve_left e1
      have b1 : (mx == px && my == py) = false := by
        cases g : (mx == px && my == py) with
        | false => rfl
        | true => simp only [Bool.and_eq_true, beq_iff_eq] at g; exact absurd (by rw [g.1, g.2]) e1
      have b2 : (mx == qx && my == qy) = true := by simp only [Prod.mk.injEq] at e2; simp [e2]
      rw [b1] at x1
      rw [b2] at x2
      clear e1 e2 he
      go_wp2_with fail
      go_ret
      exact ⟨_, rfl, OwnA.nil _ _, HNM.out⟩
  | @st p q l m hc hm1 hm2 h1 h2 ih1 ih2 =>
    intro a w
    have hmix := mixed7
    obtain ⟨px, py⟩ := p
    obtain ⟨qx, qy⟩ := q
    have sp : Sm2 (px, py) := dig_2000 hR2 a.1
    have sq : Sm2 (qx, qy) := dig_2000 hR2 a.2.1
    have c1 := fun w1 => rclose_any px py qx qy R t sp sq ⟨Int.le_of_lt hR, hR2⟩ ht (arcs_diff a) w1
    have c2 := fun w1 => rmid_any px py qx qy R sp sq ⟨Int.le_of_lt hR, hR2⟩ (arcs_sum a) w1
    obtain ⟨W0, hW0⟩ : ∃ W, ((w.alloc (.cells #[.int .i64 px, .int .i64 py] 23)).alloc (.cells #[.int .i64 qx, .int .i64 qy] 23)) = W := ⟨_, rfl⟩
    have HW := Lib.hid (show Nw w W0 by rw [← hW0]; exact (nw_alloc _ _).alloc _)
    have HB0 := Lib.hid (show Blk W0 w.heap.size 23 #[.int .i64 px, .int .i64 py] by rw [← hW0]; exact (Blk.new_at w 23 #[.int .i64 px, .int .i64 py] (n := w.heap.size) (by simp)).alloc _)
    have HB1 := Lib.hid (show Blk W0 (w.heap.size + 1) 23 #[.int .i64 qx, .int .i64 qy] by rw [← hW0]; exact Blk.new_at _ 23 #[.int .i64 qx, .int .i64 qy] (n := w.heap.size + 1) (by simp))
    have m0 := HB0.out.cell 0
    have m1 := HB0.out.cell 1
    have m2 := HB1.out.cell 0
    have m3 := HB1.out.cell 1
    have q0 := fun p : KeptW W0 => (HB0.out.kept p).cell 0
    have q1 := fun p : KeptW W0 => (HB0.out.kept p).cell 1
    have q2 := fun p : KeptW W0 => (HB1.out.kept p).cell 0
    have q3 := fun p : KeptW W0 => (HB1.out.kept p).cell 1
    clear sp sq
    obtain ⟨a1, a2⟩ := arcs_split hR a hm1 hm2
    have g1 := bt_max hR hR2 h1 a1
    have g2 := bt_max hR hR2 h2 a2
    rw [hc] at c1
    obtain ⟨⟨mx, my⟩, hm⟩ : ∃ m, mid R (px, py) (qx, qy) = m := ⟨_, rfl⟩
    rw [hm] at c2 hm1 hm2 ih1 ih2 a1 a2
    rw [hm]
    obtain ⟨n1, hn1⟩ : ∃ n, l.length = n := ⟨_, rfl⟩
    obtain ⟨n2, hn2⟩ : ∃ n, m.length = n := ⟨_, rfl⟩
    have i1 := fun w1 => ih1 a1 w1
    have i2 := fun w1 => ih2 a2 w1
    unfold OwnA at i1 i2
    rw [hn1] at i1 g1
    rw [hn2] at i2 g2
    simp only at i1 i2
    have HN1' := Lib.hid hn1
    have HN2' := Lib.hid hn2
    clear ih1 ih2 a1 a2 h1 h2 hn1 hn2 hm a
    go_enter Try.func42, Try.ntmps42
    go_upto_region 1 with fail
    try rw [hW0]
    clear hW0
    have x1 := fun w1 => eql_vec mx my px py w1
    have x2 := fun w1 => eql_vec mx my qx qy w1
    go_upto_region 4 with (first | (go_at_call 61; ((with_reducible refine (Calls.kept_first (c1 _)).mono ?_); rintro e _ ⟨rfl, p, rfl⟩)) | (go_at_call 62; ((with_reducible refine (Calls.kept_of (c2 _)).mono ?_); rintro e _ ⟨rfl, p, rfl⟩)) | fail)
    have HN1 := Lib.hid p.since
    generalize p.wd = wa at HN1 ⊢
    generalize hwm : World.alloc _ _ = wm
    obtain ⟨gm, hgm⟩ : ∃ x, wa.heap.size = x := ⟨_, rfl⟩
    have HM := Lib.hid (show Blk wm gm 23 #[.int .i64 mx, .int .i64 my] by rw [← hwm, ← hgm]; exact Blk.new _ _ _)
    have HNM := Lib.hid (show Nw w wm by rw [← hwm]; exact HW.out.tr (HN1.out.tr (nw_alloc _ _)))
    have HN0 := Lib.hid (show Nw W0 wm by rw [← hwm]; exact HN1.out.tr (nw_alloc _ _))
    try rw [hgm]
    clear hwm hgm m0 m1 m2 m3 q0 q1 q2 q3 c1 c2
    have z0 := (HB0.out.nwA HN0.out).cell 0
    have z1 := (HB0.out.nwA HN0.out).cell 1
    have z2 := (HB1.out.nwA HN0.out).cell 0
    have z3 := (HB1.out.nwA HN0.out).cell 1
    have z4 := HM.out.cell 0
    have z5 := HM.out.cell 1
    have b1 : (mx == px && my == py) = false := by
      cases g : (mx == px && my == py) with
      | false => rfl
      | true => simp only [Bool.and_eq_true, beq_iff_eq] at g; exact absurd (by rw [g.1, g.2]) hm1
    have b2 : (mx == qx && my == qy) = false := by
      cases g : (mx == qx && my == qy) with
      | false => rfl
      | true => simp only [Bool.and_eq_true, beq_iff_eq] at g; exact absurd (by rw [g.1, g.2]) hm2
    rw [b1] at x1
    rw [b2] at x2
    clear hm1 hm2 b1 b2
    go_upto_region 6 with fail
    clear z0 z1 z2 z3 z4 z5 x1 x2
    have HP := Lib.hid (show ∀ w', Nw wm w' → w'.cell? (⟨w.heap.size, 0, none⟩ : Addr) = some (.int .i64 px) ∧ w'.cell? (⟨w.heap.size, 1, none⟩ : Addr) = some (.int .i64 py) ∧ w'.cell? (⟨w.heap.size + 1, 0, none⟩ : Addr) = some (.int .i64 qx) ∧ w'.cell? (⟨w.heap.size + 1, 1, none⟩ : Addr) = some (.int .i64 qy) ∧ w'.cell? (⟨gm, 0, none⟩ : Addr) = some (.int .i64 mx) ∧ w'.cell? (⟨gm, 1, none⟩ : Addr) = some (.int .i64 my) from fun w' h => by
      have a := (HB0.out.nwA HN0.out).nwA h
      have b := (HB1.out.nwA HN0.out).nwA h
      have c := HM.out.nwA h
      exact ⟨a.cell 0, a.cell 1, b.cell 0, b.cell 1, c.cell 0, c.cell 1⟩)
    go_cut [8] from 27 to 40 (fun v8 wx => wx.ownsRow wm.heap.size 23 2 v8 (n1 + 1 + n2) (flat vC l ++ [.int .i64 mx, .int .i64 my] ++ flat vC m) ∧ Nw wm wx)
    case first =>
      go_wp2_with fail
      go_region_held3 (fun w' : World => w'.cell? (⟨w.heap.size, 0, none⟩ : Addr) = some (.int .i64 px) ∧ w'.cell? (⟨w.heap.size, 1, none⟩ : Addr) = some (.int .i64 py) ∧ w'.cell? (⟨w.heap.size + 1, 0, none⟩ : Addr) = some (.int .i64 qx) ∧ w'.cell? (⟨w.heap.size + 1, 1, none⟩ : Addr) = some (.int .i64 qy) ∧ w'.cell? (⟨gm, 0, none⟩ : Addr) = some (.int .i64 mx) ∧ w'.cell? (⟨gm, 1, none⟩ : Addr) = some (.int .i64 my))
        (first | ((refine HP.out _ ?_); (repeat (first | exact kk8 | exact kk7 | exact kk6 | exact kk5 | exact Kp.refl _ _ | refine Kp.alloc ?_ _ | refine Kp.drew ?_))) | fail)
        (first
          | (go_simp; go_at_call 42; ((with_reducible refine (i1 _).mono ?_); rintro e w5 ⟨v5, rfl, own5, hk5⟩; (obtain ⟨A5, c5, rfl⟩ := (own_src own5).shape); have kk5 : Nw wm w5 := Kp.tr (by repeat (first | exact Kp.refl _ _ | refine Kp.alloc ?_ _ | refine Kp.drew ?_)) hk5; have o5 := own_less own5 (show wm.heap.size ≤ _ by simp; try omega); (first | (have p33 := Blk.nwA (show Blk _ wm.heap.size 23 #[.int .i64 mx, .int .i64 my] from (by first | exact Blk.new _ _ _ | exact (Blk.new _ _ _).drew | exact Blk.new_at _ _ _ (by simp))) hk5) | skip)))
          | (go_simp; go_at_call 42; ((with_reducible refine (i2 _).mono ?_); rintro e w7 ⟨v7, rfl, own7, hk7⟩; (obtain ⟨A7, c7, rfl⟩ := (own_src own7).shape); have kk7 : Nw wm w7 := Kp.tr (by repeat (first | exact kk6 | exact Kp.refl _ _ | refine Kp.alloc ?_ _ | refine Kp.drew ?_)) hk7; have o6 := own_nw own6 hk7))
          | (refine step_appG (by rfl) (.tmp 31) (.tmp 33) 27 23 2 16 (.agg #[.int .i64 0, .int .i64 0]) (by rfl) Try.underlying27 infoA rfl (by omega) wm.heap.size n1 1 (.slice A5 n1 c5) (.slice (some ⟨wm.heap.size, 0, none⟩) 1 1) (flat vC l) [.int .i64 mx, .int .i64 my] (by rfl) (by first | exact o5 | exact own_nw o5 (nw_alloc _ _) | exact own_nw o5 ((nw_alloc _ _).drew)) (by rfl) (by exact src_one p33) (by intro u hu; simp at hu; rcases hu with rfl | rfl <;> rfl) (by omega) (by omega) (by have := kk5.size; simp; try omega) ?_; intro v6 w6 own6 gr6; have kk6 : Nw wm w6 := gr6.nw (by repeat (first | exact kk8 | exact kk7 | exact kk6 | exact kk5 | exact Kp.refl _ _ | refine Kp.alloc ?_ _ | refine Kp.drew ?_)) (own_from o5); (obtain ⟨A6, c6, rfl⟩ := (own_src own6).shape))
          | (refine step_appG (by rfl) (.tmp 31) (.tmp 33) 27 23 2 16 (.agg #[.int .i64 0, .int .i64 0]) (by rfl) Try.underlying27 infoA rfl (by omega) wm.heap.size n1 1 (.slice A5 n1 c5) (.slice (some ⟨w5.heap.size, 0, none⟩) 1 1) (flat vC l) [.int .i64 mx, .int .i64 my] (by rfl) (by first | exact o5 | exact own_nw o5 (nw_alloc _ _) | exact own_nw o5 ((nw_alloc _ _).drew)) (by rfl) (by exact src_one (Blk.new _ _ _)) (by intro u hu; simp at hu; rcases hu with rfl | rfl <;> rfl) (by omega) (by omega) (by have := kk5.size; simp; try omega) ?_; intro v6 w6 own6 gr6; have kk6 : Nw wm w6 := gr6.nw (by repeat (first | exact kk8 | exact kk7 | exact kk6 | exact kk5 | exact Kp.refl _ _ | refine Kp.alloc ?_ _ | refine Kp.drew ?_)) (own_from o5); (obtain ⟨A6, c6, rfl⟩ := (own_src own6).shape))
          | (refine step_appG (by rfl) (.tmp 34) (.tmp 39) 27 23 2 16 (.agg #[.int .i64 0, .int .i64 0]) (by rfl) Try.underlying27 infoA rfl (by omega) wm.heap.size (n1 + 1) n2 (.slice A6 (n1 + 1) c6) (.slice A7 n2 c7) (flat vC l ++ [.int .i64 mx, .int .i64 my]) (flat vC m) (by rfl) o6 (by rfl) (own_src own7) (flatV_one _) (by omega) (by omega) kk7.size ?_; intro v8 w8 own8 gr8; have kk8 : Nw wm w8 := gr8.nw kk7 (own_from o6)))
      all_goals (go_wp2_with fail; go_meet; case rel => exact ⟨own8, kk8⟩)
    case rest =>
      obtain ⟨ho, hk⟩ := hcut
      go_wp2_with fail
      go_ret
      refine ⟨_, rfl, ?_, HNM.out.tr hk⟩
      have h := own_less ho HNM.out.size
      unfold OwnA
      rw [List.length_append, List.length_cons, HN1'.out, HN2'.out, show n1 + (n2 + 1) = n1 + 1 + n2 by omega, flat_app, show flat vC ((mx, my) :: m) = [.int .i64 mx, .int .i64 my] ++ flat vC m from rfl, ← List.append_assoc]
      exact h

end Go.Proofs.Ytlogihcmmoldkaa.W
