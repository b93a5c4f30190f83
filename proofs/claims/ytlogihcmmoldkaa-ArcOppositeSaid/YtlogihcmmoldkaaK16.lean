/-
  arc: the chain of a counterclockwise arc, of the reference. Conditions: both points lie on the circle, the numbers are as in a valid arc.
-/
import Derived.Test.YtlogihcmmoldkaaK15
import Derived.Test.YtlogihcmmoldkaaK09
namespace Go.Proofs.Ytlogihcmmoldkaa.W
open Go.RowKit Go.Proofs.Ytlogihcmmoldkaa.V Go.Proofs.Ytlogihcmmoldkaa.A

/-- what an append has changed: its row, and new blocks -/
def Stq (w : World) (v : Value) (w' : World) (v' : Value) : Prop := Kp (fun k => v.ownBlock = some k) w w' ∧ ∀ k, k < w.heap.size → v'.ownBlock = some k → v.ownBlock = some k
theorem Stq.of_grew {w w' : World} {v v' : Value} (g : Grew w w' v v') : Stq w v w' v' := ⟨g.by_, fun k hk e => by
  rcases g.at_ with e2 | ⟨k2, e2, h2⟩
  · rw [← e2]; exact e
  · rw [e2] at e
    cases e
    omega⟩
theorem Stq.nw {w w1 w' : World} {v v' : Value} (h : Nw w w1) (g : Stq w1 v w' v') : Stq w v w' v' := ⟨(Nw.kp h).tr g.1, fun k hk e => g.2 k (Nat.lt_of_lt_of_le hk h.size) e⟩
theorem Stq.trans {w w1 w' : World} {v v1 v' : Value} (h : Stq w v w1 v1) (g : Stq w1 v1 w' v') : Stq w v w' v' :=
  ⟨h.1.trans g.1 fun i hi e => h.2 i hi e, fun k hk e => h.2 k hk (g.2 k (Nat.lt_of_lt_of_le hk h.1.size) e)⟩

set_option maxRecDepth 100000 in
set_option maxHeartbeats 25600000 in
theorem rchain_any {R t : Int} (hR : 0 < R) (hR2 : R ≤ 4000000) (ht : 1 ≤ t ∧ t ≤ 50) {px py qx qy : Int} {l : List Pt} (hp : nrm (px, py) = R) (hq : nrm (qx, qy) = R) (hch : Ch R t (px, py) (qx, qy) l) (w : World) :
    Calls Try.prog 30 #[vV px py, vV qx qy, .int .i64 t] w fun e w' => ∃ v, e = .returned v ∧ OwnA w' w.heap.size v ((px, py) :: l) ∧ Nw w w' := by
  have hmix := mixed7
  have sp : Sm2 (px, py) := dig_2000 hR2 (dig_own hp)
  have sq : Sm2 (qx, qy) := dig_2000 hR2 (dig_own hq)
  have hlen := ch_max hR hR2 hch hp hq
  have c1 := fun w1 => square_any px py R (by rw [(small_words sp sp).2]; exact hp) w1
  have HSQ := Lib.hid sq
  obtain ⟨W0, hW0⟩ : ∃ W, ((w.alloc (.cells #[.int .i64 px, .int .i64 py] 23)).alloc (.cells #[.int .i64 qx, .int .i64 qy] 23)) = W := ⟨_, rfl⟩
  have HW := Lib.hid (show Nw w W0 by rw [← hW0]; exact (nw_alloc _ _).alloc _)
  have HB0 := Lib.hid (show Blk W0 w.heap.size 23 #[.int .i64 px, .int .i64 py] by rw [← hW0]; exact (Blk.new_at w 23 #[.int .i64 px, .int .i64 py] (n := w.heap.size) (by simp)).alloc _)
  have HB1 := Lib.hid (show Blk W0 (w.heap.size + 1) 23 #[.int .i64 qx, .int .i64 qy] by rw [← hW0]; exact Blk.new_at _ 23 #[.int .i64 qx, .int .i64 qy] (n := w.heap.size + 1) (by simp))
  have m0 := HB0.out.cell 0
  have m1 := HB0.out.cell 1
  have q0 := fun p : KeptW W0 => (HB0.out.kept p).cell 0
  have q1 := fun p : KeptW W0 => (HB0.out.kept p).cell 1
  go_enter Try.func30, Try.ntmps30
  go_upto_region 1 with fail
  try rw [hW0]
  clear hW0
  go_upto_region 3 with (first | (go_at_call 33; ((with_reducible refine (Calls.kept_first (c1 _)).mono ?_); rintro e _ ⟨rfl, p, rfl⟩)) | fail)
  have HN1 := Lib.hid p.since
  generalize p.wd = wa at HN1 ⊢
  generalize hwm : World.alloc _ _ = w1
  obtain ⟨BB, hBB⟩ : ∃ x, wa.heap.size = x := ⟨_, rfl⟩
  have HN0 := Lib.hid (show Nw W0 w1 by rw [← hwm]; exact HN1.out.tr (nw_alloc _ _))
  have HG := Lib.hid (show w.heap.size + 1 < BB by rw [← hBB]; exact Nat.lt_of_lt_of_le HB1.out.lt HN1.out.size)
  have HOW := Lib.hid (show OwnA w1 BB (.slice (some ⟨BB, 0, none⟩) 1 1) [(px, py)] by rw [← hwm, ← hBB]; exact own_one wa px py (Nat.le_refl _))
  try rw [hBB]
  clear hwm hBB m0 m1 q0 q1 c1 HN1
  go_loopw [8] (fun ov wr => ∃ (ux uy : Int) (base l' : List Pt), Blk wr w.heap.size 23 #[.int .i64 ux, .int .i64 uy] ∧ Blk wr (w.heap.size + 1) 23 #[.int .i64 qx, .int .i64 qy] ∧ OwnA wr BB ov base ∧ BB ≤ wr.heap.size ∧ nrm (ux, uy) = R ∧ Ch R t (ux, uy) (qx, qy) l' ∧ base ++ l' = (px, py) :: l ∧ Nw w wr) (fun ov wr => rankW w.heap.size (qx, qy) wr)
  case atStart => exact ⟨px, py, [(px, py)], l, HB0.out.nwA HN0.out, HB1.out.nwA HN0.out, HOW.out, Nat.le_of_lt (World.ownsRow.lt HOW.out BB rfl).2, hp, hch, rfl, HW.out.tr HN0.out⟩
  case round =>
    obtain ⟨ux, uy, base, l', hbp, hbq, hown, hbb, hn, hc, hl, hnw⟩ := hrel
    obtain ⟨Av, cv, rfl⟩ := (own_src hown).shape
    obtain ⟨n0, hn0⟩ : ∃ n, base.length = n := ⟨_, rfl⟩
    obtain ⟨ov, hov⟩ : ∃ v, (Value.slice Av base.length cv) = v := ⟨_, rfl⟩
    rw [hov] at hown
    try rw [hov]
    have HBP := Lib.hid hbp
    have HBQ := Lib.hid hbq
    have HO := Lib.hid (show wr.ownsRow BB 23 2 ov n0 (flat vC base) from hn0 ▸ hown)
    have HBB := Lib.hid hbb
    have HNN := Lib.hid hn
    have HL := Lib.hid hl
    have HNW := Lib.hid hnw
    have HN0' := Lib.hid hn0
    have su : Sm2 (ux, uy) := dig_2000 hR2 (dig_own hn)
    have HSU := Lib.hid su
    have c2 := fun w1 => rcross_any ux uy qx qy w1
    have c3 := fun w1 => rdot_any ux uy qx qy w1
    rw [(small_words su HSQ.out).1] at c2
    rw [(small_words su HSQ.out).2] at c3
    have hll : n0 + l'.length = l.length + 1 := by rw [← hn0, ← List.length_append, hl, List.length_cons]
    have z0 := hbp.cell 0
    have z1 := hbp.cell 1
    have z2 := hbq.cell 0
    have z3 := hbq.cell 1
    have q0 := fun p : KeptW wr => (HBP.out.kept p).cell 0
    have q1 := fun p : KeptW wr => (HBP.out.kept p).cell 1
    have q2 := fun p : KeptW wr => (HBQ.out.kept p).cell 0
    have q3 := fun p : KeptW wr => (HBQ.out.kept p).cell 1
    clear hbp hbq hown hbb hl hnw su hch hov hn0
    have hqt0 : qtr (ux, uy) (qx, qy) = !(decide (crs0 (ux, uy) (qx, qy) ≤ 0) || decide (dot0 (ux, uy) (qx, qy) < 0)) := by
      unfold qtr
      rw [Bool.eq_iff_iff]
      simp
    obtain ⟨b1, hb1⟩ : ∃ b, decide (crs0 (ux, uy) (qx, qy) ≤ 0) = b := ⟨_, rfl⟩
    obtain ⟨b2, hb2⟩ : ∃ b, decide (dot0 (ux, uy) (qx, qy) < 0) = b := ⟨_, rfl⟩
    rw [hb1, hb2] at hqt0
    go_upto_region 3 with fail
    go_cut [23] from 14 to 23 (fun v wx => v = .bool (b1 || b2) ∧ Nw wr wx)
    case first =>
      cases b1 <;> (go_wp2_with (first | (go_at_call 23; ((with_reducible refine (Calls.kept_first (c2 _)).mono ?_); rintro e _ ⟨rfl, p, rfl⟩)) | (go_at_call 21; ((with_reducible refine (Calls.kept_of (c3 _)).mono ?_); rintro e _ ⟨rfl, p, rfl⟩)) | fail); go_meet; case rel => exact ⟨by first | rfl | simp [hb1, hb2], p.since⟩)
    case rest =>
    obtain ⟨rfl, hk3⟩ := hcut
    have HK3 := Lib.hid hk3
    have hbb2 : (b1 || b2) = !(qtr (ux, uy) (qx, qy)) := by rw [hqt0, Bool.not_not]
    try rw [hbb2]
    clear hbb2 hqt0 hb1 hb2 z0 z1 z2 z3 q0 q1 q2 q3 c2 c3 hk3
    cases hqt : qtr (ux, uy) (qx, qy) with
    | true =>
      obtain ⟨l1, rfl, hbt⟩ := ch_true hqt hc
      obtain ⟨n1, hn1⟩ : ∃ n, l1.length = n := ⟨_, rfl⟩
      have i1 := fun w1 => rbetween_any hR hR2 ht hbt (arcs_own hR hn hq hqt) w1
      unfold OwnA at i1
      rw [hn1] at i1
      simp only at i1
      rw [List.length_append, List.length_cons, List.length_nil, hn1] at hll
      have HN1' := Lib.hid hn1
      clear hqt hc hbt hn hn1
      obtain ⟨wm, hwm⟩ : ∃ x, x = wc := ⟨_, rfl⟩
      rw [← hwm] at HK3 ⊢
      clear hwm
      have HBPm := Lib.hid (HBP.out.nwA HK3.out)
      have HBQm := Lib.hid (HBQ.out.nwA HK3.out)
      have HO := Lib.hid (own_nw HO.out HK3.out)
      have HBB := Lib.hid (Nat.le_trans HBB.out HK3.out.size)
      have HP := Lib.hid (show ∀ w', Kp (fun k => ov.ownBlock = some k) wm w' → w'.cell? (⟨w.heap.size, 0, none⟩ : Addr) = some (.int .i64 ux) ∧ w'.cell? (⟨w.heap.size, 1, none⟩ : Addr) = some (.int .i64 uy) ∧ w'.cell? (⟨w.heap.size + 1, 0, none⟩ : Addr) = some (.int .i64 qx) ∧ w'.cell? (⟨w.heap.size + 1, 1, none⟩ : Addr) = some (.int .i64 qy) from fun w' h => by
        have a := HBPm.out.kp h (fun e => by have := (World.ownsRow.lt HO.out _ e).1; have := HG.out; omega)
        have b := HBQm.out.kp h (fun e => by have := (World.ownsRow.lt HO.out _ e).1; have := HG.out; omega)
        exact ⟨a.cell 0, a.cell 1, b.cell 0, b.cell 1⟩)
      go_upto_region 7 with fail
      go_cut [6] from 41 to 50 (fun v6 wx => wx.ownsRow BB 23 2 v6 (n0 + n1 + 1) (flat vC base ++ flat vC l1 ++ [.int .i64 qx, .int .i64 qy]) ∧ Stq wm ov wx v6)
      case first =>
        go_wp2_with fail
        go_region_held3 (fun w' : World => w'.cell? (⟨w.heap.size, 0, none⟩ : Addr) = some (.int .i64 ux) ∧ w'.cell? (⟨w.heap.size, 1, none⟩ : Addr) = some (.int .i64 uy) ∧ w'.cell? (⟨w.heap.size + 1, 0, none⟩ : Addr) = some (.int .i64 qx) ∧ w'.cell? (⟨w.heap.size + 1, 1, none⟩ : Addr) = some (.int .i64 qy))
          (first | ((refine HP.out _ ?_); (repeat (first | exact kk7 | exact kk6 | exact kk5 | exact Kp.refl _ _ | refine Kp.alloc ?_ _ | refine Kp.drew ?_))) | fail)
          (first
            | (go_simp; go_at_call 42; ((with_reducible refine (i1 _).mono ?_); rintro e w5 ⟨v5, rfl, own5, hk5⟩; (obtain ⟨A5, c5, rfl⟩ := (own_src own5).shape); have nn5 : Nw wm w5 := Kp.tr (by repeat (first | exact Kp.refl _ _ | refine Kp.alloc ?_ _ | refine Kp.drew ?_)) hk5; have kk5 : Kp (fun k => ov.ownBlock = some k) wm w5 := Nw.kp nn5; (first | (have p38 := Blk.nwA (show Blk _ wm.heap.size 23 #[.int .i64 qx, .int .i64 qy] from (by first | exact Blk.new _ _ _ | exact (Blk.new _ _ _).drew | exact Blk.new_at _ _ _ (by simp))) hk5) | skip)))
            | (refine step_appG (by rfl) (.tmp 41) (.tmp 46) 27 23 2 16 (.agg #[.int .i64 0, .int .i64 0]) (by rfl) Try.underlying27 infoA rfl (by omega) BB n0 n1 ov (.slice A5 n1 c5) (flat vC base) (flat vC l1) (by rfl) (own_nw HO.out (by repeat (first | exact nn5 | exact Kp.refl _ _ | refine Kp.alloc ?_ _ | refine Kp.drew ?_))) (by rfl) (by first | exact own_src own5 | exact own_src (own_nw own5 (nw_alloc _ _)) | exact own_src (own_nw own5 ((nw_alloc _ _).drew))) (flatV_one _) (by omega) (by omega) (by have := nn5.size; have := HBB.out; simp; try omega) ?_; intro v6 w6 own6 gr6; have ss6 : Stq wm ov w6 v6 := Stq.nw (by repeat (first | exact nn5 | exact Kp.refl _ _ | refine Kp.alloc ?_ _ | refine Kp.drew ?_)) (Stq.of_grew gr6); have kk6 := ss6.1; (first | (have q38 := p38.kp gr6.by_ (fun e => by have := (World.ownsRow.lt HO.out _ e).2; omega)) | (have q38 := (show Blk _ w5.heap.size 23 #[.int .i64 qx, .int .i64 qy] from (by first | exact Blk.new _ _ _ | exact (Blk.new _ _ _).drew)).kp gr6.by_ (fun e => by have := (World.ownsRow.lt HO.out _ e).2; have := nn5.size; omega)) | skip); (obtain ⟨A6, c6, rfl⟩ := (own_src own6).shape))
            | (refine step_appG (by rfl) (.tmp 47) (.tmp 49) 27 23 2 16 (.agg #[.int .i64 0, .int .i64 0]) (by rfl) Try.underlying27 infoA rfl (by omega) BB (n0 + n1) 1 (.slice A6 (n0 + n1) c6) (.slice (some ⟨wm.heap.size, 0, none⟩) 1 1) (flat vC base ++ flat vC l1) [.int .i64 qx, .int .i64 qy] (by rfl) (by first | exact own6 | exact own_nw own6 (nw_alloc _ _) | exact own_nw own6 ((nw_alloc _ _).drew)) (by rfl) (by exact src_one q38) (by intro u hu; simp at hu; rcases hu with rfl | rfl <;> rfl) (by omega) (by omega) (by have := kk6.size; have := HBB.out; simp; try omega) ?_; intro v7 w7 own7 gr7; have ss7 : Stq wm ov w7 v7 := ss6.trans (Stq.nw (by repeat (first | exact Kp.refl _ _ | refine Kp.alloc ?_ _ | refine Kp.drew ?_)) (Stq.of_grew gr7)); have kk7 := ss7.1)
            | (refine step_appG (by rfl) (.tmp 47) (.tmp 49) 27 23 2 16 (.agg #[.int .i64 0, .int .i64 0]) (by rfl) Try.underlying27 infoA rfl (by omega) BB (n0 + n1) 1 (.slice A6 (n0 + n1) c6) (.slice (some ⟨w5.heap.size, 0, none⟩) 1 1) (flat vC base ++ flat vC l1) [.int .i64 qx, .int .i64 qy] (by rfl) (by first | exact own6 | exact own_nw own6 (nw_alloc _ _) | exact own_nw own6 ((nw_alloc _ _).drew)) (by rfl) (by exact src_one q38) (by intro u hu; simp at hu; rcases hu with rfl | rfl <;> rfl) (by omega) (by omega) (by have := kk6.size; have := HBB.out; simp; try omega) ?_; intro v7 w7 own7 gr7; have ss7 : Stq wm ov w7 v7 := ss6.trans (Stq.nw (by repeat (first | exact Kp.refl _ _ | refine Kp.alloc ?_ _ | refine Kp.drew ?_)) (Stq.of_grew gr7)); have kk7 := ss7.1)
            | (refine step_appG (by rfl) (.tmp 47) (.tmp 49) 27 23 2 16 (.agg #[.int .i64 0, .int .i64 0]) (by rfl) Try.underlying27 infoA rfl (by omega) BB (n0 + n1) 1 (.slice A6 (n0 + n1) c6) (.slice (some ⟨w6.heap.size, 0, none⟩) 1 1) (flat vC base ++ flat vC l1) [.int .i64 qx, .int .i64 qy] (by rfl) (by first | exact own6 | exact own_nw own6 (nw_alloc _ _) | exact own_nw own6 ((nw_alloc _ _).drew)) (by rfl) (by exact src_one (Blk.new _ _ _)) (by intro u hu; simp at hu; rcases hu with rfl | rfl <;> rfl) (by omega) (by omega) (by have := kk6.size; have := HBB.out; simp; try omega) ?_; intro v7 w7 own7 gr7; have ss7 : Stq wm ov w7 v7 := ss6.trans (Stq.nw (by repeat (first | exact Kp.refl _ _ | refine Kp.alloc ?_ _ | refine Kp.drew ?_)) (Stq.of_grew gr7)); have kk7 := ss7.1))
        all_goals (go_wp2_with fail; go_meet; case rel => exact ⟨own7, ss7⟩)
      case rest =>
        obtain ⟨ho, hs⟩ := hcut
        go_wp2_with fail
        go_ret
        refine ⟨_, rfl, ?_, Kp.own (HNW.out.tr HK3.out) hs.1 (fun k e => by have := (World.ownsRow.lt HO.out _ e).1; have := HG.out; omega)⟩
        have h := own_less ho (show w.heap.size ≤ BB by have := HG.out; omega)
        unfold OwnA
        rw [← HL.out, ← List.append_assoc, List.length_append, List.length_append, HN0'.out, HN1'.out, flat_app, flat_app]
        exact h
    | false =>
      obtain ⟨l1, l2, rfl, hbt, hc2⟩ := ch_false hqt hc
      obtain ⟨n1, hn1⟩ : ∃ n, l1.length = n := ⟨_, rfl⟩
      have HRK := Lib.hid (rank_step hR hn hq hqt)
      have HC2 := Lib.hid hc2
      have hu2 := HSU.out
      have e1 : wrap64 (-uy) = -uy := w64_id ⟨by have := hu2.2; omega, by have := hu2.2; omega⟩
      have i1 := fun w1 => rbetween_any hR hR2 ht hbt (arcs_own hR hn (by rw [lft_nrm]; exact hn) (qtr_lft hR hn)) w1
      unfold OwnA at i1
      rw [hn1] at i1
      simp only [lft] at i1
      rw [List.length_append, List.length_cons, hn1] at hll
      have HN1' := Lib.hid hn1
      clear hqt hc hbt hn hu2 hc2 hn1
      have z0 := (HBP.out.nwA HK3.out).cell 0
      have z1 := (HBP.out.nwA HK3.out).cell 1
      go_upto_region 5 with fail
      generalize hwm : World.alloc _ _ = wm
      obtain ⟨gm, hgm⟩ : ∃ x, wc.heap.size = x := ⟨_, rfl⟩
      have HM := Lib.hid (show Blk wm gm 23 #[.int .i64 (-uy), .int .i64 ux] by rw [← hwm, ← hgm]; exact Blk.new _ _ _)
      have HK4 := Lib.hid (show Nw wr wm by rw [← hwm]; exact HK3.out.tr (nw_alloc _ _))
      have HGM := Lib.hid (show wr.heap.size ≤ gm by rw [← hgm]; exact HK3.out.size)
      try rw [hgm]
      clear hwm hgm z0 z1 e1
      have HBPm := Lib.hid (HBP.out.nwA HK4.out)
      have HBQm := Lib.hid (HBQ.out.nwA HK4.out)
      have HGN := Lib.hid (show ∀ k, ov.ownBlock = some k → BB ≤ k ∧ k < gm from fun k e => by have := World.ownsRow.lt HO.out _ e; have := HGM.out; omega)
      have HO := Lib.hid (own_nw HO.out HK4.out)
      have HBB := Lib.hid (Nat.le_trans HBB.out HK4.out.size)
      have HP := Lib.hid (show ∀ w', Kp (fun k => ov.ownBlock = some k) wm w' → w'.cell? (⟨w.heap.size, 0, none⟩ : Addr) = some (.int .i64 ux) ∧ w'.cell? (⟨w.heap.size, 1, none⟩ : Addr) = some (.int .i64 uy) ∧ w'.cell? (⟨gm, 0, none⟩ : Addr) = some (.int .i64 (-uy)) ∧ w'.cell? (⟨gm, 1, none⟩ : Addr) = some (.int .i64 ux) from fun w' h => by
        have a := HBPm.out.kp h (fun e => by have := (HGN.out _ e).1; have := HG.out; omega)
        have b := HM.out.kp h (fun e => by have := (HGN.out _ e).2; omega)
        exact ⟨a.cell 0, a.cell 1, b.cell 0, b.cell 1⟩)
      go_cut [8] from 30 to 39 (fun v6 wx => wx.ownsRow BB 23 2 v6 (n0 + n1 + 1) (flat vC base ++ flat vC l1 ++ [.int .i64 (-uy), .int .i64 ux]) ∧ Stq wm ov wx v6)
      case first =>
        go_wp2_with fail
        go_region_held3 (fun w' : World => w'.cell? (⟨w.heap.size, 0, none⟩ : Addr) = some (.int .i64 ux) ∧ w'.cell? (⟨w.heap.size, 1, none⟩ : Addr) = some (.int .i64 uy) ∧ w'.cell? (⟨gm, 0, none⟩ : Addr) = some (.int .i64 (-uy)) ∧ w'.cell? (⟨gm, 1, none⟩ : Addr) = some (.int .i64 ux))
          (first | ((refine HP.out _ ?_); (repeat (first | exact kk7 | exact kk6 | exact kk5 | exact Kp.refl _ _ | refine Kp.alloc ?_ _ | refine Kp.drew ?_))) | fail)
          (first
            | (go_simp; go_at_call 42; ((with_reducible refine (i1 _).mono ?_); rintro e w5 ⟨v5, rfl, own5, hk5⟩; (obtain ⟨A5, c5, rfl⟩ := (own_src own5).shape); have nn5 : Nw wm w5 := Kp.tr (by repeat (first | exact Kp.refl _ _ | refine Kp.alloc ?_ _ | refine Kp.drew ?_)) hk5; have kk5 : Kp (fun k => ov.ownBlock = some k) wm w5 := Nw.kp nn5; (first | (have p38 := Blk.nwA (show Blk _ wm.heap.size 23 #[.int .i64 (-uy), .int .i64 ux] from (by first | exact Blk.new _ _ _ | exact (Blk.new _ _ _).drew | exact Blk.new_at _ _ _ (by simp))) hk5) | skip)))
            | (refine step_appG (by rfl) (.tmp 30) (.tmp 35) 27 23 2 16 (.agg #[.int .i64 0, .int .i64 0]) (by rfl) Try.underlying27 infoA rfl (by omega) BB n0 n1 ov (.slice A5 n1 c5) (flat vC base) (flat vC l1) (by rfl) (own_nw HO.out (by repeat (first | exact nn5 | exact Kp.refl _ _ | refine Kp.alloc ?_ _ | refine Kp.drew ?_))) (by rfl) (by first | exact own_src own5 | exact own_src (own_nw own5 (nw_alloc _ _)) | exact own_src (own_nw own5 ((nw_alloc _ _).drew))) (flatV_one _) (by omega) (by omega) (by have := nn5.size; have := HBB.out; simp; try omega) ?_; intro v6 w6 own6 gr6; have ss6 : Stq wm ov w6 v6 := Stq.nw (by repeat (first | exact nn5 | exact Kp.refl _ _ | refine Kp.alloc ?_ _ | refine Kp.drew ?_)) (Stq.of_grew gr6); have kk6 := ss6.1; (first | (have q38 := p38.kp gr6.by_ (fun e => by have := (World.ownsRow.lt HO.out _ e).2; omega)) | (have q38 := (show Blk _ w5.heap.size 23 #[.int .i64 (-uy), .int .i64 ux] from (by first | exact Blk.new _ _ _ | exact (Blk.new _ _ _).drew)).kp gr6.by_ (fun e => by have := (World.ownsRow.lt HO.out _ e).2; have := nn5.size; omega)) | skip); (obtain ⟨A6, c6, rfl⟩ := (own_src own6).shape))
            | (refine step_appG (by rfl) (.tmp 36) (.tmp 38) 27 23 2 16 (.agg #[.int .i64 0, .int .i64 0]) (by rfl) Try.underlying27 infoA rfl (by omega) BB (n0 + n1) 1 (.slice A6 (n0 + n1) c6) (.slice (some ⟨wm.heap.size, 0, none⟩) 1 1) (flat vC base ++ flat vC l1) [.int .i64 (-uy), .int .i64 ux] (by rfl) (by first | exact own6 | exact own_nw own6 (nw_alloc _ _) | exact own_nw own6 ((nw_alloc _ _).drew)) (by rfl) (by exact src_one q38) (by intro u hu; simp at hu; rcases hu with rfl | rfl <;> rfl) (by omega) (by omega) (by have := kk6.size; have := HBB.out; simp; try omega) ?_; intro v7 w7 own7 gr7; have ss7 : Stq wm ov w7 v7 := ss6.trans (Stq.nw (by repeat (first | exact Kp.refl _ _ | refine Kp.alloc ?_ _ | refine Kp.drew ?_)) (Stq.of_grew gr7)); have kk7 := ss7.1)
            | (refine step_appG (by rfl) (.tmp 36) (.tmp 38) 27 23 2 16 (.agg #[.int .i64 0, .int .i64 0]) (by rfl) Try.underlying27 infoA rfl (by omega) BB (n0 + n1) 1 (.slice A6 (n0 + n1) c6) (.slice (some ⟨w5.heap.size, 0, none⟩) 1 1) (flat vC base ++ flat vC l1) [.int .i64 (-uy), .int .i64 ux] (by rfl) (by first | exact own6 | exact own_nw own6 (nw_alloc _ _) | exact own_nw own6 ((nw_alloc _ _).drew)) (by rfl) (by exact src_one q38) (by intro u hu; simp at hu; rcases hu with rfl | rfl <;> rfl) (by omega) (by omega) (by have := kk6.size; have := HBB.out; simp; try omega) ?_; intro v7 w7 own7 gr7; have ss7 : Stq wm ov w7 v7 := ss6.trans (Stq.nw (by repeat (first | exact Kp.refl _ _ | refine Kp.alloc ?_ _ | refine Kp.drew ?_)) (Stq.of_grew gr7)); have kk7 := ss7.1)
            | (refine step_appG (by rfl) (.tmp 36) (.tmp 38) 27 23 2 16 (.agg #[.int .i64 0, .int .i64 0]) (by rfl) Try.underlying27 infoA rfl (by omega) BB (n0 + n1) 1 (.slice A6 (n0 + n1) c6) (.slice (some ⟨w6.heap.size, 0, none⟩) 1 1) (flat vC base ++ flat vC l1) [.int .i64 (-uy), .int .i64 ux] (by rfl) (by first | exact own6 | exact own_nw own6 (nw_alloc _ _) | exact own_nw own6 ((nw_alloc _ _).drew)) (by rfl) (by exact src_one (Blk.new _ _ _)) (by intro u hu; simp at hu; rcases hu with rfl | rfl <;> rfl) (by omega) (by omega) (by have := kk6.size; have := HBB.out; simp; try omega) ?_; intro v7 w7 own7 gr7; have ss7 : Stq wm ov w7 v7 := ss6.trans (Stq.nw (by repeat (first | exact Kp.refl _ _ | refine Kp.alloc ?_ _ | refine Kp.drew ?_)) (Stq.of_grew gr7)); have kk7 := ss7.1))
        all_goals (go_wp2_with fail; go_meet; case rel => exact ⟨own7, ss7⟩)
      case rest =>
        obtain ⟨ho, hs⟩ := hcut
        have HO7 := Lib.hid ho
        have HS7 := Lib.hid hs
        have HM7 := Lib.hid (HM.out.kp hs.1 (fun e => by have := (HGN.out _ e).2; omega))
        have HP7 := Lib.hid (HBPm.out.kp hs.1 (fun e => by have := (HGN.out _ e).1; have := HG.out; omega))
        have HQ7 := Lib.hid (HBQm.out.kp hs.1 (fun e => by have := (HGN.out _ e).1; have := HG.out; omega))
        have z0 := HM7.out.cell 0
        have z1 := HM7.out.cell 1
        obtain ⟨y0, y1, y2, y3⟩ := HP7.out.two
        clear ho hs
        go_wp2_with fail
        go_roundw
        case rel =>
          have g := HG.out
          have hsz : BB ≤ wc.heap.size := Nat.le_trans HBB.out HS7.out.1.size
          refine ⟨-uy, ux, (base ++ l1) ++ [(-uy, ux)], l2, HP7.out.lay2 _ _, HQ7.out.farA (by omega) _ _, ?_, Nat.le_trans hsz (kp_two _ _ _ _).size, by have := lft_nrm (ux, uy); rw [HNN.out] at this; exact this, HC2.out, by have := HL.out; simpa [lft] using this, (Kp.own (HNW.out.tr HK4.out) HS7.out.1 (fun k e => by have := (HGN.out _ e).1; omega)).newA (Nat.le_refl _) _ _⟩
          have conv : ∀ v, wc.ownsRow BB 23 2 v (n0 + n1 + 1) (flat vC base ++ flat vC l1 ++ [.int .i64 (-uy), .int .i64 ux]) → OwnA wc BB v ((base ++ l1) ++ [(-uy, ux)]) := fun v h => by
            unfold OwnA
            rw [List.length_append, List.length_append, HN0'.out, HN1'.out, flat_app, flat_app]
            exact h
          have ho7 := conv _ HO7.out
          exact own_kp ho7 (kp_two _ _ _ _) (fun k e e2 => by have h1 := (World.ownsRow.lt ho7 _ e).1; have e3 : k = w.heap.size := e2; omega)
        case measure =>
          rw [rankW_eq HBP.out, rankW_eq (HP7.out.lay2 _ _), HRK.out]
          exact Nat.lt_succ_self _

end Go.Proofs.Ytlogihcmmoldkaa.W
