/-
  arc: the chain of a counterclockwise arc around (0, 0). Conditions: both points lie on the circle, the numbers are as in a valid arc.
  ring, plain: lists of points by index, turns, areas, edges; no program. No condition.
  ring: a list of vectors in memory, its elements by index; remainders by a length. No condition.
  vec, plain: a list in ascending order, each vector once: sorted and then rid of equal neighbours, or inserted one by one; no program. No condition.
  vec, plain: a list that is rid of equal neighbours from its end; no program. No condition.
  vec: Compact of any list in a row that the call may turn: it returns the list rid of equal neighbours. Condition: the list is not longer than a slice may be.
-/
import Derived.Test.YtlogihcmmoldkaaK08
import Derived.Test.YtlogihcmmoldkaaK05
import Derived.Test.YtlogihcmmoldkaaK07
import Derived.Lib.SliceRun
namespace Go.Proofs.Ytlogihcmmoldkaa.W
open Go.RowKit Go.Proofs.Ytlogihcmmoldkaa.V Go.Proofs.Ytlogihcmmoldkaa.A

section
variable {R t : Int} {gr gt gf gc B : Nat} {w w' : World} {rv : Value} {base : List (Int × Int)}
theorem CA.kp {S : Nat → Prop} (h : CA R t gr gt gf gc B w rv base) (hk : Kp S w w') (h1 : ¬ S gr) (h2 : ¬ S gt) (h3 : ¬ S gf) (h4 : ¬ S gc) (h5 : ∀ k, rv.ownBlock = some k → ¬ S k) : CA R t gr gt gf gc B w' rv base :=
  ⟨h.r.kp hk h1, h.t.kp hk h2, h.f.kp hk h3, h.c.kp hk h4, own_kp h.own hk h5, Nat.lt_of_lt_of_le h.lr hk.size, Nat.lt_of_lt_of_le h.lt hk.size, Nat.lt_of_lt_of_le h.lf hk.size, Nat.lt_of_lt_of_le h.lc hk.size, Nat.le_trans h.lb hk.size, h.off, h.nr, h.nt, h.nf⟩
end
/-- the quarters that the point in a box is away from another one -/
def rankW (g : Nat) (q : Pt) (w : World) : Nat := match w.cell? ⟨g, 0, none⟩, w.cell? ⟨g, 1, none⟩ with
  | some (.int _ x), some (.int _ y) => rank (x, y) q
  | _, _ => 0
theorem rankW_eq {g : Nat} {q : Pt} {w : World} {x y : Int} (h : Blk w g 23 #[.int .i64 x, .int .i64 y]) : rankW g q w = rank (x, y) q := by
  unfold rankW
  rw [h.cell 0, h.cell 1]
  rfl
theorem own_one (w : World) (x y : Int) {B : Nat} (hB : B ≤ w.heap.size) : OwnA (w.alloc (.cells #[.int .i64 x, .int .i64 y] 23)) B (.slice (some ⟨w.heap.size, 0, none⟩) 1 1) [(x, y)] := World.ownsRow_lit w #[.int .i64 x, .int .i64 y] 1 hB (by decide) rfl
theorem own_sl {g n c k : Nat} (e : (Value.slice (some ⟨g, 0, none⟩) n c).ownBlock = some k) : g = k := by cases e; rfl
theorem ch_true {R t : Int} {p q : Pt} {l : List Pt} (h : qtr p q = true) (g : Ch R t p q l) : ∃ l1, l = l1 ++ [q] ∧ Bt R t p q l1 := by
  cases g with
  | last _ k => exact ⟨_, rfl, k⟩
  | more a => rw [h] at a; cases a
theorem ch_false {R t : Int} {p q : Pt} {l : List Pt} (h : qtr p q = false) (g : Ch R t p q l) : ∃ l1 m, l = l1 ++ lft p :: m ∧ Bt R t p (lft p) l1 ∧ Ch R t (lft p) q m := by
  cases g with
  | last a => rw [h] at a; cases a
  | more _ k g => exact ⟨_, _, rfl, k, g⟩

set_option maxRecDepth 100000 in
set_option maxHeartbeats 12800000 in
theorem counter_any {R t : Int} (hR : 0 < R) (hR2 : R ≤ 4000000) (ht : 1 ≤ t ∧ t ≤ 50) {px py qx qy : Int} {l : List Pt} (hp : nrm (px, py) = R) (hq : nrm (qx, qy) = R) (hch : Ch R t (px, py) (qx, qy) l) (w : World) :
    Calls Try.prog 27 #[vV px py, vV qx qy, .int .i64 t] w fun e w' => ∃ v, e = .returned v ∧ OwnA w' w.heap.size v ((px, py) :: l) ∧ Nw w w' := by
  have hmix := mixed7
  have sp : Sm2 (px, py) := dig_2000 hR2 (dig_own hp)
  have sq : Sm2 (qx, qy) := dig_2000 hR2 (dig_own hq)
  have hlen := ch_max hR hR2 hch hp hq
  have c1 := fun w1 => dot_any px py px py w1
  rw [(small_words sp sp).2, show dot0 (px, py) (px, py) = R from hp] at c1
  have HSQ := Lib.hid sq
  obtain ⟨W0, hW0⟩ : ∃ W, (((w.alloc (.cells #[.int .i64 px, .int .i64 py] 23)).alloc (.cells #[.int .i64 qx, .int .i64 qy] 23)).alloc (.cells #[.int .i64 t] 3)) = W := ⟨_, rfl⟩
  have HW := Lib.hid (show Nw w W0 by rw [← hW0]; exact ((nw_alloc _ _).alloc _).alloc _)
  have HB0 := Lib.hid (show Blk W0 w.heap.size 23 #[.int .i64 px, .int .i64 py] by rw [← hW0]; exact ((Blk.new_at w 23 #[.int .i64 px, .int .i64 py] (n := w.heap.size) (by simp)).alloc _).alloc _)
  have HB1 := Lib.hid (show Blk W0 (w.heap.size + 1) 23 #[.int .i64 qx, .int .i64 qy] by rw [← hW0]; exact (Blk.new_at _ 23 #[.int .i64 qx, .int .i64 qy] (n := w.heap.size + 1) (by simp)).alloc _)
  have HB2 := Lib.hid (show Blk W0 (w.heap.size + 1 + 1) 3 #[.int .i64 t] by rw [← hW0]; exact Blk.new_at _ 3 #[.int .i64 t] (n := w.heap.size + 1 + 1) (by simp))
  have m0 := HB0.out.cell 0
  have m1 := HB0.out.cell 1
  go_enter Try.func27, Try.ntmps27
  go_upto_region 1 with fail
  try rw [hW0]
  clear hW0
  go_upto_region 2 with (first | (go_at_call 32; ((with_reducible refine (Calls.kept_first (c1 _)).mono ?_); rintro e _ ⟨rfl, p, rfl⟩)) | fail)
  have HN1 := Lib.hid p.since
  generalize p.wd = wa at HN1 ⊢
  generalize hwm : World.alloc _ _ = w1
  obtain ⟨gr, hgr⟩ : ∃ x, wa.heap.size = x := ⟨_, rfl⟩
  have HBR := Lib.hid (show Blk w1 gr 3 #[.int .i64 R] by rw [← hwm, ← hgr]; exact Blk.new _ _ _)
  have HN0 := Lib.hid (show Nw W0 w1 by rw [← hwm]; exact HN1.out.tr (nw_alloc _ _))
  have HGR := Lib.hid (show w.heap.size + 1 + 1 < gr by rw [← hgr]; exact Nat.lt_of_lt_of_le HB2.out.lt HN1.out.size)
  try rw [hgr]
  clear hwm hgr m0 m1 c1 HN1
  have z0 := (HB0.out.nwA HN0.out).cell 0
  have z1 := (HB0.out.nwA HN0.out).cell 1
  go_upto_region 4 with fail
  clear z0 z1
  generalize hw2 : World.alloc _ (.cells #[.nilFunc] 52) = w2
  obtain ⟨ga, hga⟩ : ∃ x, w1.heap.size = x := ⟨_, rfl⟩
  have HK2 := Lib.hid (show Nw w1 w2 by rw [← hw2]; exact ((nw_alloc _ _).alloc _).alloc _)
  have HCH := Lib.hid (show Blk w2 (ga + 1) 27 #[.slice (some ⟨ga, 0, none⟩) 1 1] by rw [← hw2, ← hga]; exact (Blk.new_at _ 27 #[.slice (some ⟨w1.heap.size, 0, none⟩) 1 1] (n := w1.heap.size + 1) (by simp)).alloc _)
  have HFN := Lib.hid (show Blk w2 (ga + 1 + 1) 52 #[.nilFunc] by rw [← hw2, ← hga]; exact Blk.new_at _ 52 #[.nilFunc] (n := w1.heap.size + 1 + 1) (by simp))
  have HOW := Lib.hid (show OwnA w2 w.heap.size (.slice (some ⟨ga, 0, none⟩) 1 1) [(px, py)] by
    rw [← hw2, ← hga]
    exact own_nw (own_one w1 px py (Nat.le_trans HW.out.size HN0.out.size)) ((nw_alloc _ _).alloc _))
  have HGA := Lib.hid (show gr < ga by rw [← hga]; exact HBR.out.lt)
  try rw [hga]
  clear hw2 hga
  have y0 := HFN.out.cell 0
  have y1 := HFN.out.frozen 0
  have hst := fun (W : World) (a : Addr) (fn : Fn) (b c : Array Value) => run_store Try.prog W a (.func fn b c) .plain rfl
  go_upto_region 5 with fail
  clear y0 y1 hst
  generalize hw3 : World.setCell _ _ _ = w3
  have HK3 := Lib.hid (show Kp (fun k => k = ga + 1 + 1) w2 w3 by rw [← hw3]; exact kp_set _ _ 0 _)
  have HF3 := Lib.hid (show Blk w3 (ga + 1 + 1) 52 #[.func (.func 38) #[] #[.pointer (some ⟨gr, 0, none⟩), .pointer (some ⟨w.heap.size + 1 + 1, 0, none⟩), .pointer (some ⟨ga + 1 + 1, 0, none⟩), .pointer (some ⟨ga + 1, 0, none⟩)]] by rw [← hw3]; exact HFN.out.set_ 0 _)
  have HCA := Lib.hid (show CA R t gr (w.heap.size + 1 + 1) (ga + 1 + 1) (ga + 1) w.heap.size w3 (.slice (some ⟨ga, 0, none⟩) 1 1) [(px, py)] from
    have g1 := HGA.out
    have g2 := HGR.out
    have b1 : Blk w3 gr 3 #[.int .i64 R] := (HBR.out.nwA HK2.out).kp HK3.out (fun e => by have e2 : gr = ga + 1 + 1 := e; omega)
    have b2 : Blk w3 (w.heap.size + 1 + 1) 3 #[.int .i64 t] := ((HB2.out.nwA HN0.out).nwA HK2.out).kp HK3.out (fun e => by have e2 : w.heap.size + 1 + 1 = ga + 1 + 1 := e; omega)
    have b3 : Blk w3 (ga + 1) 27 #[.slice (some ⟨ga, 0, none⟩) 1 1] := HCH.out.kp HK3.out (fun e => by have e2 : ga + 1 = ga + 1 + 1 := e; omega)
    ⟨b1, b2, HF3.out, b3, own_kp HOW.out HK3.out (fun k e e2 => by cases e; have e3 : ga = ga + 1 + 1 := e2; omega), b1.lt, b2.lt, HF3.out.lt, b3.lt, Nat.le_trans (Nat.le_trans (Nat.le_trans HW.out.size HN0.out.size) HK2.out.size) HK3.out.size, fun k e => by have := own_sl e; omega, by omega, by omega, by omega⟩)
  have HP3 := Lib.hid (show Blk w3 w.heap.size 23 #[.int .i64 px, .int .i64 py] from ((HB0.out.nwA HN0.out).nwA HK2.out).kp HK3.out (fun e => by have e2 : w.heap.size = ga + 1 + 1 := e; have := HGA.out; have := HGR.out; omega))
  have HQ3 := Lib.hid (show Blk w3 (w.heap.size + 1) 23 #[.int .i64 qx, .int .i64 qy] from ((HB1.out.nwA HN0.out).nwA HK2.out).kp HK3.out (fun e => by have e2 : w.heap.size + 1 = ga + 1 + 1 := e; have := HGA.out; have := HGR.out; omega))
  have HN3 := Lib.hid (show Nw w w3 from Kp.own (HW.out.tr (HN0.out.tr HK2.out)) HK3.out (fun k e => by have := HGA.out; have := HGR.out; have e2 : k = ga + 1 + 1 := e; omega))
  have HG := Lib.hid (show w.heap.size + 1 + 1 < gr ∧ gr < ga from ⟨HGR.out, HGA.out⟩)
  clear hw3 HK3 HF3 HOW HFN HCH HK2 HGA HGR HN0 HBR HB0 HB1 HB2 HW
  go_loopw [] (fun wr => ∃ (ux uy : Int) (rv : Value) (base l' : List Pt), Blk wr w.heap.size 23 #[.int .i64 ux, .int .i64 uy] ∧ Blk wr (w.heap.size + 1) 23 #[.int .i64 qx, .int .i64 qy] ∧ CA R t gr (w.heap.size + 1 + 1) (ga + 1 + 1) (ga + 1) w.heap.size wr rv base ∧ (∀ k, rv.ownBlock = some k → w.heap.size + 1 < k) ∧ nrm (ux, uy) = R ∧ Ch R t (ux, uy) (qx, qy) l' ∧ base ++ l' = (px, py) :: l ∧ Nw w wr) (fun wr => rankW w.heap.size (qx, qy) wr)
  case atStart => exact ⟨px, py, _, [(px, py)], l, HP3.out, HQ3.out, HCA.out, fun k e => by have := own_sl e; have := HG.out; omega, hp, hch, rfl, HN3.out⟩
  case round =>
    obtain ⟨ux, uy, rv, base, l', hbp, hbq, hca, hof, hn, hc, hl, hnw⟩ := hrel
    have HBP := Lib.hid hbp
    have HBQ := Lib.hid hbq
    have HC := Lib.hid hca
    have HOF := Lib.hid hof
    have HNN := Lib.hid hn
    have HL := Lib.hid hl
    have HNW := Lib.hid hnw
    have su : Sm2 (ux, uy) := dig_2000 hR2 (dig_own hn)
    have HSU := Lib.hid su
    have c2 := fun w1 => quarter_any ux uy qx qy su HSQ.out w1
    have z0 := hbp.cell 0
    have z1 := hbp.cell 1
    have z2 := hbq.cell 0
    have z3 := hbq.cell 1
    have q0 := fun p : KeptW wr => (HBP.out.kept p).cell 0
    have q1 := fun p : KeptW wr => (HBP.out.kept p).cell 1
    have hll : base.length + l'.length = l.length + 1 := by rw [← List.length_append, hl, List.length_cons]
    clear hbp hbq hca hof hl hnw su hch HP3 HQ3 HCA HN3
    cases hqt : qtr (ux, uy) (qx, qy) with
    | true =>
      rw [hqt] at c2
      obtain ⟨l1, rfl, hbt⟩ := ch_true hqt hc
      have i1 := fun w1 hca hl => between_any hR hR2 ht hbt (arcs_own hR hn hq hqt) gr (w.heap.size + 1 + 1) (ga + 1 + 1) (ga + 1) w.heap.size rv base w1 hca hl
      simp only at i1
      rw [List.length_append, List.length_cons, List.length_nil] at hll
      clear hqt hc hbt hn
      go_upto_region 10 with (first | (go_at_call 41; ((with_reducible refine (Calls.kept_first (c2 _)).mono ?_); rintro e _ ⟨rfl, p, rfl⟩)) | fail)
      have HN4 := Lib.hid p.since
      generalize p.wd = w4 at HN4 ⊢
      clear z0 z1 z2 z3 q0 q1 c2
      have HC4 := Lib.hid (HC.out.nw HN4.out)
      have z0 := (HBP.out.nwA HN4.out).cell 0
      have z1 := (HBP.out.nwA HN4.out).cell 1
      have z2 := (HBQ.out.nwA HN4.out).cell 0
      have z3 := (HBQ.out.nwA HN4.out).cell 1
      have z4 := HC4.out.f.cell 0
      go_upto_region 11 with (first | (go_at_call 38; refine (i1 _ HC4.out (by omega)).mono ?_; rintro e w5 ⟨rfl, r5, hca5, hst5⟩; have HCA5 := Lib.hid hca5; have HST5 := Lib.hid hst5; clear hca5 hst5) | fail)
      clear z0 z1 z2 z3 z4 i1
      have HQ5 := Lib.hid ((HBQ.out.nwA HN4.out).kp HST5.out.1 (fun e => e.elim (fun e => by have := HG.out; omega) fun e => by have := HOF.out _ e; omega))
      have z0 := HQ5.out.cell 0
      have z1 := HQ5.out.cell 1
      have z2 := HCA5.out.c.cell 0
      obtain ⟨n5, hn5⟩ : ∃ n, (base ++ l1).length = n := ⟨_, rfl⟩
      have hl5 : n5 + 1 ≤ 1000000000 := by rw [← hn5, List.length_append]; omega
      have HN5 := Lib.hid hn5
      have HO5 := Lib.hid (show World.ownsRow w5 w.heap.size 23 2 r5 n5 (flat vC (base ++ l1)) from hn5 ▸ HCA5.out.own)
      clear hn5
      go_wp2_with (first | (at_builtin; refine wp_pushG rfl (.tmp 40) (.tmp 42) 27 23 2 16 (.agg #[.int .i64 0, .int .i64 0]) rfl Try.underlying27 infoA rfl (by omega) w.heap.size n5 _ (flat vC (base ++ l1)) [.int .i64 qx, .int .i64 qy] rfl HO5.out rfl ?_ rfl ?_ ?_ HCA5.out.lb ?_; (intro u hu; simp at hu; rcases hu with rfl | rfl <;> rfl); omega; omega; intro v6 w6 own6 gr6; have HF6 := Lib.hid (And.intro (show OwnA w6 w.heap.size v6 ((px, py) :: l) by unfold OwnA; rw [← HL.out, ← List.append_assoc, List.length_append, HN5.out, flat_app]; exact own6) (gr6.nw (Kp.own (HNW.out.tr HN4.out) HST5.out.1 (fun k e => e.elim (fun e => by have := HG.out; omega) fun e => (HC4.out.lt_row e).1)) (fun k e => (HCA5.out.lt_row e).1))); clear own6 gr6) | fail)
      go_ret
      exact ⟨_, rfl, HF6.out.1, HF6.out.2⟩
    | false =>
      rw [hqt] at c2
      obtain ⟨l1, l2, rfl, hbt, hc2⟩ := ch_false hqt hc
      have hk := rank_step hR hn hq hqt
      have HRK := Lib.hid hk
      have HC2 := Lib.hid hc2
      have hu2 := HSU.out
      have e1 : wrap64 (-uy) = -uy := w64_id ⟨by have := hu2.2; omega, by have := hu2.2; omega⟩
      have i1 := fun w1 hca hl => between_any hR hR2 ht hbt (arcs_own hR hn (by rw [lft_nrm]; exact hn) (qtr_lft hR hn)) gr (w.heap.size + 1 + 1) (ga + 1 + 1) (ga + 1) w.heap.size rv base w1 hca hl
      simp only [lft] at i1
      rw [List.length_append, List.length_cons] at hll
      clear hqt hc hbt hn hk hu2 hc2
      go_upto_region 7 with (first | (go_at_call 41; ((with_reducible refine (Calls.kept_first (c2 _)).mono ?_); rintro e _ ⟨rfl, p, rfl⟩)) | fail)
      have HN3 := Lib.hid p.since
      generalize p.wd = wa at HN3 ⊢
      generalize hwm : World.alloc _ _ = w4
      obtain ⟨gm, hgm⟩ : ∃ x, wa.heap.size = x := ⟨_, rfl⟩
      have HM := Lib.hid (show Blk w4 gm 23 #[.int .i64 (-uy), .int .i64 ux] by rw [← hwm, ← hgm]; exact Blk.new _ _ _)
      have HN4 := Lib.hid (show Nw wr w4 by rw [← hwm]; exact HN3.out.tr (nw_alloc _ _))
      have HGM := Lib.hid (show wr.heap.size ≤ gm by rw [← hgm]; exact HN3.out.size)
      try rw [hgm]
      clear hwm hgm HN3 z0 z1 z2 z3 q0 q1 c2 e1
      have HC4 := Lib.hid (HC.out.nw HN4.out)
      have z0 := (HBP.out.nwA HN4.out).cell 0
      have z1 := (HBP.out.nwA HN4.out).cell 1
      have z2 := HM.out.cell 0
      have z3 := HM.out.cell 1
      have z4 := HC4.out.f.cell 0
      go_upto_region 8 with (first | (go_at_call 38; refine (i1 _ HC4.out (by omega)).mono ?_; rintro e w5 ⟨rfl, r5, hca5, hst5⟩; have HCA5 := Lib.hid hca5; have HST5 := Lib.hid hst5; clear hca5 hst5) | fail)
      clear z0 z1 z2 z3 z4 i1
      have HM5 := Lib.hid (HC.out.keep HM.out HGM.out HST5.out.1)
      have z0 := HM5.out.cell 0
      have z1 := HM5.out.cell 1
      have z2 := HCA5.out.c.cell 0
      obtain ⟨n5, hn5⟩ : ∃ n, (base ++ l1).length = n := ⟨_, rfl⟩
      have hl5 : n5 + 1 ≤ 1000000000 := by rw [← hn5, List.length_append]; omega
      have HN5 := Lib.hid hn5
      have HO5 := Lib.hid (show World.ownsRow w5 w.heap.size 23 2 r5 n5 (flat vC (base ++ l1)) from hn5 ▸ HCA5.out.own)
      clear hn5 hll
      go_upto_region 9 with (first | (at_builtin; refine wp_pushG rfl (.tmp 31) (.tmp 33) 27 23 2 16 (.agg #[.int .i64 0, .int .i64 0]) rfl Try.underlying27 infoA rfl (by omega) w.heap.size n5 _ (flat vC (base ++ l1)) [.int .i64 (-uy), .int .i64 ux] rfl HO5.out rfl ?_ rfl ?_ ?_ HCA5.out.lb ?_; (intro u hu; simp at hu; rcases hu with rfl | rfl <;> rfl); omega; omega; intro v6 w6 own6 gr6; (have hb6 := HCA5.out.c.kp gr6.by_ (fun e => (HCA5.out.off _ e).2.2.2 rfl)); (obtain ⟨d7, g7⟩ := hb6.one); (obtain ⟨A', c', rfl⟩ := (own_src own6).shape); (have HP := Lib.hid (HCA5.out.push (x := (-uy, ux)) (by rw [HN5.out]; exact own6) gr6)); clear own6 gr6 hb6) | fail)
      have HCA7 := Lib.hid HP.out.1
      have HST7 := Lib.hid (HST5.out.trans HP.out.2)
      clear HP d7 g7 z0 z1 z2 HCA5 HST5 HM5 HO5
      generalize World.setCell _ _ _ = w7 at HCA7 HST7 ⊢
      have HM7 := Lib.hid (HC.out.keep HM.out HGM.out HST7.out.1)
      have z0 := HM7.out.cell 0
      have z1 := HM7.out.cell 1
      have HP7 := Lib.hid ((HBP.out.nwA HN4.out).kp HST7.out.1 (fun e => e.elim (fun e => by have := HG.out; omega) fun e => by have := HOF.out _ e; omega))
      have HQ7 := Lib.hid ((HBQ.out.nwA HN4.out).kp HST7.out.1 (fun e => e.elim (fun e => by have := HG.out; omega) fun e => by have := HOF.out _ e; omega))
      obtain ⟨y0, y1, y2, y3⟩ := HP7.out.two
      have HOF7 := Lib.hid (show ∀ k, Value.ownBlock (.slice A' (n5 + 1) c') = some k → w.heap.size + 1 < k from fun k e => by
        rcases Nat.lt_or_ge k w4.heap.size with h | h
        · exact HOF.out k (HST7.out.2 k h e)
        · have := (HBQ.out.nwA HN4.out).lt
          have := HN4.out.size
          omega)
      have HN7 := Lib.hid (show Nw w w7 from Kp.own (HNW.out.tr HN4.out) HST7.out.1 (fun k e => e.elim (fun e => by have := HG.out; omega) fun e => (HC4.out.lt_row e).1))
      go_wp2_with fail
      go_roundw
      case rel =>
        have g := HG.out
        refine ⟨-uy, ux, _, (base ++ l1) ++ [(-uy, ux)], l2, HP7.out.lay2 _ _, HQ7.out.farA (by omega) _ _, HCA7.out.kp (kp_two _ _ _ _) (by omega) (by omega) (by omega) (by omega) (fun k e e2 => by have := HOF7.out k e; have e3 : k = w.heap.size := e2; omega), HOF7.out, by have := lft_nrm (ux, uy); rw [HNN.out] at this; exact this, HC2.out, by have := HL.out; simpa [lft] using this, HN7.out.newA (Nat.le_refl _) _ _⟩
      case measure =>
        rw [rankW_eq HBP.out, rankW_eq (HP7.out.lay2 _ _), HRK.out]
        exact Nat.lt_succ_self _

end Go.Proofs.Ytlogihcmmoldkaa.W

namespace Go.Proofs.Ytlogihcmmoldkaa.G
open Go.RowKit Go.Proofs.Ytlogihcmmoldkaa.V Go.Proofs.Ytlogihcmmoldkaa.W

abbrev Pt := Int × Int
abbrev Ed := Pt × Pt
def at_ (l : List Pt) (i : Nat) : Pt := l.getD i (0, 0)
theorem at_of {l : List Pt} {i : Nat} {p : Pt} (h : l[i]? = some p) : at_ l i = p := by unfold at_; rw [List.getD_eq_getElem?_getD, h]; rfl
theorem at_some {l : List Pt} {i : Nat} (h : i < l.length) : l[i]? = some (at_ l i) := by
  unfold at_
  rw [List.getD_eq_getElem?_getD, List.getElem?_eq_getElem h]
  rfl
theorem at_mem {l : List Pt} {i : Nat} (h : i < l.length) : at_ l i ∈ l := List.mem_of_getElem? (at_some h)
def turnP (a b c : Pt) : Int := turnV a.1 a.2 b.1 b.2 c.1 c.2
def crossP (a b : Pt) : Int := crossV a.1 a.2 b.1 b.2
def allTo (n : Nat) (p : Nat → Bool) : Bool := (List.range n).all p
theorem allTo_iff {n : Nat} {p : Nat → Bool} : allTo n p = true ↔ ∀ i, i < n → p i = true := by simp [allTo]
theorem allTo_not {n i : Nat} {p : Nat → Bool} (hi : i < n) (h : p i = false) : allTo n p = false := by
  rw [← Bool.not_eq_true, allTo_iff]
  intro hh
  rw [hh i hi] at h
  cases h
def turnI (l : List Pt) (i : Nat) : Int := turnP (at_ l ((i + l.length - 1) % l.length)) (at_ l i) (at_ l ((i + 1) % l.length))
def wOk (p : Pt) : Bool := withinV p.1 p.2 2000
def allW (l : List Pt) : Bool := allTo l.length fun i => wOk (at_ l i)
def turnsP (l : List Pt) : Bool := allTo l.length fun i => !(turnI l i == 0)
def areaTo (l : List Pt) : Nat → Int
  | 0 => 0
  | k + 1 => w64 (areaTo l k + crossP (at_ l k) (at_ l ((k + 1) % l.length)))
def areaP (l : List Pt) : Int := areaTo l l.length
def edgeP (l : List Pt) (i : Nat) : Ed := (at_ l i, at_ l ((i + 1) % l.length))
def edgesP (l : List Pt) : List Ed := if l.length < 2 then [] else (List.range l.length).map (edgeP l)
def apartE (e f : Ed) : Bool := decide (max e.1.1 e.2.1 < min f.1.1 f.2.1) || decide (max f.1.1 f.2.1 < min e.1.1 e.2.1) || decide (max e.1.2 e.2.2 < min f.1.2 f.2.2) || decide (max f.1.2 f.2.2 < min e.1.2 e.2.2)
theorem edges_len {l : List Pt} : (edgesP l).length = if l.length < 2 then 0 else l.length := by unfold edgesP; split <;> simp
theorem edges_at {l : List Pt} {i : Nat} (h2 : ¬ l.length < 2) (hi : i < l.length) : (edgesP l)[i]? = some (edgeP l i) := by
  unfold edgesP
  rw [if_neg h2, List.getElem?_map, List.getElem?_range hi]
  rfl
end Go.Proofs.Ytlogihcmmoldkaa.G

namespace Go.Proofs.Ytlogihcmmoldkaa.W
open Go.RowKit Go.Proofs.Ytlogihcmmoldkaa.V Go.Proofs.Ytlogihcmmoldkaa.G

abbrev SrcN (w : World) (A : Option Addr) (n c : Nat) (l : List (Int × Int)) : Prop := Src w 2 (.slice A n c) n (l.flatMap vC)
theorem src_n {w : World} {A : Option Addr} {n c : Nat} {l : List (Int × Int)} (h : SrcV w (.slice A l.length c) l) (hn : l.length = n) : SrcN w A n c l := by subst hn; exact h
theorem src_v {w : World} {A : Option Addr} {n c : Nat} {l : List (Int × Int)} (h : SrcN w A n c l) (hn : l.length = n) : SrcV w (.slice A n c) l := by subst hn; exact h
theorem src_max {w : World} {A : Option Addr} {n c : Nat} {l : List (Int × Int)} (h : SrcN w A n c l) : n ≤ c ∧ c ≤ 9223372036854775807 ∧ c ≤ maxLen := by
  obtain ⟨_, A', c', e, h1, h2, _⟩ := h
  injection e with _ _ e3
  subst e3
  exact ⟨h1, by unfold maxLen at h2; omega, h2⟩
theorem src_len {w : World} {A : Option Addr} {n c : Nat} {l : List (Int × Int)} (h : SrcN w A n c l) : l.length = n := by
  have := h.1
  rw [flatV_len] at this
  omega
/-- where a list's elements lie, in all later worlds -/
theorem src_at {w : World} {A : Option Addr} {n c : Nat} {l : List (Int × Int)} (h : SrcN w A n c l) (hn : 0 < n) :
    ∃ g o, A = some ⟨g, o, none⟩ ∧ g < w.heap.size ∧ ∀ w', Nw w w' → ∀ k, k < n → w'.cell? ⟨g, o + k * 2, none⟩ = some (.int .i64 (at_ l k).1) ∧ w'.cell? ⟨g, o + k * 2 + 1, none⟩ = some (.int .i64 (at_ l k).2) := by
  have hl := src_len h
  obtain ⟨_, A', c', e, _, _, hc⟩ := h
  injection e with e1 e2 e3
  subst e1
  obtain ⟨g, o, rfl, hg, hc⟩ := hc (by omega)
  refine ⟨g, o, rfl, hg, fun w' hk k hkn => ?_⟩
  obtain ⟨f1, f2⟩ := flatV_at l k _ (at_some (by omega))
  exact ⟨(hk.cell (p := ⟨g, o + k * 2, none⟩) hg id).trans (hc _ _ f1), (hk.cell (p := ⟨g, o + (k * 2 + 1), none⟩) hg id).trans (hc _ _ f2)⟩
theorem wrapI (n : Int) : IntKind.i64.wrap n = w64 n := by
  rw [IntKind.wrap_i64, w64_eq]
theorem tmod_nat (a b : Nat) : Int.tmod (a : Int) (b : Int) = ((a % b : Nat) : Int) := by
  rw [Int.tmod_eq_emod_of_nonneg (by omega)]
  omega
end Go.Proofs.Ytlogihcmmoldkaa.W

namespace Go.Proofs.Ytlogihcmmoldkaa.W
open Go.RowKit Go.Proofs.Ytlogihcmmoldkaa.V

abbrev ltV (x y : Int × Int) : Prop := lessV x.1 x.2 y.1 y.2 = true
theorem ltV_iff (x y : Int × Int) : ltV x y ↔ x.2 < y.2 ∨ x.2 = y.2 ∧ x.1 < y.1 := by
  unfold ltV lessV
  simp
theorem ltV_irrefl (x : Int × Int) : ¬ ltV x x := by rw [ltV_iff]; omega
theorem ltV_trans {x y z : Int × Int} (h : ltV x y) (k : ltV y z) : ltV x z := by rw [ltV_iff] at *; omega
theorem ltV_tri (x y : Int × Int) : ltV x y ∨ x = y ∨ ltV y x := by
  obtain ⟨a, b⟩ := x
  obtain ⟨c, d⟩ := y
  rw [ltV_iff, ltV_iff]
  by_cases h : a = c ∧ b = d
  · exact .inr (.inl (by rw [h.1, h.2]))
  · have : ¬ ((a, b) = (c, d)) := fun e => h (by injection e with e1 e2; exact ⟨e1, e2⟩)
    simp only []
    omega
/-- strictly ascending -/
abbrev Asc (l : List (Int × Int)) : Prop := l.Pairwise ltV
theorem asc_unique : ∀ {a b : List (Int × Int)}, Asc a → Asc b → (∀ x, x ∈ a ↔ x ∈ b) → a = b
  | [], [], _, _, _ => rfl
  | [], y :: s, _, _, h => by have := (h y).2 List.mem_cons_self; cases this
  | x :: r, [], _, _, h => by have := (h x).1 List.mem_cons_self; cases this
  | x :: r, y :: s, ha, hb, h => by
    obtain ⟨a1, a2⟩ := List.pairwise_cons.1 ha
    obtain ⟨b1, b2⟩ := List.pairwise_cons.1 hb
    have hxy : x = y := by
      rcases List.mem_cons.1 ((h x).1 List.mem_cons_self) with e | e
      · exact e
      · rcases List.mem_cons.1 ((h y).2 List.mem_cons_self) with f | f
        · exact f.symm
        · exact absurd (ltV_trans (a1 y f) (b1 x e)) (ltV_irrefl x)
    subst hxy
    rw [asc_unique a2 b2 fun z => ⟨fun hz => by
      rcases List.mem_cons.1 ((h z).1 (List.mem_cons_of_mem _ hz)) with e | e
      · subst e; exact absurd (a1 z hz) (ltV_irrefl z)
      · exact e, fun hz => by
      rcases List.mem_cons.1 ((h z).2 (List.mem_cons_of_mem _ hz)) with e | e
      · subst e; exact absurd (b1 z hz) (ltV_irrefl z)
      · exact e⟩]

/-- rid of equal neighbours -/
def dd : List (Int × Int) → List (Int × Int)
  | [] => []
  | [x] => [x]
  | x :: y :: r => if x = y then dd (y :: r) else x :: dd (y :: r)
theorem dd_mem : ∀ (l : List (Int × Int)) (z : Int × Int), z ∈ dd l ↔ z ∈ l
  | [], z => by simp [dd]
  | [x], z => by simp [dd]
  | x :: y :: r, z => by
    unfold dd
    have ih := dd_mem (y :: r) z
    split
    · rename_i h
      subst h
      rw [ih]
      simp
    · rw [List.mem_cons, ih, List.mem_cons (a := z) (b := x)]
/-- ascending, equal ones allowed -/
abbrev Wk (l : List (Int × Int)) : Prop := l.Pairwise fun x y => ¬ ltV y x
theorem dd_asc : ∀ (l : List (Int × Int)), Wk l → Asc (dd l)
  | [], _ => by simp [dd]
  | [x], _ => by simp [dd]
  | x :: y :: r, h => by
    obtain ⟨h1, h2⟩ := List.pairwise_cons.1 h
    have ih := dd_asc (y :: r) h2
    unfold dd
    split
    · exact ih
    · rename_i hne
      refine List.pairwise_cons.2 ⟨fun z hz => ?_, ih⟩
      have hz' := (dd_mem _ z).1 hz
      have hxy : ltV x y := by
        rcases ltV_tri x y with k | k | k
        · exact k
        · exact absurd k hne
        · exact absurd k (h1 y List.mem_cons_self)
      rcases List.mem_cons.1 hz' with rfl | hzr
      · exact hxy
      · rcases ltV_tri y z with k | k | k
        · exact ltV_trans hxy k
        · rw [← k]; exact hxy
        · exact absurd k ((List.pairwise_cons.1 h2).1 z hzr)
theorem sort_wk (l : List (Int × Int)) : Wk (sortV l) := by
  have h := List.pairwise_mergeSort (le := fun x y => !(ltOf cf) y x) (fun a b c h1 h2 => by
    simp only [lt_cf, Bool.not_eq_true', ] at *
    have e1 := mt (ltV_iff b a).2 (by simpa using h1)
    have e2 := mt (ltV_iff c b).2 (by simpa using h2)
    have : ¬ ltV c a := by rw [ltV_iff]; omega
    simpa using this) (fun a b => by
    simp only [lt_cf]
    rcases ltV_tri a b with h | h | h
    · have : ¬ ltV b a := fun k => ltV_irrefl a (ltV_trans h k)
      simp at this
      simp [this]
    · subst h
      have := ltV_irrefl a
      simp at this
      simp [this]
    · have : ¬ ltV a b := fun k => ltV_irrefl a (ltV_trans k h)
      simp at this
      simp [this]) l
  refine h.imp fun {a b} hab => ?_
  rw [lt_cf] at hab
  simpa using hab
theorem sort_mem (l : List (Int × Int)) (z : Int × Int) : z ∈ sortV l ↔ z ∈ l := List.mem_mergeSort

/-- where a vector is inserted: behind all lesser ones -/
def place (x : Int × Int) : List (Int × Int) → Nat
  | [] => 0
  | y :: r => if lessV y.1 y.2 x.1 x.2 then place x r + 1 else 0
def insU (out : List (Int × Int)) (x : Int × Int) : List (Int × Int) := if out[place x out]? = some x then out else out.take (place x out) ++ x :: out.drop (place x out)
theorem insU_cons (y : Int × Int) (r : List (Int × Int)) (x : Int × Int) : insU (y :: r) x = if ltV y x then y :: insU r x else if y = x then y :: r else x :: y :: r := by
  by_cases h : lessV y.1 y.2 x.1 x.2 = true
  · have hp : place x (y :: r) = place x r + 1 := if_pos h
    rw [if_pos h, insU, insU, hp, List.getElem?_cons_succ]
    split <;> rfl
  · have hp : place x (y :: r) = 0 := if_neg h
    rw [if_neg h, insU, hp]
    simp
theorem insU_mem (out : List (Int × Int)) (x z : Int × Int) : z ∈ insU out x ↔ z = x ∨ z ∈ out := by
  induction out with
  | nil => simp [insU, place]
  | cons y r ih =>
    rw [insU_cons]
    split
    · rw [List.mem_cons, ih, List.mem_cons]
      constructor
      · rintro (h | h | h)
        · exact .inr (.inl h)
        · exact .inl h
        · exact .inr (.inr h)
      · rintro (h | h | h)
        · exact .inr (.inl h)
        · exact .inl h
        · exact .inr (.inr h)
    · split
      · rename_i _ h
        subst h
        simp
      · simp
theorem insU_asc (out : List (Int × Int)) (x : Int × Int) (h : Asc out) : Asc (insU out x) := by
  induction out with
  | nil => simp [insU, place]
  | cons y r ih =>
    obtain ⟨h1, h2⟩ := List.pairwise_cons.1 h
    rw [insU_cons]
    split
    · rename_i hyx
      refine List.pairwise_cons.2 ⟨fun z hz => ?_, ih h2⟩
      rcases (insU_mem r x z).1 hz with rfl | hz
      · exact hyx
      · exact h1 z hz
    · split
      · exact h
      · rename_i hyx hne
        have hxy : ltV x y := by
          rcases ltV_tri x y with k | k | k
          · exact k
          · exact absurd k.symm hne
          · exact absurd k hyx
        refine List.pairwise_cons.2 ⟨fun z hz => ?_, h⟩
        rcases List.mem_cons.1 hz with rfl | hz
        · exact hxy
        · exact ltV_trans hxy (h1 z hz)
def insAll (l : List (Int × Int)) : List (Int × Int) := l.foldl insU []
theorem fold_ins (l : List (Int × Int)) : ∀ out, Asc out → Asc (l.foldl insU out) ∧ ∀ z, z ∈ l.foldl insU out ↔ z ∈ out ∨ z ∈ l := by
  induction l with
  | nil => intro out h; simp [h]
  | cons x r ih =>
    intro out h
    obtain ⟨a, b⟩ := ih (insU out x) (insU_asc out x h)
    refine ⟨a, fun z => ?_⟩
    rw [List.foldl_cons, b z, insU_mem, List.mem_cons]
    constructor
    · rintro ((h | h) | h)
      · exact .inr (.inl h)
      · exact .inl h
      · exact .inr (.inr h)
    · rintro (h | h | h)
      · exact .inl (.inr h)
      · exact .inl (.inl h)
      · exact .inr h
theorem ins_dd (l : List (Int × Int)) : insAll l = dd (sortV l) := by
  obtain ⟨h1, h2⟩ := fold_ins l [] List.Pairwise.nil
  refine asc_unique h1 (dd_asc _ (sort_wk l)) fun z => ?_
  rw [dd_mem, sort_mem]
  have := h2 z
  simpa [insAll] using this
end Go.Proofs.Ytlogihcmmoldkaa.W

namespace Go.Proofs.Ytlogihcmmoldkaa.W
open Go.RowKit Go.Proofs.Ytlogihcmmoldkaa.V

theorem dd_two : ∀ (l : List (Int × Int)) (x y : Int × Int), dd (l ++ [x, y]) = if x = y then dd (l ++ [x]) else dd (l ++ [x]) ++ [y]
  | [], x, y => by
    show dd [x, y] = if x = y then dd [x] else dd [x] ++ [y]
    unfold dd
    split
    · rename_i h
      subst h
      rfl
    · rfl
  | [a], x, y => by
    have ih := dd_two [] x y
    show dd (a :: x :: [y]) = if x = y then dd (a :: x :: []) else dd (a :: x :: []) ++ [y]
    have e1 : dd (a :: x :: [y]) = if a = x then dd (x :: [y]) else a :: dd (x :: [y]) := rfl
    have e2 : dd (a :: x :: []) = if a = x then dd (x :: []) else a :: dd (x :: []) := rfl
    have ih : dd (x :: [y]) = if x = y then dd (x :: []) else dd (x :: []) ++ [y] := ih
    rw [e1, e2, ih]
    split <;> split <;> rfl
  | a :: b :: r, x, y => by
    have ih : dd (b :: (r ++ [x, y])) = if x = y then dd (b :: (r ++ [x])) else dd (b :: (r ++ [x])) ++ [y] := dd_two (b :: r) x y
    show dd (a :: b :: (r ++ [x, y])) = if x = y then dd (a :: b :: (r ++ [x])) else dd (a :: b :: (r ++ [x])) ++ [y]
    have e1 : dd (a :: b :: (r ++ [x, y])) = if a = b then dd (b :: (r ++ [x, y])) else a :: dd (b :: (r ++ [x, y])) := rfl
    have e2 : dd (a :: b :: (r ++ [x])) = if a = b then dd (b :: (r ++ [x])) else a :: dd (b :: (r ++ [x])) := rfl
    rw [e1, e2, ih]
    split <;> split <;> rfl
theorem dd_step {l : List (Int × Int)} {m : Nat} {x y : Int × Int} (hx : l[m]? = some x) (hy : l[m + 1]? = some y) : dd (l.take (m + 1 + 1)) = if x = y then dd (l.take (m + 1)) else dd (l.take (m + 1)) ++ [y] := by
  rw [List.take_add_one (i := m + 1), hy, List.take_add_one, hx, Option.toList_some, Option.toList_some, List.append_assoc]
  exact dd_two (l.take m) x y
theorem dd_len (l : List (Int × Int)) : (dd l).length ≤ l.length := by
  match l with
  | [] => simp [dd]
  | [x] => simp [dd]
  | x :: y :: r =>
    have ih := dd_len (y :: r)
    rw [dd]
    split
    · simp at ih ⊢; omega
    · simp at ih ⊢; omega
theorem dd_apart : ∀ (l : List (Int × Int)) (k : Nat), k ≤ l.length → (∀ i p q, i + 1 < k → l[i]? = some p → l[i + 1]? = some q → p ≠ q) → dd (l.take k) = l.take k
  | l, 0, _, _ => by simp [dd]
  | l, 1, h, _ => by
    match l, h with
    | x :: r, _ => simp [dd]
  | l, k + 2, h, ha => by
    have ih := dd_apart l (k + 1) (by omega) fun i p q hi => ha i p q (by omega)
    obtain ⟨x, hx⟩ : ∃ x, l[k]? = some x := ⟨l[k]'(by omega), List.getElem?_eq_getElem _⟩
    obtain ⟨y, hy⟩ : ∃ y, l[k + 1]? = some y := ⟨l[k + 1]'(by omega), List.getElem?_eq_getElem _⟩
    rw [dd_step hx hy, if_neg (ha k x y (by omega) hx hy), ih, List.take_add_one (i := k + 1), hy]
    rfl
end Go.Proofs.Ytlogihcmmoldkaa.W

namespace Go.Proofs.Ytlogihcmmoldkaa.W
open Go.RowKit Go.Proofs.Ytlogihcmmoldkaa.V

/-- a row of vectors, whose cells may be stored into -/
def RowV (w : World) (g : Nat) (l : List (Int × Int)) : Prop := ∀ i p, l[i]? = some p → (w.cell? ⟨g, i * 2, none⟩ = some (.int .i64 p.1) ∧ w.cell? ⟨g, i * 2 + 1, none⟩ = some (.int .i64 p.2)) ∧ w.frozen? ⟨g, i * 2, none⟩ = false ∧ w.frozen? ⟨g, i * 2 + 1, none⟩ = false
theorem frozen_set (w : World) (b o : Nat) (u : Value) (a : Addr) : (w.setCell ⟨b, o, none⟩ u).frozen? a = w.frozen? a := by
  have := World.frozen?_setCells b [u] o w a
  exact this
theorem RowV.of_holds {w : World} {g : Nat} {l : List (Int × Int)} (h : Sort.HoldsK vC 2 w g 0 l.toArray) : RowV w g l := by
  intro i p hp
  obtain ⟨hi, hv⟩ := List.getElem?_eq_some_iff.1 hp
  have h0 := Sort.HoldsK.cell h (i := i) (c := 0) (by simpa using hi) (by omega)
  have h1 := Sort.HoldsK.cell h (i := i) (c := 1) (by simpa using hi) (by omega)
  rw [show (l.toArray)[i]! = p by simp [hi, hv], Nat.zero_add] at h0 h1
  exact ⟨⟨h0.1, h1.1⟩, h0.2, h1.2⟩
theorem RowV.drew {w : World} {g : Nat} {l : List (Int × Int)} (h : RowV w g l) : RowV w.drew g l := h
theorem RowV.set_ {w : World} {g : Nat} {l : List (Int × Int)} (h : RowV w g l) {k : Nat} (hk : k < l.length) (x y : Int) : RowV ((w.setCell ⟨g, k * 2, none⟩ (.int .i64 x)).setCell ⟨g, k * 2 + 1, none⟩ (.int .i64 y)) g (l.set k (x, y)) := by
  intro i p hp
  obtain ⟨q, hq⟩ : ∃ q, l[k]? = some q := ⟨l[k], List.getElem?_eq_getElem hk⟩
  obtain ⟨⟨a, b⟩, c, d⟩ := h k q hq
  rw [frozen_set, frozen_set, frozen_set, frozen_set]
  by_cases hi : i = k
  · subst hi
    rw [List.getElem?_set_self hk] at hp
    injection hp with hp
    subst hp
    refine ⟨⟨?_, ?_⟩, c, d⟩
    · exact (World.cell?_setCell_other _ _ _ _ (by intro e; injection e with _ e; omega)).trans (World.cell?_setCell_same _ _ _ a)
    · exact World.cell?_setCell_same _ _ _ ((World.cell?_setCell_other _ _ _ _ (by intro e; injection e with _ e; omega)).trans b)
  · rw [List.getElem?_set_ne (by omega)] at hp
    obtain ⟨⟨a', b'⟩, c', d'⟩ := h i p hp
    refine ⟨⟨?_, ?_⟩, c', d'⟩
    · exact (World.cell?_setCell_other _ _ _ _ (by intro e; injection e with _ e; omega)).trans ((World.cell?_setCell_other _ _ _ _ (by intro e; injection e with _ e; omega)).trans a')
    · exact (World.cell?_setCell_other _ _ _ _ (by intro e; injection e with _ e; omega)).trans ((World.cell?_setCell_other _ _ _ _ (by intro e; injection e with _ e; omega)).trans b')
theorem RowV.src {w : World} {g cap m : Nat} {l d : List (Int × Int)} (h : RowV w g l) (hg : g < w.heap.size) (hd : l.take m = d) (hm : d.length = m) (hc : m ≤ cap) (hx : cap ≤ maxLen) : SrcV w (.slice (some ⟨g, 0, none⟩) m cap) d := by
  subst hm
  refine ⟨flatV_len d, _, _, rfl, hc, hx, fun _ => ⟨g, 0, rfl, hg, fun j u hu => ?_⟩⟩
  have hj : j < d.length * 2 := by
    obtain ⟨h, _⟩ := List.getElem?_eq_some_iff.1 hu
    rwa [flatV_len] at h
  have hq : j / 2 < d.length := by omega
  have hx : d[j / 2]? = some (d[j / 2]'hq) := List.getElem?_eq_getElem hq
  obtain ⟨f1, f2⟩ := flatV_at d (j / 2) _ hx
  have hl : l[j / 2]? = some (d[j / 2]'hq) := by
    rw [← hx, ← hd, List.getElem?_take_of_lt hq]
  obtain ⟨⟨a, b⟩, _⟩ := h _ _ hl
  rw [Nat.zero_add]
  rcases Nat.mod_two_eq_zero_or_one j with e | e
  · rw [show j / 2 * 2 = j by omega] at f1 a
    rw [a, ← f1, hu]
  · rw [show j / 2 * 2 + 1 = j by omega] at f2 b
    rw [b, ← f2, hu]
theorem setCells_kp (b : Nat) : ∀ (vs : List Value) (o : Nat) (w : World), Kp (fun i => i = b) w (w.setCells b o vs)
  | [], _, w => Kp.refl _ w
  | v :: r, o, w => (kp_set w b o v).tr (setCells_kp b r (o + 1) (w.setCell ⟨b, o, none⟩ v))
theorem clear_vecs (ty : TypeId) (b o n c : Nat) (w : World) (hn : 0 < n) (hc : ∀ j, j < n * 2 → (w.cell? ⟨b, o + j, none⟩).isSome = true) (hf : ∀ j, j < n * 2 → w.frozen? ⟨b, o + j, none⟩ = false) :
    (Builtin.clear_ #[27] ty #[.slice (some ⟨b, o, none⟩) n c]).run Try.prog w = .ok (.tuple #[]) (w.setCells b o (List.replicate (n * 2) (.int .i64 0))) := by
  have hv : ∀ w, (zeroValue 23).run Try.prog w = .ok (vV 0 0) w := fun w => by
    obtain ⟨i0, hi, hz, _⟩ := vec_info
    simp [zeroValue, typeInfo, hi, hz]
  have hzc : (Builtin.zeroCells (vV 0 0).cells n).toList = List.replicate (n * 2) (.int .i64 0) := by
    simp [Builtin.zeroCells, Value.cells]
    apply List.ext_getElem
    · simp
    · intro i h1 h2
      rcases Nat.mod_two_eq_zero_or_one i with e | e <;> simp [e]
  have hst := run_storeCells_cells (P := Try.prog) b o (List.replicate (n * 2) (.int .i64 0)) 0 w (by simpa using hc) (by simpa using hf) (by intro v hv'; rw [List.eq_of_mem_replicate hv']; rfl)
  simp only [Nat.add_zero] at hst
  obtain ⟨m, rfl⟩ : ∃ m, n = m + 1 := ⟨n - 1, by omega⟩
  simp [Builtin.clear_, run_underlying Try.underlying27, hv, hzc, hst]
end Go.Proofs.Ytlogihcmmoldkaa.W
