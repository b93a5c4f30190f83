/-
  Heap[fretsaw/fretsawref03.Item]: Pop. Conditions: the heap's block is known; fewer than 2^40 elements.
-/
import Derived.Test.YtogfcenebbipeaaHIe
namespace Go.Proofs.Ytogfcenebbipeaa.W
open Go.RowKit Go.Proofs.Ytogfcenebbipeaa.Pl

set_option maxHeartbeats 800000 in
theorem popI_none (C H p : Nat) (v : Value) (w : World) (h : HpI C w H v [] p) :
    Calls Try.prog 13 #[.pointer (some ⟨H, 0, none⟩)] w fun e w' => e = .returned (.tuple #[.agg #[.int .i64 0, .int .i64 0], .bool false]) ∧ Nw w w' := by
  go_enter Try.func13, Try.ntmps13
  have h1 := h.nw ((Kp.refl _ w).alloc (.cells #[.int .i64 0, .int .i64 0] 27))
  go_wp2_with (go_at_call 14; ((with_reducible refine (peekI_none C H p v _ h1).mono ?_); rintro e w1 ⟨rfl, hk1⟩; have hxb := (Blk.new w 27 #[.int .i64 0, .int .i64 0]).kp hk1 (fun e => e); (obtain ⟨x0, x1, x2, x3⟩ := hxb.two)))
  have hkk : Nw w w1 := ((Kp.refl _ w).alloc _).tr hk1
  obtain ⟨r0, r1, _, _⟩ := ((hxb.lay2 (.int .i64 0) (.int .i64 0)).lay2 (.int .i64 0) (.int .i64 0)).two
  exact bodyPost_ret (v := .tuple #[.agg #[.int .i64 0, .int .i64 0], .bool false]) (by simp [results, Try.results13, go_sem, r0, r1]) rfl ⟨rfl, (((hkk.new (Nat.le_refl _) 0 _).new (Nat.le_refl _) 1 _).new (Nat.le_refl _) 0 _).new (Nat.le_refl _) 1 _⟩

set_option maxRecDepth 100000 in
set_option maxHeartbeats 1600000 in
theorem popI_some (C H c p : Nat) (v : Value) (x : Ent) (q : List Ent) (w : World) (h : HpI C w H v (x :: q) p) (hc : CntI C w c) (hlen : q.length ≤ 1099511627775) :
    Calls Try.prog 13 #[.pointer (some ⟨H, 0, none⟩)] w fun e w' => e = .returned (.tuple #[.agg #[.int .i64 x.1.1, .int .i64 x.1.2], .bool true]) ∧ ∃ v' c', HpI C w' H v' q p ∧
      Kp (fun k => Ft H v k ∨ CsI C k) w w' ∧ v'.ownBlock = v.ownBlock ∧ CntI C w' c' ∧ c' ≤ c + 2 * Nat.log2 q.length := by
  obtain ⟨g, cap, l, rfl, hcap, hmax, hl, hx, ha, hpe, hhp, hgd⟩ := h.top
  obtain ⟨n, hn⟩ : ∃ n, q.length = n := ⟨_, rfl⟩
  rw [hn] at hl hcap ha hlen
  unfold maxLen at hmax
  have hNH : H ≠ g := fun e => ha.ne (by rw [e]; rfl)
  have HCS := Lib.hid (show ∀ k, CsI C k → k ≠ H ∧ k ≠ g from fun k e => ⟨cntI_blk hc ha.blk k e, fun e2 => cntI_own hc ha.own k e (by rw [e2]; rfl)⟩)
  have hHl := ha.blk.lt
  have hgl : g < w.heap.size := own_lt ha.own g rfl
  have hcapi : (n : Int) + 1 ≤ (cap : Int) := by omega
  have hni : (n : Int) ≤ 1099511627775 := by omega
  have hp0 := ha.blk
  obtain ⟨wb, hwb⟩ : ∃ wb, w.alloc (.cells #[.int .i64 0, .int .i64 0] 27) = wb := ⟨_, rfl⟩
  have hkb : Nw w wb := hwb ▸ (Kp.refl _ w).alloc _
  have hxb : Blk wb w.heap.size 27 #[.int .i64 0, .int .i64 0] := hwb ▸ Blk.new w _ _
  have HWB := Lib.hid hwb
  have hhb := h.nw hkb
  clear hwb
  have HN := Lib.hid hn
  clear hn hp0
  go_enter Try.func13, Try.ntmps13
  go_wp2_with fail
  rw [HWB.out]
  refine (peekI_some C H p _ x q _ (by first | exact hhb | exact HN.out ▸ hhb) (by rw [HN.out]; omega)).mono ?_
  rintro e w1 ⟨rfl, hk1⟩
  have hkw1 := hkb.tr hk1
  obtain ⟨b0, b1, b2, b3, b4, b5⟩ := (ha.blk.kp hkw1 (fun e => e)).three
  have hx1 := hxb.kp hk1 (fun e => e)
  obtain ⟨x0, x1, x2, x3⟩ := hx1.two
  have hx2 := hx1.lay2 (.int .i64 x.1.1) (.int .i64 x.1.2)
  have hkw := (hkw1.new (Nat.le_refl _) 0 (.int .i64 x.1.1)).new (Nat.le_refl _) 1 (.int .i64 x.1.2)
  obtain ⟨w2, hw2⟩ : ∃ w2, (w1.setCell ⟨w.heap.size, 0, none⟩ (.int .i64 x.1.1)).setCell ⟨w.heap.size, 1, none⟩ (.int .i64 x.1.2) = w2 := ⟨_, rfl⟩
  rw [hw2] at hx2 hkw
  have HW2 := Lib.hid hw2
  have HX2 := Lib.hid hx2
  clear hw2 hx2
  have ha2 := ha.kp hkw (fun e => e) (fun _ _ e => e)
  have hc2 := cntI_kp hc hkw (fun _ _ e => e)
  have HA2 := Lib.hid ha2
  have HKW := Lib.hid hkw
  clear ha2 hkw hk1
  go_wp2_with fail
  rw [HW2.out]
  clear b0 b1 b2 b3 b4 b5
  have ha2 := HA2.out
  obtain ⟨y, hy⟩ : ∃ y, gt l n = y := ⟨_, rfl⟩
  have hyc := ha2.at_ hl (i := n) (by omega) hy
  have hxc := ha2.at_ hl (i := 0) (by omega) hx
  unfold AtI at hyc hxc
  simp only [Nat.zero_mul, Nat.zero_add] at hxc
  obtain ⟨s0, s1, s2⟩ := hyc
  obtain ⟨t0, t1, t2⟩ := hxc
  have fs0 := ha2.free hl (n * 3); have fs1 := ha2.free hl (n * 3 + 1); have fs2 := ha2.free hl (n * 3 + 2)
  have ft0 := ha2.free hl (0); have ft1 := ha2.free hl (0 + 1); have ft2 := ha2.free hl (0 + 2)
  obtain ⟨b0, b1, b2, b3, b4, b5⟩ := ha2.blk.three
  have HY := Lib.hid hy
  have HXX := Lib.hid hx
  have HL := Lib.hid hl
  clear hy hx hl ha2
  go_region
  clear s0 s1 s2 t0 t1 t2 fs0 fs1 fs2 ft0 ft1 ft2 b0 b1 b2 b3 b4 b5
  have hl := HL.out
  obtain ⟨w3, hw3⟩ : ∃ w3, (((w2.setCell ⟨g, 0, none⟩ (.int .i64 y.1.1)).setCell ⟨g, 1, none⟩ (.int .i64 y.1.2)).setCell ⟨g, 2, none⟩ (.int .u64 y.2)).drew = w3 := ⟨_, rfl⟩
  rw [hw3]
  obtain ⟨ha3, hk3⟩ := HA2.out.put hl (i := 0) (by omega) y
  have ha3d := ha3.drew
  have hk3d := hk3.drew
  unfold putI at ha3d hk3d
  simp only [Nat.zero_mul, Nat.zero_add] at ha3d hk3d
  rw [hw3] at ha3d hk3d
  have hl3 : (l.set 0 y).length = n + 1 := (List.length_set ..).trans hl
  clear ha3 hk3 hw3
  have hz3 := ha3d.at_ hl3 (i := n) (by omega) rfl
  unfold AtI at hz3
  obtain ⟨s0, s1, s2⟩ := hz3
  have fs0 := ha3d.free hl3 (n * 3); have fs1 := ha3d.free hl3 (n * 3 + 1); have fs2 := ha3d.free hl3 (n * 3 + 2)
  obtain ⟨b0, b1, b2, b3, b4, b5⟩ := ha3d.blk.three
  obtain ⟨ha4, hk4⟩ := ha3d.put hl3 (i := n) (by omega) ((0, 0), 0)
  have hl4 : ((l.set 0 y).set n ((0, 0), 0)).length = n + 1 := (List.length_set ..).trans hl3
  have hpop : ((l.set 0 y).set n ((0, 0), 0)).take n = popL l := by
    unfold popL
    rw [hl, Nat.add_sub_cancel, HY.out]
  have hpl : (popL l).length = n := by rw [popL_length, hl, Nat.add_sub_cancel]
  have hk5 := kp_set (putI w3 g n ((0, 0), 0)) H 1 (.slice (some ⟨g, 0, none⟩) n cap)
  have ha5 : ArrI C ((putI w3 g n ((0, 0), 0)).setCell ⟨H, 1, none⟩ (.slice (some ⟨g, 0, none⟩) n cap)) H (.slice (some ⟨g, 0, none⟩) n cap) (popL l) p := by
    refine ⟨ha4.blk.set_ 1 _, ?_⟩
    have ho := ha4.own
    rw [hl4] at ho
    have ho2 := own_kp (own_cut ho (k := n) (by omega)) hk5 (fun k e e2 => hNH (by rw [← e2]; injection e with e; exact e.symm))
    rw [flat_take ceI_len, hpop] at ho2
    rw [hpl]
    exact ho2
  have hc5 := cntI_kp (cntI_kp (cntI_kp hc2 hk3d (fun k e e2 => (HCS.out k e).2 e2)) hk4 (fun k e e2 => (HCS.out k e).2 e2)) hk5 (fun k e e2 => (HCS.out k e).1 e2)
  have hkp5 : Kp (fun k => Ft H (.slice (some ⟨g, 0, none⟩) (n + 1) cap) k ∨ CsI C k) w ((putI w3 g n ((0, 0), 0)).setCell ⟨H, 1, none⟩ (.slice (some ⟨g, 0, none⟩) n cap)) :=
    (((Nw.kp HKW.out).trans hk3d (fun k _ e => .inl (.inr (by rw [e]; rfl)))).trans hk4 (fun k _ e => .inl (.inr (by rw [e]; rfl)))).trans hk5 (fun k _ e => .inl (.inl e))
  have hx5 := ((HX2.out.kp hk3d (fun e => by omega)).kp hk4 (fun e => by omega)).kp hk5 (fun e => by omega)
  have hdn : DownH rkI (popL l) 0 := down_start hhp (by rw [popL_length]; omega) (fun j h1 h2 => popL_gt h1 h2)
  have hpp := popL_perm hpe HXX.out
  unfold putI at ha5 hc5 hkp5 hx5
  simp only [] at ha5 hc5 hkp5 hx5
  have HK5 := Lib.hid hkp5
  have HA5 := Lib.hid ha5
  have HPL := Lib.hid hpl
  clear ha4 hk4 hk5 ha3d hl3 hl4 hpop hkp5 ha5 hpl hl
  go_wp2_with (go_at_call 32; go_must (refine (lowerI_any C H c p _ _ _ HA5.out hc5 (by rw [HPL.out]; omega) hdn).mono ?_); rintro e w8 ⟨rfl, l8, c8, ha8, hp8, hh8, hk8, hc8, hle8⟩; have hx8 := hx5.kp hk8 (fun e => e.elim (fun e => by injection e with e; simp only at e; omega) (fun e => e.elim)); (obtain ⟨x50, x51, x52, x53⟩ := hx8.two))
  have hkf := HK5.out.trans hk8 (fun k _ e => e.imp (fun e => .inr e) id)
  have hhp8 : HpI C w8 H (.slice (some ⟨g, 0, none⟩) n cap) q p := ⟨l8, ha8, hp8.trans hpp, hh8, hgd.pop⟩
  rw [HPL.out] at hle8
  obtain ⟨r0, r1, _, _⟩ := (hx8.lay2 (.int .i64 x.1.1) (.int .i64 x.1.2)).two
  have hkg := (hkf.new (Nat.le_refl _) 0 (.int .i64 x.1.1)).new (Nat.le_refl _) 1 (.int .i64 x.1.2)
  have hks := (kp_set w8 w.heap.size 0 (.int .i64 x.1.1)).tr (kp_set (w8.setCell ⟨w.heap.size, 0, none⟩ (.int .i64 x.1.1)) w.heap.size 1 (.int .i64 x.1.2))
  refine bodyPost_ret (v := .tuple #[.agg #[.int .i64 x.1.1, .int .i64 x.1.2], .bool true]) (by simp [results, Try.results13, go_sem, r0, r1]) rfl ⟨rfl, _, c8, hhp8.kp hks (fun k e e2 => ?_), by rw [HN.out]; exact hkg, rfl, cntI_kp hc8 hks (fun _ e => e.elim), by rw [HN.out]; exact hle8⟩
  rcases e with e | e
  · omega
  · injection e with e
    simp only at e
    omega

theorem popI_any (C H c p : Nat) (v : Value) (q : List Ent) (w : World) (h : HpI C w H v q p) (hc : CntI C w c) (hlen : q.length ≤ 1099511627776) :
    Calls Try.prog 13 #[.pointer (some ⟨H, 0, none⟩)] w fun e w' => e = .returned (.tuple #[.agg #[.int .i64 (hdv q).1, .int .i64 (hdv q).2], .bool (nemp q)]) ∧ ∃ v' c', HpI C w' H v' q.tail p ∧
      Kp (fun k => Ft H v k ∨ CsI C k) w w' ∧ v'.ownBlock = v.ownBlock ∧ CntI C w' c' ∧ c' ≤ c + 2 * Nat.log2 (q.length - 1) := by
  cases q with
  | nil =>
    refine (popI_none C H p v w h).mono ?_
    rintro e w' ⟨rfl, hk⟩
    exact ⟨rfl, v, c, h.nw hk, Nw.kp hk, rfl, cntI_kp hc hk (fun _ _ e => e), Nat.le_add_right _ _⟩
  | cons x q =>
    exact popI_some C H c p v x q w h hc (by simp at hlen; omega)
end Go.Proofs.Ytogfcenebbipeaa.W
