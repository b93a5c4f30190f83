/-
  Heap[int]: Pop. Conditions: the heap's block is known; fewer than 2^40 elements.
-/
import Derived.Test.YtogfcenebbipeaaHNe
namespace Go.Proofs.Ytogfcenebbipeaa.W
open Go.RowKit Go.Proofs.Ytogfcenebbipeaa.Pl

set_option maxHeartbeats 800000 in
theorem popN_none (C H p : Nat) (v : Value) (w : World) (h : HpN C w H v [] p) :
    Calls Try.prog 46 #[.pointer (some ⟨H, 0, none⟩)] w fun e w' => e = .returned (.tuple #[.int .i64 0, .bool false]) ∧ Nw w w' := by
  go_enter Try.func46, Try.ntmps46
  go_wp2_with (go_at_call 50; ((with_reducible refine (peekN_none C H p v _ h).mono ?_); rintro e w1 ⟨rfl, hk1⟩))
  go_ret2
  exact ⟨rfl, hk1⟩

set_option maxRecDepth 100000 in
set_option maxHeartbeats 1600000 in
theorem popN_some (C H c p : Nat) (v : Value) (x : Ent) (q : List Ent) (w : World) (h : HpN C w H v (x :: q) p) (hc : CntN C w c) (hlen : q.length ≤ 1099511627775) :
    Calls Try.prog 46 #[.pointer (some ⟨H, 0, none⟩)] w fun e w' => e = .returned (.tuple #[.int .i64 x.1.1, .bool true]) ∧ ∃ v' c', HpN C w' H v' q p ∧
      Kp (fun k => Ft H v k ∨ CsN C k) w w' ∧ v'.ownBlock = v.ownBlock ∧ CntN C w' c' ∧ c' ≤ c + 2 * Nat.log2 q.length := by
  obtain ⟨g, cap, l, rfl, hcap, hmax, hl, hx, ha, hpe, hhp, hgd⟩ := h.top
  obtain ⟨n, hn⟩ : ∃ n, q.length = n := ⟨_, rfl⟩
  rw [hn] at hl hcap ha hlen
  unfold maxLen at hmax
  have hNH : H ≠ g := fun e => ha.ne (by rw [e]; rfl)
  have HCS := Lib.hid (show ∀ k, CsN C k → k ≠ H ∧ k ≠ g from fun k e => ⟨cntN_blk hc ha.blk k e, fun e2 => cntN_own hc ha.own k e (by rw [e2]; rfl)⟩)
  have hHl := ha.blk.lt
  have hgl : g < w.heap.size := own_lt ha.own g rfl
  have hcapi : (n : Int) + 1 ≤ (cap : Int) := by omega
  have hni : (n : Int) ≤ 1099511627775 := by omega
  have hp0 := ha.blk
  have hkb : Nw w w := Kp.refl _ w
  have hhb := h
  have HN := Lib.hid hn
  clear hn hp0
  go_enter Try.func46, Try.ntmps46
  go_wp2_with fail
  refine (peekN_some C H p _ x q _ (by first | exact hhb | exact HN.out ▸ hhb) (by rw [HN.out]; omega)).mono ?_
  rintro e w1 ⟨rfl, hk1⟩
  have hkw1 := hkb.tr hk1
  obtain ⟨b0, b1, b2, b3, b4, b5⟩ := (ha.blk.kp hkw1 (fun e => e)).three
  have hkw := hkw1
  have ha2 := ha.kp hkw (fun e => e) (fun _ _ e => e)
  have hc2 := cntN_kp hc hkw (fun _ _ e => e)
  have HA2 := Lib.hid ha2
  have HKW := Lib.hid hkw
  clear ha2 hkw hk1
  go_wp2_with fail
  clear b0 b1 b2 b3 b4 b5
  have ha2 := HA2.out
  obtain ⟨y, hy⟩ : ∃ y, gt l n = y := ⟨_, rfl⟩
  have hyc := ha2.at_ hl (i := n) (by omega) hy
  have hxc := ha2.at_ hl (i := 0) (by omega) hx
  unfold AtN at hyc hxc
  simp only [Nat.zero_mul, Nat.zero_add] at hxc
  obtain ⟨s0, s1⟩ := hyc
  obtain ⟨t0, t1⟩ := hxc
  have fs0 := ha2.free hl (n * 2); have fs1 := ha2.free hl (n * 2 + 1)
  have ft0 := ha2.free hl (0); have ft1 := ha2.free hl (0 + 1)
  obtain ⟨b0, b1, b2, b3, b4, b5⟩ := ha2.blk.three
  have HY := Lib.hid hy
  have HXX := Lib.hid hx
  have HL := Lib.hid hl
  clear hy hx hl ha2
  go_region
  clear s0 s1 t0 t1 fs0 fs1 ft0 ft1 b0 b1 b2 b3 b4 b5
  have hl := HL.out
  obtain ⟨w3, hw3⟩ : ∃ w3, ((w1.setCell ⟨g, 0, none⟩ (.int .i64 y.1.1)).setCell ⟨g, 1, none⟩ (.int .u64 y.2)).drew = w3 := ⟨_, rfl⟩
  rw [hw3]
  obtain ⟨ha3, hk3⟩ := HA2.out.put hl (i := 0) (by omega) y
  have ha3d := ha3.drew
  have hk3d := hk3.drew
  unfold putN at ha3d hk3d
  simp only [Nat.zero_mul, Nat.zero_add] at ha3d hk3d
  rw [hw3] at ha3d hk3d
  have hl3 : (l.set 0 y).length = n + 1 := (List.length_set ..).trans hl
  clear ha3 hk3 hw3
  have hz3 := ha3d.at_ hl3 (i := n) (by omega) rfl
  unfold AtN at hz3
  obtain ⟨s0, s1⟩ := hz3
  have fs0 := ha3d.free hl3 (n * 2); have fs1 := ha3d.free hl3 (n * 2 + 1)
  obtain ⟨b0, b1, b2, b3, b4, b5⟩ := ha3d.blk.three
  obtain ⟨ha4, hk4⟩ := ha3d.put hl3 (i := n) (by omega) ((0, 0), 0)
  have hl4 : ((l.set 0 y).set n ((0, 0), 0)).length = n + 1 := (List.length_set ..).trans hl3
  have hpop : ((l.set 0 y).set n ((0, 0), 0)).take n = popL l := by
    unfold popL
    rw [hl, Nat.add_sub_cancel, HY.out]
  have hpl : (popL l).length = n := by rw [popL_length, hl, Nat.add_sub_cancel]
  have hk5 := kp_set (putN w3 g n ((0, 0), 0)) H 1 (.slice (some ⟨g, 0, none⟩) n cap)
  have ha5 : ArrN C ((putN w3 g n ((0, 0), 0)).setCell ⟨H, 1, none⟩ (.slice (some ⟨g, 0, none⟩) n cap)) H (.slice (some ⟨g, 0, none⟩) n cap) (popL l) p := by
    refine ⟨ha4.blk.set_ 1 _, ?_⟩
    have ho := ha4.own
    rw [hl4] at ho
    have ho2 := own_kp (own_cut ho (k := n) (by omega)) hk5 (fun k e e2 => hNH (by rw [← e2]; injection e with e; exact e.symm))
    rw [flat_take ceN_len, hpop] at ho2
    rw [hpl]
    exact ho2
  have hc5 := cntN_kp (cntN_kp (cntN_kp hc2 hk3d (fun k e e2 => (HCS.out k e).2 e2)) hk4 (fun k e e2 => (HCS.out k e).2 e2)) hk5 (fun k e e2 => (HCS.out k e).1 e2)
  have hkp5 : Kp (fun k => Ft H (.slice (some ⟨g, 0, none⟩) (n + 1) cap) k ∨ CsN C k) w ((putN w3 g n ((0, 0), 0)).setCell ⟨H, 1, none⟩ (.slice (some ⟨g, 0, none⟩) n cap)) :=
    (((Nw.kp HKW.out).trans hk3d (fun k _ e => .inl (.inr (by rw [e]; rfl)))).trans hk4 (fun k _ e => .inl (.inr (by rw [e]; rfl)))).trans hk5 (fun k _ e => .inl (.inl e))
  have hdn : DownH rkN (popL l) 0 := down_start hhp (by rw [popL_length]; omega) (fun j h1 h2 => popL_gt h1 h2)
  have hpp := popL_perm hpe HXX.out
  unfold putN at ha5 hc5 hkp5
  simp only [] at ha5 hc5 hkp5
  have HK5 := Lib.hid hkp5
  have HA5 := Lib.hid ha5
  have HPL := Lib.hid hpl
  clear ha4 hk4 hk5 ha3d hl3 hl4 hpop hkp5 ha5 hpl hl
  go_wp2_with (go_at_call 51; go_must (refine (lowerN_any C H c p _ _ _ HA5.out hc5 (by rw [HPL.out]; omega) hdn).mono ?_); rintro e w8 ⟨rfl, l8, c8, ha8, hp8, hh8, hk8, hc8, hle8⟩)
  have hkf := HK5.out.trans hk8 (fun k _ e => e.imp (fun e => .inr e) id)
  have hhp8 : HpN C w8 H (.slice (some ⟨g, 0, none⟩) n cap) q p := ⟨l8, ha8, hp8.trans hpp, hh8, hgd.pop⟩
  rw [HPL.out] at hle8
  go_ret2
  exact ⟨rfl, _, c8, hhp8, by rw [HN.out]; exact hkf, rfl, hc8, by rw [HN.out]; exact hle8⟩

theorem popN_any (C H c p : Nat) (v : Value) (q : List Ent) (w : World) (h : HpN C w H v q p) (hc : CntN C w c) (hlen : q.length ≤ 1099511627776) :
    Calls Try.prog 46 #[.pointer (some ⟨H, 0, none⟩)] w fun e w' => e = .returned (.tuple #[.int .i64 (hdv q).1, .bool (nemp q)]) ∧ ∃ v' c', HpN C w' H v' q.tail p ∧
      Kp (fun k => Ft H v k ∨ CsN C k) w w' ∧ v'.ownBlock = v.ownBlock ∧ CntN C w' c' ∧ c' ≤ c + 2 * Nat.log2 (q.length - 1) := by
  cases q with
  | nil =>
    refine (popN_none C H p v w h).mono ?_
    rintro e w' ⟨rfl, hk⟩
    exact ⟨rfl, v, c, h.nw hk, Nw.kp hk, rfl, cntN_kp hc hk (fun _ _ e => e), Nat.le_add_right _ _⟩
  | cons x q =>
    exact popN_some C H c p v x q w h hc (by simp at hlen; omega)
end Go.Proofs.Ytogfcenebbipeaa.W
