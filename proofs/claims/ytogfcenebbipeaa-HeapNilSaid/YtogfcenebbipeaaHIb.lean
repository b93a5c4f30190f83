/-
  Heap[fretsaw/fretsawref03.Item]: what the heap's block and its row hold; raiseLast. Conditions: the heap's block holds the order function; the counter's block, if there is one, lies apart.
-/
import Derived.Test.YtogfcenebbipeaaHIa
import Derived.BigRegion
import Derived.BigQuiet
namespace Go.Proofs.Ytogfcenebbipeaa.W
open Go.RowKit Go.Proofs.Ytogfcenebbipeaa.Pl

def ceI (e : Ent) : List Value := [.int .i64 e.1.1, .int .i64 e.1.2, .int .u64 e.2]
theorem ceI_len (e : Ent) : (ceI e).length = 3 := rfl
theorem ceI_one : ∀ (l : List Ent), ∀ u ∈ flat ceI l, u.oneCell' = true
  | [], u, h => by cases h
  | x :: l, u, h => by
    rw [flat_cons] at h
    rcases List.mem_append.1 h with h | h
    · simp [ceI] at h
      rcases h with rfl | rfl | rfl <;> rfl
    · exact ceI_one l u h
/-- the heap's block H, its slice v, which owns the entries l -/
structure ArrI (C : Nat) (w : World) (H : Nat) (v : Value) (l : List Ent) (p : Nat) : Prop where
  blk : Blk w H 68 #[(.func (.func 12) #[] #[]), v, .int .u64 p]
  own : w.ownsRow 0 70 3 v l.length (flat ceI l)
theorem ArrI.ne {C H p : Nat} {w : World} {v : Value} {l : List Ent} (h : ArrI C w H v l p) : v.ownBlock ≠ some H := own_ne h.own h.blk (by decide)
theorem ArrI.kp {S : Nat → Prop} {C H p : Nat} {w w' : World} {v : Value} {l : List Ent} (h : ArrI C w H v l p) (hk : Kp S w w') (hH : ¬ S H) (hv : ∀ g, v.ownBlock = some g → ¬ S g) : ArrI C w' H v l p :=
  ⟨h.blk.kp hk hH, own_kp h.own hk hv⟩
theorem ArrI.drew {C H p : Nat} {w : World} {v : Value} {l : List Ent} (h : ArrI C w H v l p) : ArrI C w.drew H v l p := ⟨h.blk, h.own⟩
theorem ArrI.drewN {C H p : Nat} {w : World} {v : Value} {l : List Ent} (h : ArrI C w H v l p) (n : Nat) : ArrI C (w.drewN n) H v l p := ⟨h.blk, h.own⟩
/-- the cells of entry i -/
def AtI (w : World) (g i : Nat) (x : Ent) : Prop :=
    w.cell? ⟨g, i * 3, none⟩ = some (.int .i64 x.1.1) ∧ w.cell? ⟨g, i * 3 + 1, none⟩ = some (.int .i64 x.1.2) ∧ w.cell? ⟨g, i * 3 + 2, none⟩ = some (.int .u64 x.2)
theorem ArrI.at_ {C H p g cap n : Nat} {w : World} {l : List Ent} (h : ArrI C w H (.slice (some ⟨g, 0, none⟩) n cap) l p) (hn : l.length = n) {i : Nat} (hi : i < n) {x : Ent} (hx : gt l i = x) : AtI w g i x := by
  subst hn
  subst hx
  have hb : i * 3 + 3 ≤ l.length * 3 := by omega
  have hq := fun j hj => (h.own.cellAt (i * 3 + j) (by omega)).trans (flat_at ceI_len (x := gt l i) j (gt_get? hi) hj)
  exact ⟨hq 0 (by omega), hq 1 (by omega), hq 2 (by omega)⟩
theorem ArrI.free {C H p g cap n : Nat} {w : World} {l : List Ent} (h : ArrI C w H (.slice (some ⟨g, 0, none⟩) n cap) l p) (hn : l.length = n) (j : Nat) : w.frozen? ⟨g, j, none⟩ = false := by
  subst hn
  exact h.own.frozenAt j
/-- a store of entry i -/
def putI (w : World) (g i : Nat) (e : Ent) : World :=
  ((w.setCell ⟨g, i * 3, none⟩ (.int .i64 e.1.1)).setCell ⟨g, i * 3 + 1, none⟩ (.int .i64 e.1.2)).setCell ⟨g, i * 3 + 2, none⟩ (.int .u64 e.2)
theorem ArrI.put {C H p g cap n : Nat} {w : World} {l : List Ent} (h : ArrI C w H (.slice (some ⟨g, 0, none⟩) n cap) l p) (hn : l.length = n) {i : Nat} (hi : i < n) (e : Ent) :
    ArrI C (putI w g i e) H (.slice (some ⟨g, 0, none⟩) n cap) (l.set i e) p ∧ Kp (fun k => k = g) w (putI w g i e) := by
  subst hn
  have hne : H ≠ g := fun e => h.ne (by rw [e]; rfl)
  obtain ⟨o1, _⟩ := h.own.stored (i * 3) (.int .i64 e.1.1)
  obtain ⟨o2, _⟩ := o1.stored (i * 3 + 1) (.int .i64 e.1.2)
  obtain ⟨o3, _⟩ := o2.stored (i * 3 + 2) (.int .u64 e.2)
  rw [flat_set3 ceI_len hi rfl] at o3
  exact ⟨⟨((h.blk.far hne _).far hne _).far hne _, by rw [List.length_set]; exact o3⟩, (((Kp.refl (fun k => k = g) w).setCell (p := ⟨g, i * 3, none⟩) (fun _ => rfl) _).setCell (p := ⟨g, i * 3 + 1, none⟩) (fun _ => rfl) _).setCell (p := ⟨g, i * 3 + 2, none⟩) (fun _ => rfl) _⟩

set_option maxRecDepth 100000 in
set_option maxHeartbeats 1600000 in
theorem raiseI_any (C H c p : Nat) (v : Value) (l : List Ent) (w : World) (h : ArrI C w H v l p) (hc : CntI C w c) (hl : 0 < l.length) (hlen : l.length ≤ 1099511627776) (hup : UpH rkI l (l.length - 1)) :
    Calls Try.prog 33 #[.pointer (some ⟨H, 0, none⟩)] w fun e w' => e = .returned (.tuple #[]) ∧ ∃ l' c', ArrI C w' H v l' p ∧ l'.Perm l ∧ Hp rkI l' ∧
      Kp (fun k => v.ownBlock = some k ∨ CsI C k) w w' ∧ CntI C w' c' ∧ c' ≤ c + Nat.log2 l.length := by
  obtain ⟨g, cap, rfl, hcap, hmax, hgl⟩ := own_form h.own hl
  unfold maxLen at hmax
  obtain ⟨b0, b1, b2, _, _, _⟩ := h.blk.three
  obtain ⟨n, hn⟩ : ∃ n, l.length = n + 1 := ⟨l.length - 1, by omega⟩
  have hup0 : UpH rkI l n := by rw [hn, Nat.add_sub_cancel] at hup; exact hup
  clear hup
  go_enter Try.func33, Try.ntmps33
  go_wp2
  have HN := Lib.hid hn
  go_loopw [3] (fun i wr => ∃ (k c' : Nat) (l' : List Ent), i = .int .i64 k ∧ k ≤ n ∧ l'.length = n + 1 ∧ ArrI C wr H (.slice (some ⟨g, 0, none⟩) (n + 1) cap) l' p ∧ l'.Perm l ∧ UpH rkI l' k ∧
      Kp (fun k => (Value.slice (some ⟨g, 0, none⟩) (n + 1) cap).ownBlock = some k ∨ CsI C k) w wr ∧ CntI C wr c' ∧ c' + Nat.log2 (k + 1) ≤ c + Nat.log2 (n + 1)) (fun i _ => (intOf i).toNat)
  case atStart => exact ⟨n, c, l, rfl, Nat.le_refl _, hn, HN.out ▸ h, List.Perm.refl _, hup0, Kp.refl _ _, hc, Nat.le_refl _⟩
  case round =>
    obtain ⟨k, c', l', rfl, hk, hl', ha, hp, hu, hkp, hc', hle⟩ := hrel
    rcases Nat.eq_zero_or_pos k with rfl | hk0
    · go_wp2
      go_end0
      exact ⟨rfl, l', c', by rw [HN.out]; exact ha, hp, up_zero hu, by rw [HN.out]; exact hkp, hc', by rw [HN.out]; omega⟩
    · obtain ⟨q, hq⟩ : ∃ q, q = (k - 1) / 2 := ⟨_, rfl⟩
      have hqi : (((k : Int) - 1) / 2) = (q : Int) := by omega
      have hk1 : 1 ≤ (k : Int) := by omega
      have hkn : (k : Int) < (n : Int) + 1 := by omega
      have hqk : (q : Int) < (n : Int) + 1 := by omega
      have hnb : (n : Int) ≤ 1099511627776 := by have := HN.out; omega
      have HQ := Lib.hid hq
      obtain ⟨x, hx⟩ : ∃ x, gt l' k = x := ⟨_, rfl⟩
      obtain ⟨y, hy⟩ : ∃ y, gt l' q = y := ⟨_, rfl⟩
      have HX := Lib.hid hx
      have HY := Lib.hid hy
      have hxc : AtI wr.drew g k x := ha.at_ hl' (by omega) hx
      have hyc : AtI wr.drew g q y := ha.at_ hl' (by omega) hy
      obtain ⟨d0, _, _, _, _, _⟩ := ha.blk.three
      clear hq hx hy hn
      go_wp2
      rw [hqi]
      have HA := Lib.hid ha
      have HU := Lib.hid hu
      have HLE := Lib.hid hle
      have HPE := Lib.hid hp
      have HKP := Lib.hid hkp
      have HL := Lib.hid hl'
      have HNH := Lib.hid (show H ≠ g from fun e => ha.ne (by rw [e]; rfl))
      have HCS := Lib.hid (show ∀ k, CsI C k → k ≠ H ∧ k ≠ g from fun k e => ⟨cntI_blk hc' ha.blk k e, fun e2 => cntI_own hc' ha.own k e (by rw [e2]; rfl)⟩)
      clear ha hu hle hp hkp hl'
      have e0 : wr.drew.cell? ⟨H, 0, none⟩ = some (.func (.func 12) #[] #[]) := d0
      have hcd : CntI C wr.drew c' := hc'
      cases hah : aheadE rkI x y with
      | true =>
        unfold AtI at hxc hyc
        go_region_held3 (fun w' : World => (w'.cell? (⟨g, k * 3, none⟩ : Addr) = some (.int .i64 x.1.1) ∧ w'.cell? (⟨g, k * 3 + 1, none⟩ : Addr) = some (.int .i64 x.1.2) ∧ w'.cell? (⟨g, k * 3 + 2, none⟩ : Addr) = some (.int .u64 x.2)) ∧ (w'.cell? (⟨g, q * 3, none⟩ : Addr) = some (.int .i64 y.1.1) ∧ w'.cell? (⟨g, q * 3 + 1, none⟩ : Addr) = some (.int .i64 y.1.2) ∧ w'.cell? (⟨g, q * 3 + 2, none⟩ : Addr) = some (.int .u64 y.2)))
          (first | exact ⟨hxc, hyc⟩ | exact ⟨hx1, hy1⟩)
          ((go_at_call 40; ((with_reducible refine (aheadI_any C H c' x y _ e0 hcd).mono ?_); rintro e w1 ⟨rfl, hk1, hc1⟩; rw [hah]; have ha1 := HA.out.kp (Kp.undrew hk1) (fun e => (HCS.out _ e).1 rfl) (fun k e e2 => (HCS.out k e2).2 (by injection e with e; exact e.symm)); have hx1 := ha1.at_ HL.out (by omega) HX.out; have hy1 := ha1.at_ HL.out (by omega) HY.out)))
        go_wp2
        obtain ⟨x0, x1, x2⟩ := hx1
        obtain ⟨y0, y1, y2⟩ := hy1
        have fx0 := ha1.free HL.out (k * 3)
        have fx1 := ha1.free HL.out (k * 3 + 1)
        have fx2 := ha1.free HL.out (k * 3 + 2)
        have fy0 := ha1.free HL.out (q * 3)
        have fy1 := ha1.free HL.out (q * 3 + 1)
        have fy2 := ha1.free HL.out (q * 3 + 2)
        go_region
        have hl' := HL.out
        have hq := HQ.out
        have hsw : sw l' k q = (l'.set k y).set q x := by unfold sw; rw [HX.out, HY.out]
        have hkn' : k < n + 1 := by omega
        have hqn' : q < n + 1 := by omega
        have hl2 : (l'.set k y).length = n + 1 := (List.length_set ..).trans hl'
        obtain ⟨ha2, kp2⟩ := ha1.put hl' hkn' y
        obtain ⟨ha3, kp3⟩ := ha2.put hl2 hqn' x
        rw [← hsw] at ha3
        have hp3 := (sw_perm (l := l') (i := k) (j := q) (by omega) (by omega)).trans HPE.out
        have hu3 : UpH rkI (sw l' k q) q := by
          have := up_go HU.out (by omega) hk0 (by rw [← hq, HX.out, HY.out]; exact aheadE_t hah)
          rw [← hq] at this
          exact this
        have hkp3 := ((HKP.out.trans (Kp.undrew hk1) (fun _ _ e => .inr e)).trans kp2 (fun i _ e => .inl (by rw [e]; rfl))).trans kp3 (fun i _ e => .inl (by rw [e]; rfl))
        have hc3 := cntI_kp (cntI_kp hc1 kp2 (fun i e e2 => (HCS.out i e).2 e2)) kp3 (fun i e e2 => (HCS.out i e).2 e2)
        have hle3 : c' + 1 + Nat.log2 (q + 1) ≤ c + Nat.log2 (n + 1) := by
          have := HLE.out
          have := log_half hk0
          rw [← hq] at this
          omega
        have hsl := (sw_length l' k q).trans hl'
        obtain ⟨w3, hw3⟩ : ∃ w3, (putI (putI w1 g k y) g q x).drew = w3 := ⟨_, rfl⟩
        have hkp4 := hkp3.drew
        have ha4 := ha3.drew
        have hc4 := cntI_drew hc3
        rw [hw3] at hkp4 ha4 hc4
        unfold putI at hw3
        rw [hw3]
        clear hw3 hkp3 ha3 hc3 kp2 kp3 ha2 ha1 hsw hl2
        go_wp2
        go_roundw
        case rel =>
          exact ⟨q, c' + 1, sw l' k q, rfl, by omega, hsl, ha4, hp3, hu3, hkp4, hc4, hle3⟩
        case measure => simp [intOf]; omega
      | false =>
        have hn := HN.out
        go_region_held3 (fun w' : World => (w'.cell? (⟨g, k * 3, none⟩ : Addr) = some (.int .i64 x.1.1) ∧ w'.cell? (⟨g, k * 3 + 1, none⟩ : Addr) = some (.int .i64 x.1.2) ∧ w'.cell? (⟨g, k * 3 + 2, none⟩ : Addr) = some (.int .u64 x.2)) ∧ (w'.cell? (⟨g, q * 3, none⟩ : Addr) = some (.int .i64 y.1.1) ∧ w'.cell? (⟨g, q * 3 + 1, none⟩ : Addr) = some (.int .i64 y.1.2) ∧ w'.cell? (⟨g, q * 3 + 2, none⟩ : Addr) = some (.int .u64 y.2)))
          (first | exact ⟨hxc, hyc⟩ | exact ⟨hx1, hy1⟩)
          ((go_at_call 40; ((with_reducible refine (aheadI_any C H c' x y _ e0 hcd).mono ?_); rintro e w1 ⟨rfl, hk1, hc1⟩; rw [hah]; have ha1 := HA.out.kp (Kp.undrew hk1) (fun e => (HCS.out _ e).1 rfl) (fun k e e2 => (HCS.out k e2).2 (by injection e with e; exact e.symm)); have hx1 := ha1.at_ HL.out (by omega) HX.out; have hy1 := ha1.at_ HL.out (by omega) HY.out)))
        go_wp2
        refine bodyPost_ret (results_none rfl _ _ _) rfl ?_
        rw [hn]
        have hkp1 := HKP.out.trans (Kp.undrew hk1) (fun _ _ e => .inr e)
        refine ⟨rfl, l', c' + 1, ha1, HPE.out, up_stop HU.out (by rw [← HQ.out, HX.out, HY.out]; exact aheadE_f hah), hkp1, hc1, ?_⟩
        have := HLE.out
        have := log_half hk0
        omega
end Go.Proofs.Ytogfcenebbipeaa.W
