/-
  Heap[int]: lowerFirst. Conditions: the heap's block holds the order function; the counter's block, if there is one, lies apart.
-/
import Derived.Test.YtogfcenebbipeaaHNb
import Derived.Deep.LoopGhost
namespace Go.Proofs.Ytogfcenebbipeaa.W
open Go.RowKit Go.Proofs.Ytogfcenebbipeaa.Pl

set_option maxRecDepth 100000 in
set_option maxHeartbeats 4000000 in
theorem lowerN_any (C H c p : Nat) (v : Value) (l : List Ent) (w : World) (h : ArrN C w H v l p) (hc : CntN C w c) (hlen : l.length ≤ 1099511627776) (hdn : DownH rkN l 0) :
    Calls Try.prog 51 #[.pointer (some ⟨H, 0, none⟩)] w fun e w' => e = .returned (.tuple #[]) ∧ ∃ l' c', ArrN C w' H v l' p ∧ l'.Perm l ∧ Hp rkN l' ∧
      Kp (fun k => v.ownBlock = some k ∨ CsN C k) w w' ∧ CntN C w' c' ∧ c' ≤ c + 2 * Nat.log2 l.length := by
  obtain ⟨b0, b1, b2, _, _, _⟩ := h.blk.three
  rcases Nat.eq_zero_or_pos l.length with hl0 | hl
  · obtain ⟨A, cap, rfl⟩ := (own_src h.own).shape
    rw [hl0] at b1
    go_enter Try.func51, Try.ntmps51
    go_wp2
    refine wp_loop_rounds 1 ?_
    rw [rounds_succ]
    go_wp2
    go_end0
    exact ⟨rfl, l, c, h, List.Perm.refl _, fun j hj _ => absurd hj (by omega), Kp.refl _ _, hc, Nat.le_add_right _ _⟩
  · obtain ⟨g, cap, rfl, hcap, hmax, hgl⟩ := own_form h.own hl
    unfold maxLen at hmax
    obtain ⟨n, hn⟩ : ∃ n, l.length = n := ⟨_, rfl⟩
    have HN := Lib.hid hn
    have hn0 : 0 < n := by omega
    have hnb : (n : Int) ≤ 1099511627776 := by omega
    have h0 : ArrN C w H (.slice (some ⟨g, 0, none⟩) n cap) l p := by rw [← hn]; exact h
    rw [hn] at b1
    clear hn
    go_enter Try.func51, Try.ntmps51
    go_wp2
    clear h b1 b0 b2
    go_loopg [3] n (fun gg i wr => ∃ (k c' : Nat) (l' : List Ent), i = .int .i64 k ∧ k < n ∧ n ≤ k + gg ∧ l'.length = n ∧ ArrN C wr H (.slice (some ⟨g, 0, none⟩) n cap) l' p ∧ l'.Perm l ∧ DownH rkN l' k ∧
        Kp (fun k => (Value.slice (some ⟨g, 0, none⟩) n cap).ownBlock = some k ∨ CsN C k) w wr ∧ CntN C wr c' ∧ c' ≤ c + 2 * Nat.log2 (k + 1))
    case atStart => exact ⟨0, c, l, rfl, hn0, by omega, HN.out, h0, List.Perm.refl _, hdn, Kp.refl _ _, hc, by omega⟩
    case round =>
      obtain ⟨k, c', l', rfl, hk, hgg, hl', ha, hp, hu, hkp, hc', hle⟩ := hrel
      obtain ⟨x, hx⟩ : ∃ x, gt l' k = x := ⟨_, rfl⟩
      have HX := Lib.hid hx
      have HU := Lib.hid hu
      have HLE := Lib.hid hle
      have HPE := Lib.hid hp
      have HKP := Lib.hid hkp
      have HL := Lib.hid hl'
      have HA := Lib.hid ha
      have HCS := Lib.hid (show ∀ k, CsN C k → k ≠ H ∧ k ≠ g from fun k e => ⟨cntN_blk hc' ha.blk k e, fun e2 => cntN_own hc' ha.own k e (by rw [e2]; rfl)⟩)
      have hk0 : 0 ≤ (k : Int) := by omega
      have hkn : (k : Int) < (n : Int) := by omega
      obtain ⟨d0, _, _, _, _, _⟩ := ha.blk.three
      have e0 : wr.drew.cell? ⟨H, 0, none⟩ = some (.func (.func 31) #[] #[]) := d0
      have hcd := cntN_drew hc'
      clear hx hu hle hp hkp
      by_cases h1 : 2 * k + 1 < n
      · have h1' : 2 * (k : Int) + 1 < (n : Int) := by omega
        obtain ⟨s, hs⟩ : ∃ s, s = 2 * k + 1 := ⟨_, rfl⟩
        have hsi : 2 * (k : Int) + 1 = (s : Int) := by omega
        have HS := Lib.hid hs
        have hs0 : 0 ≤ (s : Int) := by omega
        have hsn : (s : Int) < (n : Int) := by omega
        by_cases h2 : s + 1 < n
        · obtain ⟨r, hr⟩ : ∃ r, r = s + 1 := ⟨_, rfl⟩
          have HR := Lib.hid hr
          have hri : (s : Int) + 1 = (r : Int) := by omega
          have hrn : (r : Int) < (n : Int) := by omega
          have hr0 : 0 ≤ (r : Int) := by omega
          have hwr : IntKind.i64.wrap ((s : Int) + 1) = (r : Int) := by rw [hri]; exact IntWalk.i64_in _ (by omega)
          have hdr : decide ((r : Int) < (n : Int)) = true := decide_eq_true hrn
          obtain ⟨y1, hy1⟩ : ∃ y, gt l' s = y := ⟨_, rfl⟩
          obtain ⟨y2, hy2⟩ : ∃ y, gt l' r = y := ⟨_, rfl⟩
          have HY1 := Lib.hid hy1
          have HY2 := Lib.hid hy2
          have h1c : AtN wr.drew g s y1 := ha.at_ hl' (by omega) hy1
          have h2c : AtN wr.drew g r y2 := ha.at_ hl' (by omega) hy2
          unfold AtN at h1c h2c
          have HSI := Lib.hid hsi
          have HWR := Lib.hid hwr
          have HDR := Lib.hid hdr
          clear hs hr hy1 hy2 ha hl' h1 h2 hsi hri hwr hdr
          go_wp2
          rw [HSI.out]
          have hwr := HWR.out
          have hdr := HDR.out
          cases hbh : aheadE rkN y2 y1 with
          | true =>
            go_region_held3 (fun w' : World => (w'.cell? (⟨g, r * 2, none⟩ : Addr) = some (.int .i64 y2.1.1) ∧ w'.cell? (⟨g, r * 2 + 1, none⟩ : Addr) = some (.int .u64 y2.2)) ∧ (w'.cell? (⟨g, s * 2, none⟩ : Addr) = some (.int .i64 y1.1.1) ∧ w'.cell? (⟨g, s * 2 + 1, none⟩ : Addr) = some (.int .u64 y1.2)))
              (first | exact ⟨h2c, h1c⟩ | exact ⟨hy2, hy1⟩)
              ((go_at_call 54; ((with_reducible refine (aheadN_any C H c' y2 y1 _ e0 hcd).mono ?_); rintro e w1 ⟨rfl, hk1, hc1⟩; rw [hbh]; have ha1 := HA.out.kp (Kp.undrew hk1) (fun e => (HCS.out _ e).1 rfl) (fun k e e2 => (HCS.out k e2).2 (by injection e with e; exact e.symm)); have hy1 := ha1.at_ HL.out (by omega) HY1.out; have hy2 := ha1.at_ HL.out (by omega) HY2.out)))
            go_wp2
            have hs := HS.out
            have hr := HR.out
            obtain ⟨a, ha⟩ : ∃ a, a = r := ⟨_, rfl⟩
            rw [← ha]
            have hak : a < n := by omega
            have ha12 : a = 2 * k + 1 ∨ a = 2 * k + 2 := by omega
            have HCH := Lib.hid (show Child rkN l' k a from .inr ⟨by omega, by rw [show 2 * k + 2 = r by omega, show 2 * k + 1 = s by omega, HY1.out, HY2.out]; exact aheadE_t hbh⟩)
            obtain ⟨c1, hcc⟩ : ∃ c1, c1 = c' + 1 := ⟨_, rfl⟩
            rw [← hcc] at hc1
            have HC1 := Lib.hid (show c1 ≤ c' + 1 by omega)
            have HKP1 := Lib.hid (HKP.out.trans (Kp.undrew hk1) (fun _ _ e => .inr e))
            have han : (a : Int) < (n : Int) := by omega
            have ha0 : 0 ≤ (a : Int) := by omega
            clear hs hr ha hcc hy1 hy2 hwr hdr h1c h2c
            obtain ⟨z, hz⟩ : ∃ z, gt l' a = z := ⟨_, rfl⟩
            have HZ := Lib.hid hz
            have hzc : AtN w1.drew g a z := ha1.at_ HL.out (by omega) hz
            have hxc : AtN w1.drew g k x := ha1.at_ HL.out (by omega) HX.out
            obtain ⟨d0, _, _, _, _, _⟩ := ha1.blk.three
            have e0 : w1.drew.cell? ⟨H, 0, none⟩ = some (.func (.func 31) #[] #[]) := d0
            have hcd := cntN_drew hc1
            have HA1 := Lib.hid ha1
            clear hz ha1
            unfold AtN at hzc hxc
            cases hah : aheadE rkN z x with
            | true =>
              go_region_held3 (fun w' : World => (w'.cell? (⟨g, a * 2, none⟩ : Addr) = some (.int .i64 z.1.1) ∧ w'.cell? (⟨g, a * 2 + 1, none⟩ : Addr) = some (.int .u64 z.2)) ∧ (w'.cell? (⟨g, k * 2, none⟩ : Addr) = some (.int .i64 x.1.1) ∧ w'.cell? (⟨g, k * 2 + 1, none⟩ : Addr) = some (.int .u64 x.2)))
                (first | exact ⟨hzc, hxc⟩ | exact ⟨hz2, hx2⟩)
                ((go_at_call 54; ((with_reducible refine (aheadN_any C H c1 z x _ e0 hcd).mono ?_); rintro e w2 ⟨rfl, hk2, hc2⟩; rw [hah]; have ha2 := HA1.out.kp (Kp.undrew hk2) (fun e => (HCS.out _ e).1 rfl) (fun k e e2 => (HCS.out k e2).2 (by injection e with e; exact e.symm)); have hz2 := ha2.at_ HL.out (by omega) HZ.out; have hx2 := ha2.at_ HL.out (by omega) HX.out)))
              go_wp2
              obtain ⟨z0, z1⟩ := hz2
              obtain ⟨x0, x1⟩ := hx2
              have fx0 := ha2.free HL.out (k * 2)
              have fx1 := ha2.free HL.out (k * 2 + 1)
              have fz0 := ha2.free HL.out (a * 2)
              have fz1 := ha2.free HL.out (a * 2 + 1)
              go_region
              have hl' := HL.out
              have hsw : sw l' k a = (l'.set k z).set a x := by unfold sw; rw [HX.out, HZ.out]
              have hl2 : (l'.set k z).length = n := (List.length_set ..).trans hl'
              obtain ⟨ha3, kp3⟩ := ha2.put hl' hk z
              obtain ⟨ha4, kp4⟩ := ha3.put hl2 hak x
              rw [← hsw] at ha4
              have hp4 := (sw_perm (l := l') (i := k) (j := a) (by omega) (by omega)).trans HPE.out
              have hu4 : DownH rkN (sw l' k a) a := down_go HU.out HCH.out (by omega) (by rw [HX.out, HZ.out]; exact aheadE_t hah)
              have hkp4 := ((HKP1.out.trans (Kp.undrew hk2) (fun _ _ e => .inr e)).trans kp3 (fun i _ e => .inl (by rw [e]; rfl))).trans kp4 (fun i _ e => .inl (by rw [e]; rfl))
              have hc4 := cntN_kp (cntN_kp hc2 kp3 (fun i e e2 => (HCS.out i e).2 e2)) kp4 (fun i e e2 => (HCS.out i e).2 e2)
              have hle4 : c1 + 1 ≤ c + 2 * Nat.log2 (a + 1) := by
                have h1 := HLE.out
                have h2 := log_child (i := k) (c := a) ha12
                have h3 := HC1.out
                omega
              have hsl := (sw_length l' k a).trans hl'
              obtain ⟨w3, hw3⟩ : ∃ w3, (putN (putN w2 g k z) g a x).drew = w3 := ⟨_, rfl⟩
              have hkp5 := hkp4.drew
              have ha5 := ha4.drew
              have hc5 := cntN_drew hc4
              rw [hw3] at hkp5 ha5 hc5
              unfold putN at hw3
              rw [hw3]
              clear hw3 hkp4 ha4 hc4 kp3 kp4 ha3 ha2 hsw hl2
              go_wp2
              go_roundg (n - a)
              case measure => omega
              case rel => exact ⟨a, c1 + 1, sw l' k a, rfl, hak, by omega, hsl, ha5, hp4, hu4, hkp5, hc5, hle4⟩
            | false =>
              go_region_held3 (fun w' : World => (w'.cell? (⟨g, a * 2, none⟩ : Addr) = some (.int .i64 z.1.1) ∧ w'.cell? (⟨g, a * 2 + 1, none⟩ : Addr) = some (.int .u64 z.2)) ∧ (w'.cell? (⟨g, k * 2, none⟩ : Addr) = some (.int .i64 x.1.1) ∧ w'.cell? (⟨g, k * 2 + 1, none⟩ : Addr) = some (.int .u64 x.2)))
                (first | exact ⟨hzc, hxc⟩ | exact ⟨hz2, hx2⟩)
                ((go_at_call 54; ((with_reducible refine (aheadN_any C H c1 z x _ e0 hcd).mono ?_); rintro e w2 ⟨rfl, hk2, hc2⟩; rw [hah]; have ha2 := HA1.out.kp (Kp.undrew hk2) (fun e => (HCS.out _ e).1 rfl) (fun k e e2 => (HCS.out k e2).2 (by injection e with e; exact e.symm)); have hz2 := ha2.at_ HL.out (by omega) HZ.out; have hx2 := ha2.at_ HL.out (by omega) HX.out)))
              go_wp2
              refine bodyPost_ret (results_none rfl _ _ _) rfl ?_
              rw [HN.out]
              have hkp2 := HKP1.out.trans (Kp.undrew hk2) (fun _ _ e => .inr e)
              refine ⟨rfl, l', c1 + 1, ha2, HPE.out, down_stop HU.out HCH.out (by rw [HX.out, HZ.out]; exact aheadE_f hah), hkp2, hc2, ?_⟩
              have h1 := HLE.out
              have h2 := log_child (i := k) (c := a) ha12
              have h3 := log_mono (show a + 1 ≤ n by omega) (by omega)
              have h4 := HC1.out
              omega
          | false =>
            go_region_held3 (fun w' : World => (w'.cell? (⟨g, r * 2, none⟩ : Addr) = some (.int .i64 y2.1.1) ∧ w'.cell? (⟨g, r * 2 + 1, none⟩ : Addr) = some (.int .u64 y2.2)) ∧ (w'.cell? (⟨g, s * 2, none⟩ : Addr) = some (.int .i64 y1.1.1) ∧ w'.cell? (⟨g, s * 2 + 1, none⟩ : Addr) = some (.int .u64 y1.2)))
              (first | exact ⟨h2c, h1c⟩ | exact ⟨hy2, hy1⟩)
              ((go_at_call 54; ((with_reducible refine (aheadN_any C H c' y2 y1 _ e0 hcd).mono ?_); rintro e w1 ⟨rfl, hk1, hc1⟩; rw [hbh]; have ha1 := HA.out.kp (Kp.undrew hk1) (fun e => (HCS.out _ e).1 rfl) (fun k e e2 => (HCS.out k e2).2 (by injection e with e; exact e.symm)); have hy1 := ha1.at_ HL.out (by omega) HY1.out; have hy2 := ha1.at_ HL.out (by omega) HY2.out)))
            go_wp2
            have hs := HS.out
            have hr := HR.out
            obtain ⟨a, ha⟩ : ∃ a, a = s := ⟨_, rfl⟩
            rw [← ha]
            have hak : a < n := by omega
            have ha12 : a = 2 * k + 1 ∨ a = 2 * k + 2 := by omega
            have HCH := Lib.hid (show Child rkN l' k a from .inl ⟨by omega, fun _ => by rw [show 2 * k + 2 = r by omega, show 2 * k + 1 = s by omega, HY1.out, HY2.out]; exact aheadE_f hbh⟩)
            obtain ⟨c1, hcc⟩ : ∃ c1, c1 = c' + 1 := ⟨_, rfl⟩
            rw [← hcc] at hc1
            have HC1 := Lib.hid (show c1 ≤ c' + 1 by omega)
            have HKP1 := Lib.hid (HKP.out.trans (Kp.undrew hk1) (fun _ _ e => .inr e))
            have han : (a : Int) < (n : Int) := by omega
            have ha0 : 0 ≤ (a : Int) := by omega
            clear hs hr ha hcc hy1 hy2 hwr hdr h1c h2c
            obtain ⟨z, hz⟩ : ∃ z, gt l' a = z := ⟨_, rfl⟩
            have HZ := Lib.hid hz
            have hzc : AtN w1.drew g a z := ha1.at_ HL.out (by omega) hz
            have hxc : AtN w1.drew g k x := ha1.at_ HL.out (by omega) HX.out
            obtain ⟨d0, _, _, _, _, _⟩ := ha1.blk.three
            have e0 : w1.drew.cell? ⟨H, 0, none⟩ = some (.func (.func 31) #[] #[]) := d0
            have hcd := cntN_drew hc1
            have HA1 := Lib.hid ha1
            clear hz ha1
            unfold AtN at hzc hxc
            cases hah : aheadE rkN z x with
            | true =>
              go_region_held3 (fun w' : World => (w'.cell? (⟨g, a * 2, none⟩ : Addr) = some (.int .i64 z.1.1) ∧ w'.cell? (⟨g, a * 2 + 1, none⟩ : Addr) = some (.int .u64 z.2)) ∧ (w'.cell? (⟨g, k * 2, none⟩ : Addr) = some (.int .i64 x.1.1) ∧ w'.cell? (⟨g, k * 2 + 1, none⟩ : Addr) = some (.int .u64 x.2)))
                (first | exact ⟨hzc, hxc⟩ | exact ⟨hz2, hx2⟩)
                ((go_at_call 54; ((with_reducible refine (aheadN_any C H c1 z x _ e0 hcd).mono ?_); rintro e w2 ⟨rfl, hk2, hc2⟩; rw [hah]; have ha2 := HA1.out.kp (Kp.undrew hk2) (fun e => (HCS.out _ e).1 rfl) (fun k e e2 => (HCS.out k e2).2 (by injection e with e; exact e.symm)); have hz2 := ha2.at_ HL.out (by omega) HZ.out; have hx2 := ha2.at_ HL.out (by omega) HX.out)))
              go_wp2
              obtain ⟨z0, z1⟩ := hz2
              obtain ⟨x0, x1⟩ := hx2
              have fx0 := ha2.free HL.out (k * 2)
              have fx1 := ha2.free HL.out (k * 2 + 1)
              have fz0 := ha2.free HL.out (a * 2)
              have fz1 := ha2.free HL.out (a * 2 + 1)
              go_region
              have hl' := HL.out
              have hsw : sw l' k a = (l'.set k z).set a x := by unfold sw; rw [HX.out, HZ.out]
              have hl2 : (l'.set k z).length = n := (List.length_set ..).trans hl'
              obtain ⟨ha3, kp3⟩ := ha2.put hl' hk z
              obtain ⟨ha4, kp4⟩ := ha3.put hl2 hak x
              rw [← hsw] at ha4
              have hp4 := (sw_perm (l := l') (i := k) (j := a) (by omega) (by omega)).trans HPE.out
              have hu4 : DownH rkN (sw l' k a) a := down_go HU.out HCH.out (by omega) (by rw [HX.out, HZ.out]; exact aheadE_t hah)
              have hkp4 := ((HKP1.out.trans (Kp.undrew hk2) (fun _ _ e => .inr e)).trans kp3 (fun i _ e => .inl (by rw [e]; rfl))).trans kp4 (fun i _ e => .inl (by rw [e]; rfl))
              have hc4 := cntN_kp (cntN_kp hc2 kp3 (fun i e e2 => (HCS.out i e).2 e2)) kp4 (fun i e e2 => (HCS.out i e).2 e2)
              have hle4 : c1 + 1 ≤ c + 2 * Nat.log2 (a + 1) := by
                have h1 := HLE.out
                have h2 := log_child (i := k) (c := a) ha12
                have h3 := HC1.out
                omega
              have hsl := (sw_length l' k a).trans hl'
              obtain ⟨w3, hw3⟩ : ∃ w3, (putN (putN w2 g k z) g a x).drew = w3 := ⟨_, rfl⟩
              have hkp5 := hkp4.drew
              have ha5 := ha4.drew
              have hc5 := cntN_drew hc4
              rw [hw3] at hkp5 ha5 hc5
              unfold putN at hw3
              rw [hw3]
              clear hw3 hkp4 ha4 hc4 kp3 kp4 ha3 ha2 hsw hl2
              go_wp2
              go_roundg (n - a)
              case measure => omega
              case rel => exact ⟨a, c1 + 1, sw l' k a, rfl, hak, by omega, hsl, ha5, hp4, hu4, hkp5, hc5, hle4⟩
            | false =>
              go_region_held3 (fun w' : World => (w'.cell? (⟨g, a * 2, none⟩ : Addr) = some (.int .i64 z.1.1) ∧ w'.cell? (⟨g, a * 2 + 1, none⟩ : Addr) = some (.int .u64 z.2)) ∧ (w'.cell? (⟨g, k * 2, none⟩ : Addr) = some (.int .i64 x.1.1) ∧ w'.cell? (⟨g, k * 2 + 1, none⟩ : Addr) = some (.int .u64 x.2)))
                (first | exact ⟨hzc, hxc⟩ | exact ⟨hz2, hx2⟩)
                ((go_at_call 54; ((with_reducible refine (aheadN_any C H c1 z x _ e0 hcd).mono ?_); rintro e w2 ⟨rfl, hk2, hc2⟩; rw [hah]; have ha2 := HA1.out.kp (Kp.undrew hk2) (fun e => (HCS.out _ e).1 rfl) (fun k e e2 => (HCS.out k e2).2 (by injection e with e; exact e.symm)); have hz2 := ha2.at_ HL.out (by omega) HZ.out; have hx2 := ha2.at_ HL.out (by omega) HX.out)))
              go_wp2
              refine bodyPost_ret (results_none rfl _ _ _) rfl ?_
              rw [HN.out]
              have hkp2 := HKP1.out.trans (Kp.undrew hk2) (fun _ _ e => .inr e)
              refine ⟨rfl, l', c1 + 1, ha2, HPE.out, down_stop HU.out HCH.out (by rw [HX.out, HZ.out]; exact aheadE_f hah), hkp2, hc2, ?_⟩
              have h1 := HLE.out
              have h2 := log_child (i := k) (c := a) ha12
              have h3 := log_mono (show a + 1 ≤ n by omega) (by omega)
              have h4 := HC1.out
              omega
        · have hwr : IntKind.i64.wrap ((s : Int) + 1) = (s : Int) + 1 := IntWalk.i64_in _ (by omega)
          have hdr : decide ((s : Int) + 1 < (n : Int)) = false := decide_eq_false (by omega)
          have HSI := Lib.hid hsi
          have HWR := Lib.hid hwr
          have HDR := Lib.hid hdr
          have HH2 := Lib.hid h2
          clear hs hl' h1 h2 hsi hwr hdr ha
          go_wp2
          rw [HSI.out]
          have hwr := HWR.out
          have hdr := HDR.out
          go_quiet (fail)
          generalize hw1 : World.drewN wr _ = w1
          have ha1 : ArrN C w1 H (.slice (some ⟨g, 0, none⟩) n cap) l' p := by rw [← hw1]; exact HA.out.drewN _
          have hc1 : CntN C w1 c' := by rw [← hw1]; exact cntN_drewN hc' _
          have HKP1 := Lib.hid (show Kp (fun k => (Value.slice (some ⟨g, 0, none⟩) n cap).ownBlock = some k ∨ CsN C k) w w1 by rw [← hw1]; exact HKP.out.drewN _)
          clear hw1 hwr hdr
          go_wp2
          have hs := HS.out
          have h2 := HH2.out
          obtain ⟨a, ha⟩ : ∃ a, a = s := ⟨_, rfl⟩
          rw [← ha]
          have hak : a < n := by omega
          have ha12 : a = 2 * k + 1 ∨ a = 2 * k + 2 := by omega
          have HCH := Lib.hid (show Child rkN l' k a from .inl ⟨by omega, fun h3 => absurd h3 (by have := HL.out; omega)⟩)
          obtain ⟨c1, hcc⟩ : ∃ c1, c1 = c' := ⟨_, rfl⟩
          rw [← hcc] at hc1
          have HC1 := Lib.hid (show c1 ≤ c' + 1 by omega)
          have han : (a : Int) < (n : Int) := by omega
          have ha0 : 0 ≤ (a : Int) := by omega
          clear hs ha hcc h2
          obtain ⟨z, hz⟩ : ∃ z, gt l' a = z := ⟨_, rfl⟩
          have HZ := Lib.hid hz
          have hzc : AtN w1.drew g a z := ha1.at_ HL.out (by omega) hz
          have hxc : AtN w1.drew g k x := ha1.at_ HL.out (by omega) HX.out
          obtain ⟨d0, _, _, _, _, _⟩ := ha1.blk.three
          have e0 : w1.drew.cell? ⟨H, 0, none⟩ = some (.func (.func 31) #[] #[]) := d0
          have hcd := cntN_drew hc1
          have HA1 := Lib.hid ha1
          clear hz ha1
          unfold AtN at hzc hxc
          cases hah : aheadE rkN z x with
          | true =>
            go_region_held3 (fun w' : World => (w'.cell? (⟨g, a * 2, none⟩ : Addr) = some (.int .i64 z.1.1) ∧ w'.cell? (⟨g, a * 2 + 1, none⟩ : Addr) = some (.int .u64 z.2)) ∧ (w'.cell? (⟨g, k * 2, none⟩ : Addr) = some (.int .i64 x.1.1) ∧ w'.cell? (⟨g, k * 2 + 1, none⟩ : Addr) = some (.int .u64 x.2)))
              (first | exact ⟨hzc, hxc⟩ | exact ⟨hz2, hx2⟩)
              ((go_at_call 54; ((with_reducible refine (aheadN_any C H c1 z x _ e0 hcd).mono ?_); rintro e w2 ⟨rfl, hk2, hc2⟩; rw [hah]; have ha2 := HA1.out.kp (Kp.undrew hk2) (fun e => (HCS.out _ e).1 rfl) (fun k e e2 => (HCS.out k e2).2 (by injection e with e; exact e.symm)); have hz2 := ha2.at_ HL.out (by omega) HZ.out; have hx2 := ha2.at_ HL.out (by omega) HX.out)))
            go_wp2
            obtain ⟨z0, z1⟩ := hz2
            obtain ⟨x0, x1⟩ := hx2
            have fx0 := ha2.free HL.out (k * 2)
            have fx1 := ha2.free HL.out (k * 2 + 1)
            have fz0 := ha2.free HL.out (a * 2)
            have fz1 := ha2.free HL.out (a * 2 + 1)
            go_region
            have hl' := HL.out
            have hsw : sw l' k a = (l'.set k z).set a x := by unfold sw; rw [HX.out, HZ.out]
            have hl2 : (l'.set k z).length = n := (List.length_set ..).trans hl'
            obtain ⟨ha3, kp3⟩ := ha2.put hl' hk z
            obtain ⟨ha4, kp4⟩ := ha3.put hl2 hak x
            rw [← hsw] at ha4
            have hp4 := (sw_perm (l := l') (i := k) (j := a) (by omega) (by omega)).trans HPE.out
            have hu4 : DownH rkN (sw l' k a) a := down_go HU.out HCH.out (by omega) (by rw [HX.out, HZ.out]; exact aheadE_t hah)
            have hkp4 := ((HKP1.out.trans (Kp.undrew hk2) (fun _ _ e => .inr e)).trans kp3 (fun i _ e => .inl (by rw [e]; rfl))).trans kp4 (fun i _ e => .inl (by rw [e]; rfl))
            have hc4 := cntN_kp (cntN_kp hc2 kp3 (fun i e e2 => (HCS.out i e).2 e2)) kp4 (fun i e e2 => (HCS.out i e).2 e2)
            have hle4 : c1 + 1 ≤ c + 2 * Nat.log2 (a + 1) := by
              have h1 := HLE.out
              have h2 := log_child (i := k) (c := a) ha12
              have h3 := HC1.out
              omega
            have hsl := (sw_length l' k a).trans hl'
            obtain ⟨w3, hw3⟩ : ∃ w3, (putN (putN w2 g k z) g a x).drew = w3 := ⟨_, rfl⟩
            have hkp5 := hkp4.drew
            have ha5 := ha4.drew
            have hc5 := cntN_drew hc4
            rw [hw3] at hkp5 ha5 hc5
            unfold putN at hw3
            rw [hw3]
            clear hw3 hkp4 ha4 hc4 kp3 kp4 ha3 ha2 hsw hl2
            go_wp2
            go_roundg (n - a)
            case measure => omega
            case rel => exact ⟨a, c1 + 1, sw l' k a, rfl, hak, by omega, hsl, ha5, hp4, hu4, hkp5, hc5, hle4⟩
          | false =>
            go_region_held3 (fun w' : World => (w'.cell? (⟨g, a * 2, none⟩ : Addr) = some (.int .i64 z.1.1) ∧ w'.cell? (⟨g, a * 2 + 1, none⟩ : Addr) = some (.int .u64 z.2)) ∧ (w'.cell? (⟨g, k * 2, none⟩ : Addr) = some (.int .i64 x.1.1) ∧ w'.cell? (⟨g, k * 2 + 1, none⟩ : Addr) = some (.int .u64 x.2)))
              (first | exact ⟨hzc, hxc⟩ | exact ⟨hz2, hx2⟩)
              ((go_at_call 54; ((with_reducible refine (aheadN_any C H c1 z x _ e0 hcd).mono ?_); rintro e w2 ⟨rfl, hk2, hc2⟩; rw [hah]; have ha2 := HA1.out.kp (Kp.undrew hk2) (fun e => (HCS.out _ e).1 rfl) (fun k e e2 => (HCS.out k e2).2 (by injection e with e; exact e.symm)); have hz2 := ha2.at_ HL.out (by omega) HZ.out; have hx2 := ha2.at_ HL.out (by omega) HX.out)))
            go_wp2
            refine bodyPost_ret (results_none rfl _ _ _) rfl ?_
            rw [HN.out]
            have hkp2 := HKP1.out.trans (Kp.undrew hk2) (fun _ _ e => .inr e)
            refine ⟨rfl, l', c1 + 1, ha2, HPE.out, down_stop HU.out HCH.out (by rw [HX.out, HZ.out]; exact aheadE_f hah), hkp2, hc2, ?_⟩
            have h1 := HLE.out
            have h2 := log_child (i := k) (c := a) ha12
            have h3 := log_mono (show a + 1 ≤ n by omega) (by omega)
            have h4 := HC1.out
            omega
      · have h1' : (n : Int) ≤ 2 * (k : Int) + 1 := by omega
        have H1 := Lib.hid h1
        clear h1 hl' ha
        go_wp2
        go_end0
        rw [HN.out]
        refine ⟨rfl, l', c', HA.out, HPE.out, down_end HU.out (by rw [HL.out]; exact H1.out), HKP.out, hc', ?_⟩
        have h1 := HLE.out
        have h2 := log_mono (show k + 1 ≤ n by omega) (by omega)
        omega
end Go.Proofs.Ytogfcenebbipeaa.W
