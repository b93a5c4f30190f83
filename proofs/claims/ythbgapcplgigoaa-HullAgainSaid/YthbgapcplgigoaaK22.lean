/-
  hull, plain: the width and the diameter of points within 2000; a pair at the greatest distance. Conditions: as stated.
  hull: HullDiameter: the call returns true. No condition.
-/
import Derived.Test.YthbgapcplgigoaaK16
namespace Go.Proofs.Ythbgapcplgigoaa.G
open Go.RowKit Go.Proofs.Ythbgapcplgigoaa.V Go.Proofs.Ythbgapcplgigoaa.W

def M2 (p : Pt) : Prop := p.1.natAbs ≤ 2000 ∧ p.2.natAbs ≤ 2000
theorem within_m2 {p : Pt} (h : withinV p.1 p.2 2000 = true) : M2 p := by
  unfold withinV at h
  rw [show w64 (-2000) = -2000 by rw [w64_eq]; omega] at h
  simp at h
  unfold M2
  omega
theorem m2_ok {p : Pt} (h : M2 p) : sOk p = true := by
  rw [sOk_iff]
  unfold M2 at h
  omega
theorem mul_le' {x y : Int} {a b : Nat} (hx : x.natAbs ≤ a) (hy : y.natAbs ≤ b) : (x * y).natAbs ≤ a * b := by
  rw [Int.natAbs_mul]
  exact Nat.mul_le_mul hx hy
theorem dt_m2 {x d : Pt} (hx : M2 x) (hd : M2 d) : (dtP x d).natAbs ≤ 8000000 := by
  have h1 := mul_le' hx.1 hd.1
  have h2 := mul_le' hx.2 hd.2
  unfold dtP
  omega
theorem sq_m2 {x y : Pt} (hx : M2 x) (hy : M2 y) : (sqP x y).natAbs ≤ 32000000 := by
  unfold M2 at hx hy
  have h1 := mul_le' (x := y.1 - x.1) (y := y.1 - x.1) (a := 4000) (b := 4000) (by omega) (by omega)
  have h2 := mul_le' (x := y.2 - x.2) (y := y.2 - x.2) (a := 4000) (b := 4000) (by omega) (by omega)
  unfold sqP
  omega
theorem dia_words {r : List Pt} {d : Pt} (hr : ∀ x ∈ r, M2 x) (hd : M2 d) (hc : ConvP r) (hs : allS r = true) :
    w64 (widH d r * widH d r) = widH d r * widH d r ∧ dotV d.1 d.2 d.1 d.2 = dtP d d ∧ w64 (diaH r * dtP d d) = diaH r * dtP d d ∧ widH d r * widH d r ≤ diaH r * dtP d d := by
  have h3 := hc.1
  have hw := widH_wid (d := d) (l := r) (by omega)
  have hd2 := diaH_dia hs hc
  have wd := wid_dia hw hd2
  obtain ⟨x, hx, ex⟩ := hw.atl
  obtain ⟨y, hy, ey⟩ := hw.ath
  have bx := dt_m2 (hr x hx) hd
  have by' := dt_m2 (hr y hy) hd
  have bd := dt_m2 hd hd
  obtain ⟨i, k, hk, hi, e⟩ := hd2.pair
  have bs := sq_m2 (hr _ (vx_mem hi)) (hr _ (vx_mem (show k < r.length by omega)))
  rw [e] at bs
  rw [ex] at bx
  rw [ey] at by'
  have bw : (widH d r).natAbs ≤ 16000000 := by unfold widH; omega
  have m1 := mul_le' bw bw
  have m2 := mul_le' bs bd
  have mid : Mid d := by unfold M2 at hd; unfold Mid; omega
  refine ⟨w64_id ⟨by omega, by omega⟩, dot_mid mid mid, w64_id ⟨by omega, by omega⟩, ?_⟩
  exact wd
/-- a pair at the distance n, so far -/
def fdR (l : List Pt) (n : Int) (i : Nat) (s : Bool) : Nat → Bool
  | 0 => s
  | k + 1 => fdR l n i s k || (dsV (at_ l i) (at_ l k) == n)
def fdTo (l : List Pt) (n : Int) : Nat → Bool
  | 0 => false
  | i + 1 => fdR l n i (fdTo l n i) i
theorem fdR_true {l : List Pt} {n : Int} {i : Nat} : ∀ {s : Bool} (k : Nat), (s = true ∨ ∃ j, j < k ∧ dsV (at_ l i) (at_ l j) = n) → fdR l n i s k = true
  | s, 0, h => by
    rcases h with h | ⟨j, hj, _⟩
    · exact h
    · exact absurd hj (Nat.not_lt_zero j)
  | s, k + 1, h => by
    unfold fdR
    rw [Bool.or_eq_true]
    rcases h with h | ⟨j, hj, e⟩
    · exact .inl (fdR_true k (.inl h))
    · by_cases g : j = k
      · subst g
        exact .inr (by simpa using e)
      · exact .inl (fdR_true k (.inr ⟨j, by omega, e⟩))
theorem fdTo_true {l : List Pt} {n : Int} {a b : Nat} (hb : b < a) (e : dsV (at_ l a) (at_ l b) = n) : ∀ m, a < m → fdTo l n m = true
  | 0, h => absurd h (Nat.not_lt_zero a)
  | m + 1, h => by
    unfold fdTo
    by_cases g : a = m
    · subst g
      exact fdR_true a (.inr ⟨b, hb, e⟩)
    · exact fdR_true m (.inl (fdTo_true hb e m (by omega)))
theorem fd_dia {r : List Pt} (hc : ConvP r) (hs : allS r = true) : fdTo r (diaH r) r.length = true := by
  obtain ⟨i, k, hk, hi, e⟩ := (diaH_dia hs hc).pair
  exact fdTo_true hk (by rw [ds_small (allS_at hs hi) (allS_at hs (by omega))]; exact e) _ hi
end Go.Proofs.Ythbgapcplgigoaa.G

namespace Go.Proofs.Ythbgapcplgigoaa.W
open Go.RowKit Go.Proofs.Ythbgapcplgigoaa.V Go.Proofs.Ythbgapcplgigoaa.G


set_option maxRecDepth 100000 in
set_option maxHeartbeats 12800000 in
theorem hullDiameter_any (l : List (Int × Int)) (dx dy : Int) (v : Value) (w : World) (hv : SrcV w v l) : Calls Try.prog 9 #[v, vV dx dy] w fun e w' => e = .returned (.bool true) ∧ Nw w w' := by
  have hmix := mixed7
  obtain ⟨A, c, rfl⟩ := hv.shape
  obtain ⟨n, hn⟩ : ∃ n, l.length = n := ⟨_, rfl⟩
  replace hv := src_n hv hn
  have HV := Lib.hid hv
  have HN := Lib.hid hn
  have HSV := Lib.hid (src_v hv hn)
  have hmx := src_max hv
  rw [hn]
  clear hv hn
  obtain ⟨sa, hsa⟩ : ∃ b, (allS l && decide (l.length ≤ 30)) = b := ⟨_, rfl⟩
  have csa := fun w1 (h : Nw w w1) => small_any l (.slice A n c) w1 (HSV.out.nw h)
  rw [hsa] at csa
  have Hsa := Lib.hid hsa
  clear hsa
  have cwd := fun w1 => rwithin_any dx dy 2000 w1
  obtain ⟨wd, hwd⟩ : ∃ b, withinV dx dy 2000 = b := ⟨_, rfl⟩
  rw [hwd] at cwd
  have HWD := Lib.hid hwd
  clear hwd
  obtain ⟨W0, hW0⟩ : ∃ W, w.alloc (.cells #[.int .i64 dx, .int .i64 dy] 32) = W := ⟨_, rfl⟩
  have HW0 := Lib.hid (show Nw w W0 by rw [← hW0]; exact nw_alloc _ _)
  have HB0 := Lib.hid (show Blk W0 w.heap.size 32 #[.int .i64 dx, .int .i64 dy] by rw [← hW0]; exact Blk.new _ _ _)
  go_enter Try.func9, Try.ntmps9
  go_wp2_with fail
  refine (awakeH_any _).mono ?_
  rintro e w1 ⟨rfl, k1⟩
  obtain ⟨B, hB⟩ : ∃ B, w.heap.size = B := ⟨_, rfl⟩
  rw [hB] at HB0 ⊢
  have HK1 := Lib.hid (HW0.out.tr k1)
  have HB1 := Lib.hid (HB0.out.kp k1 id)
  clear hB hW0 k1
  go_wp2_with fail
  refine (csa _ HK1.out).mono ?_
  rintro e w2 ⟨rfl, k2⟩
  have HK2 := Lib.hid (HK1.out.tr k2)
  have HB2 := Lib.hid (HB1.out.kp k2 id)
  clear k2 csa
  cases sa
  · go_wp2_with fail
    go_ret
    exact ⟨rfl, HK2.out⟩
  obtain ⟨hs, h30⟩ : allS l = true ∧ l.length ≤ 30 := by
    have := Hsa.out
    rw [Bool.and_eq_true, decide_eq_true_eq] at this
    exact this
  have hl : n ≤ 30 := by rw [← HN.out]; exact h30
  obtain ⟨y0, y1, _, _⟩ := HB2.out.two
  go_wp2_with fail
  refine (cwd _).mono ?_
  rintro e w3 ⟨rfl, k3⟩
  have HK3 := Lib.hid (HK2.out.tr k3)
  have HB3 := Lib.hid (HB2.out.kp k3 id)
  clear k3 cwd y0 y1
  cases wd
  · go_wp2_with fail
    go_ret
    exact ⟨rfl, HK3.out⟩
  go_wp2_with fail
  go_loopw [5] (fun i wr => ∃ k : Nat, i = .int .i64 k ∧ k ≤ n ∧ (∀ j, j < k → M2 (at_ l j)) ∧ Nw w3 wr) (fun i _ => n - (intOf i).toNat)
  case atStart => exact ⟨0, rfl, Nat.zero_le _, fun j h => absurd h (Nat.not_lt_zero _), (by repeat (first | exact Kp.refl _ _ | refine Kp.alloc ?_ _ | refine Kp.drew ?_))⟩
  case round =>
    obtain ⟨k, rfl, hk, hall, hnw⟩ := hrel
    have HA := Lib.hid hall
    clear hall
    have HK := Lib.hid hnw
    clear hnw
    by_cases hkn : k < n
    · have i0 : (0 : Int) ≤ (k : Int) := by omega
      have i1 : (k : Int) < (n : Int) := by omega
      obtain ⟨s4, hs4⟩ : ∃ s : Nat, k + 1 = s := ⟨_, rfl⟩
      have a4 : IntKind.i64.wrap ((k : Int) + 1) = (s4 : Int) := by rw [IntKind.wrap_i64]; omega
      have H4 := Lib.hid hs4
      obtain ⟨g, o, e0, hg, hc⟩ := src_at HV.out (by omega)
      subst e0
      obtain ⟨⟨ax, ay⟩, ha⟩ : ∃ p, at_ l k = p := ⟨_, rfl⟩
      obtain ⟨y0, y1⟩ := hc wr (HK3.out.tr HK.out) k hkn
      rw [ha] at y0 y1
      have cw := fun w1 => rwithin_any ax ay 2000 w1
      obtain ⟨b, hb⟩ : ∃ b, withinV ax ay 2000 = b := ⟨_, rfl⟩
      rw [hb] at cw
      have HWB := Lib.hid (show b = true → M2 (at_ l k) from fun h => by rw [ha]; exact within_m2 (p := (ax, ay)) (by rw [← h]; exact hb))
      clear hs4 hc hg ha hb
      go_wp2_with fail
      refine (cw _).mono ?_
      rintro e w5 ⟨rfl, k5⟩
      have HK5 := Lib.hid (HK.out.tr k5)
      clear k5 cw y0 y1
      cases b
      · go_wp2_with fail
        go_ret
        exact ⟨rfl, HK3.out.tr HK5.out⟩
      · go_wp2_with fail
        go_roundw
        case rel =>
          refine ⟨k + 1, by rw [← H4.out], by omega, fun j hj => ?_, HK5.out⟩
          rcases Nat.lt_or_ge j k with h | h
          · exact HA.out j h
          · obtain rfl : j = k := by omega
            first | exact HWB.out rfl | exact HWB.out trivial
        case measure => (have := H4.out; simp [intOf]; try omega)
    · obtain rfl : k = n := by omega
      have i5 : ¬ ((k : Int) < (k : Int)) := by omega
      have HM2 := Lib.hid (show ∀ x ∈ l, M2 x from fun x hx => by
        obtain ⟨i, hi, rfl⟩ := vx_at hx
        exact HA.out i (by rw [HN.out] at hi; exact hi))
      have chl := hull_any l (.slice A k c) wr (HSV.out.nw (HK3.out.tr HK.out))
      have HK4 := Lib.hid (HK3.out.tr HK.out)
      have HB4 := Lib.hid (HB3.out.kp HK.out id)
      clear HK HA
      rcases hullH_small hs (by omega) with ⟨hf, he⟩ | ⟨r, hh, he, hcv, hsr⟩
      · rw [he] at chl
        simp only at chl
        clear hf he hs h30
        go_wp2_with fail
        refine chl.mono ?_
        rintro e w5 ⟨v5, rfl, s5, k5⟩
        obtain ⟨A5, c5, rfl⟩ := s5.shape
        go_wp2_with fail
        go_ret
        exact ⟨rfl, HK4.out.tr k5⟩
      rw [he] at chl
      simp only at chl
      have hdm : M2 (dx, dy) := within_m2 (p := (dx, dy)) HWD.out
      have hdo := m2_ok hdm
      obtain ⟨f1, f2, f3, f4⟩ := dia_words (d := (dx, dy)) (fun x hx => HM2.out x (hh.sub hx)) hdm hh.conv hsr
      have ffd := fd_dia hh.conv hsr
      have e1 : widQ r (dx, dy) = widH (dx, dy) r := by unfold widQ; rw [hcv, hdo]; rfl
      have e2 : errW r (dx, dy) = 0 := by unfold errW; rw [hcv, hdo]; rfl
      have e3 : diaQ r = diaH r := by unfold diaQ; rw [hcv]; rfl
      have e4 : errQ r = 0 := by unfold errQ; rw [hcv]; rfl
      obtain ⟨rn, hrn⟩ : ∃ x, r.length = x := ⟨_, rfl⟩
      have hr30 : rn ≤ 30 := by rw [← hrn]; exact Nat.le_trans (hull_sub hh (fun _ h => h)) h30
      rw [hrn] at ffd
      obtain ⟨ww, hww⟩ : ∃ x, widH (dx, dy) r = x := ⟨_, rfl⟩
      obtain ⟨nn, hnn⟩ : ∃ x, diaH r = x := ⟨_, rfl⟩
      obtain ⟨dd, hdd⟩ : ∃ x, dtP (dx, dy) (dx, dy) = x := ⟨_, rfl⟩
      rw [hww] at f1 f4 e1
      rw [hnn] at f3 f4 ffd e3
      rw [hdd] at f2 f3 f4
      simp only at f2
      obtain ⟨w2', hw2'⟩ : ∃ x, ww * ww = x := ⟨_, rfl⟩
      obtain ⟨p2, hp2⟩ : ∃ x, nn * dd = x := ⟨_, rfl⟩
      rw [hw2'] at f4
      rw [hp2] at f4
      have HFF := Lib.hid (show IntKind.i64.wrap (ww * ww) = w2' ∧ IntKind.i64.wrap (nn * dd) = p2 ∧ decide (w2' ≤ p2) = true ∧ wrap64 (ww * ww) = w2' ∧ wrap64 (nn * dd) = p2 from ⟨by rw [wrapI, f1, hw2'], by rw [wrapI, f3, hp2], decide_eq_true f4, by rw [w64_def, f1, hw2'], by rw [w64_def, f3, hp2]⟩)
      have HFD := Lib.hid ffd
      have HRN := Lib.hid hrn
      go_wp2_with fail
      refine chl.mono ?_
      rintro e w5 ⟨v5, rfl, s5, k5⟩
      have HK5 := Lib.hid (HK4.out.tr k5)
      have HB5 := Lib.hid (HB4.out.kp k5 id)
      obtain ⟨A5, c5, rfl⟩ := s5.shape
      have HS5 := Lib.hid (show SrcV w5 (.slice A5 rn c5) r from hrn ▸ s5)
      have HR5 := Lib.hid (src_n s5 hrn)
      have hmx5 := src_max HR5.out
      rw [hrn]
      have cwi := wid_any r dx dy (.slice A5 rn c5) w5 HS5.out (by rw [hrn]; omega)
      rw [e1, e2] at cwi
      have cdi := fun w1 (h : Nw w5 w1) => dia_any r (.slice A5 rn c5) w1 (HS5.out.nw h) (by rw [HRN.out]; omega)
      rw [e3, e4] at cdi
      have cdd := fun w1 => rdot_any dx dy dx dy w1
      rw [f2] at cdd
      obtain ⟨y0, y1, _, _⟩ := HB5.out.two
      clear chl k5 s5 hs h30 he hh hcv hsr hdm hdo f1 f2 f3 f4 ffd e1 e2 e3 e4 hrn hww hnn hdd hw2' hp2
      go_wp2_with fail
      refine cwi.mono ?_
      rintro e w6 ⟨rfl, k6⟩
      clear y0 y1 cwi
      go_wp2_with fail
      refine (cdi _ k6).mono ?_
      rintro e w7 ⟨rfl, k7⟩
      have HK7 := Lib.hid (k6.tr k7)
      clear k6 k7 cdi
      go_wp2_with fail
      go_loopw [12, 13] (fun fo i wr => ∃ k : Nat, i = .int .i64 k ∧ k ≤ rn ∧ fo = .bool (fdTo r nn k) ∧ Nw w7 wr) (fun fo i _ => rn - (intOf i).toNat)
      case atStart => exact ⟨0, rfl, Nat.zero_le _, rfl, (by repeat (first | exact Kp.refl _ _ | refine Kp.alloc ?_ _ | refine Kp.drew ?_))⟩
      case round =>
        obtain ⟨k', rfl, hk', rfl, hnw⟩ := hrel
        obtain ⟨so, hso⟩ : ∃ x, fdTo r nn k' = x := ⟨_, rfl⟩
        rw [hso]
        have HSO := Lib.hid hso
        have HK := Lib.hid hnw
        clear hso hnw
        by_cases hkr : k' < rn
        · have i0 : (0 : Int) ≤ (k' : Int) := by omega
          have i1 : (k' : Int) < (rn : Int) := by omega
          obtain ⟨s4, hs4⟩ : ∃ s : Nat, k' + 1 = s := ⟨_, rfl⟩
          have a4 : IntKind.i64.wrap ((k' : Int) + 1) = (s4 : Int) := by rw [IntKind.wrap_i64]; omega
          have H4 := Lib.hid hs4
          clear hs4
          obtain ⟨wo, hwo⟩ : ∃ x, x = wr := ⟨_, rfl⟩
          subst hwo
          go_wp2_with fail
          go_loopw [12, 14] (fun fo j wx => ∃ m : Nat, j = .int .i64 m ∧ m ≤ k' ∧ fo = .bool (fdR r nn k' so m) ∧ Nw wo wx) (fun fo j _ => k' - (intOf j).toNat)
          case atStart => exact ⟨0, rfl, Nat.zero_le _, rfl, (by repeat (first | exact Kp.refl _ _ | refine Kp.alloc ?_ _ | refine Kp.drew ?_))⟩
          case round =>
            obtain ⟨m, rfl, hm, rfl, hnx⟩ := hrel
            obtain ⟨si, hsi⟩ : ∃ x, fdR r nn k' so m = x := ⟨_, rfl⟩
            rw [hsi]
            have HSI := Lib.hid hsi
            have HX := Lib.hid hnx
            clear hsi hnx
            by_cases hmk : m < k'
            · have j0 : (0 : Int) ≤ (m : Int) := by omega
              have j1 : (m : Int) < (k' : Int) := by omega
              have j2 : (m : Int) < (rn : Int) := by omega
              obtain ⟨s7, hs7⟩ : ∃ s : Nat, m + 1 = s := ⟨_, rfl⟩
              have a7 : IntKind.i64.wrap ((m : Int) + 1) = (s7 : Int) := by rw [IntKind.wrap_i64]; omega
              obtain ⟨g, o, e0, hg, hc⟩ := src_at HR5.out (by omega)
              subst e0
              obtain ⟨⟨ax, ay⟩, ha⟩ : ∃ p, at_ r k' = p := ⟨_, rfl⟩
              obtain ⟨⟨bx, bz⟩, hb⟩ : ∃ p, at_ r m = p := ⟨_, rfl⟩
              have hD : dsV (at_ r k') (at_ r m) = dotV (w64 (ax - bx)) (w64 (ay - bz)) (w64 (ax - bx)) (w64 (ay - bz)) := by rw [ha, hb]; rfl
              have c1 := fun w1 => rsub_any ax ay bx bz w1
              obtain ⟨x1, hx1⟩ : ∃ x, w64 (ax - bx) = x := ⟨_, rfl⟩
              obtain ⟨x2, hx2⟩ : ∃ x, w64 (ay - bz) = x := ⟨_, rfl⟩
              rw [hx1, hx2] at c1 hD
              have c2 := fun w1 => rdot_any x1 x2 x1 x2 w1
              obtain ⟨d, hd⟩ : ∃ x, dotV x1 x2 x1 x2 = x := ⟨_, rfl⟩
              rw [hd] at c2 hD
              obtain ⟨eb, heb⟩ : ∃ b, (d == nn) = b := ⟨_, rfl⟩
              have HST := Lib.hid (show fdR r nn k' so (m + 1) = (si || eb) by show (fdR r nn k' so m || (dsV (at_ r k') (at_ r m) == nn)) = _; rw [HSI.out, hD, heb])
              have H7 := Lib.hid hs7
              obtain ⟨w9, hw9⟩ : ∃ x, x = wr := ⟨_, rfl⟩
              subst hw9
              have HP := Lib.hid (show ∀ w', Nw w9 w' → w'.cell? (⟨g, o + k' * 2, none⟩ : Addr) = some (.int .i64 ax) ∧ w'.cell? (⟨g, o + k' * 2 + 1, none⟩ : Addr) = some (.int .i64 ay) ∧ w'.cell? (⟨g, o + m * 2, none⟩ : Addr) = some (.int .i64 bx) ∧ w'.cell? (⟨g, o + m * 2 + 1, none⟩ : Addr) = some (.int .i64 bz) from fun w' h => by
                have y := hc w' (HK7.out.tr ((HK.out.tr HX.out).tr h)) k' hkr
                have z := hc w' (HK7.out.tr ((HK.out.tr HX.out).tr h)) m (by omega)
                rw [ha] at y
                rw [hb] at z
                exact ⟨y.1, y.2, z.1, z.2⟩)
              have HLT := Lib.hid (show g < w9.heap.size from Nat.lt_of_lt_of_le hg (HK7.out.tr (HK.out.tr HX.out)).size)
              clear hs7 ha hb hx1 hx2 hd hD hc hg
              go_upto_region 22 with fail
              go_cut [15] from 67 to 75 (fun p7 wx => Rel1 x1 x2 w9 p7 wx)
              case first =>
                have hl0 := HLT.out
                clear c2 heb
                go_wp2_with fail
                go_region_held3 (fun w' : World => w'.cell? (⟨g, o + k' * 2, none⟩ : Addr) = some (.int .i64 ax) ∧ w'.cell? (⟨g, o + k' * 2 + 1, none⟩ : Addr) = some (.int .i64 ay) ∧ w'.cell? (⟨g, o + m * 2, none⟩ : Addr) = some (.int .i64 bx) ∧ w'.cell? (⟨g, o + m * 2 + 1, none⟩ : Addr) = some (.int .i64 bz))
                  (first | ((refine HP.out _ ?_); (repeat (first | exact hb1 | exact Kp.refl _ _ | refine Kp.alloc ?_ _ | refine Kp.drew ?_ | refine Kp.new ?_ (by omega) _ _))) | fail)
                  (first | (go_at_call 33; ((with_reducible refine (c1 _).mono ?_); rintro e u1 ⟨rfl, hk1⟩; have hb1 : Nw w9 u1 := Kp.tr (by repeat (first | exact hb1 | exact Kp.refl _ _ | refine Kp.alloc ?_ _ | refine Kp.drew ?_ | refine Kp.new ?_ (by omega) _ _)) hk1; have l1 := hb1.size; with_reducible (first | (have p0 := Blk.nw' (Blk.drew (Blk.new_at _ 32 #[.int .i64 0, .int .i64 0] (n := w9.heap.size) (by simp))) hk1; have t1 := p0.cell 0; have t2 := p0.cell 1; have t3 := p0.frozen 0; have t4 := p0.frozen 1; have t5 := p0.lt) | skip))))
                all_goals (go_wp2_with fail; go_meet; case rel => (first | with_reducible exact one1 hb1 | with_reducible exact one2 hb1 p0 (by omega)))
              case rest =>
                obtain ⟨w4, hw4⟩ : ∃ w4, w4 = wc := ⟨_, rfl⟩
                subst hw4
                obtain ⟨G7, rfl, b7, hk4⟩ := hcut
                obtain ⟨z0, z1, _, _⟩ := b7.two
                have HK44 := Lib.hid (HX.out.tr hk4)
                clear b7 hk4 c1
                cases si
                · go_wp2_with fail
                  refine (c2 _).mono ?_
                  rintro e w10 ⟨rfl, hk10⟩
                  clear z0 z1
                  have HK10 := Lib.hid (HK44.out.tr hk10)
                  clear hk10
                  cases eb <;>
                  · go_wp2_with fail
                    go_roundw
                    case rel => exact ⟨m + 1, by rw [← H7.out], by omega, by rw [HST.out]; rfl, HK10.out⟩
                    case measure => (have := H7.out; simp [intOf]; try omega)
                · clear z0 z1 c2
                  go_wp2_with fail
                  go_roundw
                  case rel => exact ⟨m + 1, by rw [← H7.out], by omega, by rw [HST.out]; rfl, HK44.out⟩
                  case measure => (have := H7.out; simp [intOf]; try omega)
            · obtain rfl : m = k' := by omega
              have i6 : ¬ ((m : Int) < (m : Int)) := by omega
              go_wp2_with fail
              go_roundw
              case rel =>
                refine ⟨m + 1, by rw [← H4.out], by omega, ?_, HK.out.tr HX.out⟩
                show _ = Value.bool (fdR r nn m (fdTo r nn m) m)
                rw [HSO.out, HSI.out]
              case measure => (have := H4.out; simp [intOf]; try omega)
        · obtain rfl : k' = rn := by omega
          have i6 : ¬ ((k' : Int) < (k' : Int)) := by omega
          obtain rfl : so = true := by rw [← HSO.out, ← HFD.out]
          obtain ⟨y0, y1, _, _⟩ := (HB5.out.kp (HK7.out.tr HK.out) id).two
          go_wp2_with fail
          refine (cdd _).mono ?_
          rintro e w11 ⟨rfl, k11⟩
          have HK11 := Lib.hid (HK5.out.tr ((HK7.out.tr HK.out).tr k11))
          obtain ⟨f1, f2, f3, f4, f5⟩ := HFF.out
          clear k11 y0 y1 cdd
          go_wp2_with fail
          go_ret
          exact ⟨rfl, HK11.out⟩

end Go.Proofs.Ythbgapcplgigoaa.W
