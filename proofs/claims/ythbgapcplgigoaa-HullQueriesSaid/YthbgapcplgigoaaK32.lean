/-
  hull: the reference's Width: what it returns. Condition: the list is not longer than 2^40.
  hull: HullQueries: the call returns true. No condition.
-/
import Derived.Test.YthbgapcplgigoaaK31
import Derived.Test.YthbgapcplgigoaaK16
namespace Go.Proofs.Ythbgapcplgigoaa.W
open Go.RowKit Go.Proofs.Ythbgapcplgigoaa.V Go.Proofs.Ythbgapcplgigoaa.G


theorem dt_ok {x d : Pt} (hx : sOk x = true) (hd : sOk d = true) : (dtP x d).natAbs ≤ 128000000 := by
  rw [sOk_iff] at hx hd
  have h1 : (x.1 * d.1).natAbs ≤ 8000 * 8000 := by rw [Int.natAbs_mul]; exact Nat.mul_le_mul (by omega) (by omega)
  have h2 : (x.2 * d.2).natAbs ≤ 8000 * 8000 := by rw [Int.natAbs_mul]; exact Nat.mul_le_mul (by omega) (by omega)
  unfold dtP
  omega
theorem wid_wrap {l : List Pt} {d : Pt} (hs : allS l = true) (hd : sOk d = true) (h : 0 < l.length) : IntKind.i64.wrap ((widTo d l l.length).2 - (widTo d l l.length).1) = widH d l := by
  have hw := widH_wid (d := d) h
  obtain ⟨x, hx, ex⟩ := hw.atl
  obtain ⟨y, hy, ey⟩ := hw.ath
  have b1 := dt_ok (allS_iff.1 hs x hx) hd
  have b2 := dt_ok (allS_iff.1 hs y hy) hd
  unfold widH
  rw [ex] at b1
  rw [ey] at b2
  rw [IntKind.wrap_i64]
  omega

set_option maxRecDepth 100000 in
set_option maxHeartbeats 12800000 in
theorem r10wid_any (l : List (Int × Int)) (dx dy : Int) (v : Value) (w : World) (hv : SrcV w v l) (hl : l.length ≤ 1099511627776)  : Calls Try.prog 18 #[v, vV dx dy] w fun e w' => e = .returned (.tuple #[.int .i64 (widQ l (dx, dy)), .int .i64 (errW l (dx, dy))]) ∧ Nw w w' := by
  obtain ⟨A, c, rfl⟩ := hv.shape
  obtain ⟨n, hn⟩ : ∃ n, l.length = n := ⟨_, rfl⟩
  replace hv := src_n hv hn
  rw [hn] at hl ⊢
  have HV := Lib.hid hv
  have HN := Lib.hid hn
  have hmx := src_max hv
  clear hv hn
  have hmix := mixed7
  have ck := fun w1 (h : SrcV w1 (.slice A n c) l) => check_any l dx dy (.slice A n c) w1 h (by rw [HN.out]; exact hl)
  have HSV := Lib.hid (src_v HV.out HN.out)
  obtain ⟨res, hres⟩ : ∃ r, widQ l (dx, dy) = r := ⟨_, rfl⟩
  obtain ⟨er, her⟩ : ∃ r, errW l (dx, dy) = r := ⟨_, rfl⟩
  rw [her] at ck
  rw [hres, her]
  have HER := Lib.hid her
  have HRES := Lib.hid hres
  clear her hres
  obtain ⟨W0, hW0⟩ : ∃ W, w.alloc (.cells #[.int .i64 dx, .int .i64 dy] 32) = W := ⟨_, rfl⟩
  have HW0 := Lib.hid (show Nw w W0 by rw [← hW0]; exact nw_alloc _ _)
  have HB0 := Lib.hid (show Blk W0 w.heap.size 32 #[.int .i64 dx, .int .i64 dy] by rw [← hW0]; exact Blk.new _ _ _)
  obtain ⟨y0, y1, _, _⟩ := HB0.out.two
  go_enter Try.func18, Try.ntmps18
  go_wp2_with fail
  refine (ck _ (HSV.out.nw HW0.out)).mono ?_
  rintro e w5 ⟨rfl, hk5⟩
  obtain ⟨D, hD⟩ : ∃ x, w.heap.size = x := ⟨_, rfl⟩
  rw [hD] at HB0 ⊢
  have HD5 := Lib.hid (HB0.out.kp hk5 id)
  have HK5 := Lib.hid (HW0.out.tr hk5)
  clear hk5 hW0 hD ck y0 y1
  by_cases h0 : er = 0
  · obtain ⟨hcb, hwb⟩ : convB l = true ∧ sOk (dx, dy) = true := by
      have her := HER.out
      unfold errW at her
      cases h1 : convB l
      · rw [h1] at her; simp at her; omega
      · cases h2 : sOk (dx, dy)
        · rw [h1, h2] at her; simp at her; omega
        · exact ⟨rfl, rfl⟩
    have hcv := convB_iff.1 hcb
    have HSS := Lib.hid hcv.1.2
    have HDD := Lib.hid hwb
    have hn0 : 0 < n := by have := hcv.2.1; rw [HN.out] at this; omega
    have hn1 : (0 : Int) < (n : Int) := by omega
    have HRR := Lib.hid (show IntKind.i64.wrap ((widTo (dx, dy) l n).2 - (widTo (dx, dy) l n).1) = res by
      have h := wid_wrap hcv.1.2 hwb (by rw [HN.out]; exact hn0)
      rw [HN.out] at h
      rw [h, ← HRES.out]
      unfold widQ
      rw [hcb, hwb]
      rfl)
    subst h0
    clear hcb hwb hcv
    obtain ⟨g, o, e0, hg, hc⟩ := src_at HV.out hn0
    subst e0
    have HC := Lib.hid hc
    obtain ⟨⟨fx, fy⟩, ha⟩ : ∃ p, at_ l 0 = p := ⟨_, rfl⟩
    have q0 := fun p : KeptW w5 => (HC.out p.wd (HK5.out.tr p.since) 0 hn0).1
    have q1 := fun p : KeptW w5 => (HC.out p.wd (HK5.out.tr p.since) 0 hn0).2
    simp only [Nat.zero_mul, Nat.add_zero] at q0 q1
    rw [ha] at q0 q1
    have q2 := fun p : KeptW w5 => (HD5.out.kept p).cell 0
    have q3 := fun p : KeptW w5 => (HD5.out.kept p).cell 1
    have c1 := fun w1 => rdot_any fx fy dx dy w1
    have e1 := dot_mid (sOk_mid (show sOk (fx, fy) = true by rw [← ha]; exact allS_at HSS.out (by rw [HN.out]; exact hn0))) (sOk_mid HDD.out)
    simp only at e1
    rw [e1] at c1
    obtain ⟨d0, hd0⟩ : ∃ x, dtP (fx, fy) (dx, dy) = x := ⟨_, rfl⟩
    rw [hd0] at c1
    have HW00 := Lib.hid (show widTo (dx, dy) l 0 = (d0, d0) by show (dtP (at_ l 0) (dx, dy), dtP (at_ l 0) (dx, dy)) = _; rw [ha, hd0])
    clear hc hg ha e1 hd0
    go_upto_region 4 with fail
    refine wp_region_kept (Kp.refl _ _) (by assumption) (by kernel_rfl) ?_
    repeat (with_reducible refine wpQuiet_step (fun K hK => ?_); go_simp; first | ((with_reducible refine hK _ ?_); clear hK K) | (with_reducible apply Exists.intro; (with_reducible refine ⟨fun _ => ?_, hK _ ?_⟩); ((first | (go_at_call 32; with_reducible exact Calls.kept_of (c1 _)) | fail)); clear hK K) | (simp only [undef, reduceCtorEq, if_false]; (with_reducible refine hK _ ?_); clear hK K))
    with_reducible refine wpQuiet_nil ?_
    rintro _ ⟨p, rfl⟩
    have HK6 := Lib.hid (HK5.out.tr p.since)
    have HD6 := Lib.hid (HD5.out.kept p)
    generalize p.wd = w6 at HK6 HD6 ⊢
    clear q0 q1 q2 q3 c1
    go_wp2_with fail
    go_loopw [7, 8, 9] (fun lo hi i wr => ∃ k : Nat, i = .int .i64 k ∧ k ≤ n ∧ lo = .int .i64 (widTo (dx, dy) l k).1 ∧ hi = .int .i64 (widTo (dx, dy) l k).2 ∧ Nw w6 wr) (fun lo hi i _ => n - (intOf i).toNat)
    case atStart => exact ⟨0, rfl, Nat.zero_le _, by rw [HW00.out], by rw [HW00.out], (by repeat (first | exact Kp.refl _ _ | refine Kp.alloc ?_ _ | refine Kp.drew ?_))⟩
    case round =>
      obtain ⟨k, rfl, hk, rfl, rfl, hnw⟩ := hrel
      obtain ⟨⟨lo, hi⟩, hlh⟩ : ∃ p, widTo (dx, dy) l k = p := ⟨_, rfl⟩
      rw [hlh]
      have HLH := Lib.hid hlh
      clear hlh
      have HK := Lib.hid hnw
      clear hnw
      by_cases hkn : k < n
      · have i0 : (0 : Int) ≤ (k : Int) := by omega
        have i1 : (k : Int) < (n : Int) := by omega
        obtain ⟨s4, hs4⟩ : ∃ s : Nat, k + 1 = s := ⟨_, rfl⟩
        have a4 : IntKind.i64.wrap ((k : Int) + 1) = (s4 : Int) := by rw [IntKind.wrap_i64]; omega
        have H4 := Lib.hid hs4
        obtain ⟨⟨ax, ay⟩, ha⟩ : ∃ p, at_ l k = p := ⟨_, rfl⟩
        have q0 := fun p : KeptW wr => (HC.out p.wd (HK6.out.tr (HK.out.tr p.since)) k hkn).1
        have q1 := fun p : KeptW wr => (HC.out p.wd (HK6.out.tr (HK.out.tr p.since)) k hkn).2
        rw [ha] at q0 q1
        have q2 := fun p : KeptW wr => (HD6.out.kp (HK.out.tr p.since) id).cell 0
        have q3 := fun p : KeptW wr => (HD6.out.kp (HK.out.tr p.since) id).cell 1
        have c1 := fun w1 => rdot_any ax ay dx dy w1
        have e1 := dot_mid (sOk_mid (show sOk (ax, ay) = true by rw [← ha]; exact allS_at HSS.out (by rw [HN.out]; exact hkn))) (sOk_mid HDD.out)
        simp only at e1
        rw [e1] at c1
        obtain ⟨d1, hd1⟩ : ∃ x, dtP (ax, ay) (dx, dy) = x := ⟨_, rfl⟩
        rw [hd1] at c1
        obtain ⟨lo', hlo⟩ : ∃ x, min lo d1 = x := ⟨_, rfl⟩
        obtain ⟨hi', hhi⟩ : ∃ x, max hi d1 = x := ⟨_, rfl⟩
        have HST := Lib.hid (show widTo (dx, dy) l (k + 1) = (lo', hi') by
          show widStep (dx, dy) (widTo (dx, dy) l k) (at_ l k) = _
          rw [HLH.out, ha]
          unfold widStep
          rw [hd1, ← hlo, ← hhi])
        clear hs4 ha e1 hd1
        go_upto_region 8 with fail
        refine wp_region_kept (Kp.refl _ _) (by assumption) (by kernel_rfl) ?_
        repeat (with_reducible refine wpQuiet_step (fun K hK => ?_); go_simp; first | ((with_reducible refine hK _ ?_); clear hK K) | (with_reducible apply Exists.intro; (with_reducible refine ⟨fun _ => ?_, hK _ ?_⟩); ((first | (go_at_call 32; with_reducible exact Calls.kept_of (c1 _)) | fail)); clear hK K) | (simp only [undef, reduceCtorEq, if_false]; (with_reducible refine hK _ ?_); clear hK K))
        with_reducible refine wpQuiet_nil ?_
        rintro _ ⟨p, rfl⟩
        have HKP := Lib.hid (HK.out.tr p.since)
        generalize p.wd = wp at HKP ⊢
        clear q0 q1 q2 q3 c1
        go_wp2_with fail
        go_roundw
        case rel => exact ⟨k + 1, by rw [← H4.out], by omega, by rw [HST.out], by rw [HST.out], HKP.out⟩
        case measure => (have := H4.out; simp [intOf]; try omega)
      · obtain rfl : k = n := by omega
        have i5 : ¬ ((k : Int) < (k : Int)) := by omega
        have hr := HRR.out
        rw [HLH.out] at hr
        simp only at hr
        have hr2 : wrap64 (hi - lo) = res := by rw [← hr]; rw [wrapI]; rfl
        go_wp2_with fail
        go_ret2
        exact ⟨rfl, HK6.out.tr HK.out⟩
  · have hfq : res = 0 := by
      have hres := HRES.out
      unfold widQ at hres
      rw [if_neg] at hres
      · exact hres.symm
      · intro h
        rw [Bool.and_eq_true] at h
        have her := HER.out
        unfold errW at her
        rw [h.1, h.2] at her
        exact h0 her.symm
    subst hfq
    have e0 : (er != 0) = true := by simp [h0]
    clear h0
    go_wp2_with fail
    go_ret2
    exact ⟨rfl, HK5.out⟩

end Go.Proofs.Ythbgapcplgigoaa.W

namespace Go.Proofs.Ythbgapcplgigoaa.W
open Go.RowKit Go.Proofs.Ythbgapcplgigoaa.V Go.Proofs.Ythbgapcplgigoaa.G


set_option maxRecDepth 100000 in
set_option maxHeartbeats 12800000 in
theorem hullQueries_any (l : List (Int × Int)) (px py dx dy : Int) (v : Value) (w : World) (hv : SrcV w v l) : Calls Try.prog 4 #[v, vV px py, vV dx dy] w fun e w' => e = .returned (.bool true) ∧ Nw w w' := by
  have hmix := mixed7
  obtain ⟨A, c, rfl⟩ := hv.shape
  obtain ⟨n, hn⟩ : ∃ n, l.length = n := ⟨_, rfl⟩
  replace hv := src_n hv hn
  have HN := Lib.hid hn
  have HSV := Lib.hid (src_v hv hn)
  have hmx := src_max hv
  rw [hn]
  clear hv hn
  obtain ⟨W0, hW0⟩ : ∃ W, (w.alloc (.cells #[.int .i64 px, .int .i64 py] 32)).alloc (.cells #[.int .i64 dx, .int .i64 dy] 32) = W := ⟨_, rfl⟩
  have HW0 := Lib.hid (show Nw w W0 by rw [← hW0]; exact (nw_alloc _ _).alloc _)
  have HP0 := Lib.hid (show Blk W0 w.heap.size 32 #[.int .i64 px, .int .i64 py] by rw [← hW0]; exact (Blk.new _ _ _).alloc _)
  have HE0 := Lib.hid (show Blk W0 (w.heap.size + 1) 32 #[.int .i64 dx, .int .i64 dy] by rw [← hW0]; exact Blk.new_at _ _ _ (by simp))
  by_cases h7 : 170 < n
  · have f1 : ((n : Int) > 170) := by omega
    go_enter Try.func4, Try.ntmps4
    go_wp2_with fail
    refine (awakeH_any _).mono ?_
    rintro e w1 ⟨rfl, k1⟩
    go_wp2_with fail
    go_ret
    exact ⟨rfl, HW0.out.tr k1⟩
  have f1 : ¬ ((n : Int) > 170) := by omega
  have hl : l.length ≤ 1099511627776 := by rw [HN.out]; omega
  go_enter Try.func4, Try.ntmps4
  go_wp2_with fail
  refine (awakeH_any _).mono ?_
  rintro e w1 ⟨rfl, k1⟩
  obtain ⟨D, hD⟩ : ∃ B, w.heap.size = B := ⟨_, rfl⟩
  rw [hD] at HP0 HE0 ⊢
  obtain ⟨E, hE⟩ : ∃ B, D + 1 = B := ⟨_, rfl⟩
  rw [hE] at HE0 ⊢
  have HK1 := Lib.hid (HW0.out.tr k1)
  have HP1 := Lib.hid (HP0.out.kp k1 id)
  have HE1 := Lib.hid (HE0.out.kp k1 id)
  have HS1 := Lib.hid (HSV.out.nw HK1.out)
  have cfp := fun w2 (h : Nw w1 w2) => far_any l dx dy (.slice A n c) w2 (HS1.out.nw h) hl
  have cfr := fun w2 (h : Nw w1 w2) => r10far_any l dx dy (.slice A n c) w2 (HS1.out.nw h) hl
  have cwp := fun w2 (h : Nw w1 w2) => wid_any l dx dy (.slice A n c) w2 (HS1.out.nw h) hl
  have cwr := fun w2 (h : Nw w1 w2) => r10wid_any l dx dy (.slice A n c) w2 (HS1.out.nw h) hl
  have cdp := fun w2 (h : Nw w1 w2) => dia_any l (.slice A n c) w2 (HS1.out.nw h) hl
  have cdr := fun w2 (h : Nw w1 w2) => r10dia_any l (.slice A n c) w2 (HS1.out.nw h) hl
  have ccp := fun w2 (h : Nw w1 w2) => conv_any l (.slice A n c) w2 (HS1.out.nw h) hl
  have ccr := fun w2 (h : Nw w1 w2) => r10conv_any l (.slice A n c) w2 (HS1.out.nw h) hl
  have chp := fun w2 (h : Nw w1 w2) => where_any l px py (.slice A n c) w2 (HS1.out.nw h) hl
  have chr := fun w2 (h : Nw w1 w2) => r10where_any l px py (.slice A n c) w2 (HS1.out.nw h) hl
  generalize farQ l (dx, dy) = fq at *
  obtain ⟨fx, fy⟩ := fq
  generalize errW l (dx, dy) = ew at *
  generalize widQ l (dx, dy) = wq at *
  generalize diaQ l = dq at *
  generalize errQ l = eq at *
  generalize convB l = cb at *
  generalize whereH l (px, py) = wh at *
  have hq := fun w1 => eql_vecg fx fy fx fy w1
  rw [show (fx == fx && fy == fy) = true by simp] at hq
  clear hD hE hW0 k1
  obtain ⟨y0, y1, _, _⟩ := HE1.out.two
  go_wp2_with fail
  refine (cfp _ (Kp.refl _ _)).mono ?_
  rintro e w2 ⟨rfl, k2⟩
  clear y0 y1 cfp
  go_upto_region 6 with fail
  generalize hwb : World.alloc _ (.cells #[.int .i64 fx, .int .i64 fy] _) = w3
  have HK3 := Lib.hid (k2.tr (show Nw w2 w3 by rw [← hwb]; exact nw_alloc _ _))
  have HF3 := Lib.hid (show Blk w3 w2.heap.size 32 #[.int .i64 fx, .int .i64 fy] by rw [← hwb]; exact Blk.new _ _ _)
  clear hwb k2
  obtain ⟨y0, y1, _, _⟩ := (HE1.out.kp HK3.out id).two
  go_wp2_with fail
  refine (cfr _ HK3.out).mono ?_
  rintro e w4 ⟨rfl, k4⟩
  clear y0 y1 cfr
  go_upto_region 7 with fail
  generalize hwb : World.alloc _ (.cells #[.int .i64 fx, .int .i64 fy] _) = w5
  have HK35 := Lib.hid (k4.tr (show Nw w4 w5 by rw [← hwb]; exact nw_alloc _ _))
  have HK5 := Lib.hid (HK3.out.tr HK35.out)
  have HG5 := Lib.hid (show Blk w5 w4.heap.size 32 #[.int .i64 fx, .int .i64 fy] by rw [← hwb]; exact Blk.new _ _ _)
  have HF5 := Lib.hid (HF3.out.kp HK35.out id)
  clear hwb k4
  obtain ⟨y0, y1, _, _⟩ := (HE1.out.kp HK5.out id).two
  go_wp2_with fail
  refine (cwp _ HK5.out).mono ?_
  rintro e w6 ⟨rfl, k6⟩
  have HK6 := Lib.hid (HK5.out.tr k6)
  clear y0 y1 cwp
  obtain ⟨y0, y1, _, _⟩ := (HE1.out.kp HK6.out id).two
  go_wp2_with fail
  refine (cwr _ HK6.out).mono ?_
  rintro e w7 ⟨rfl, k7⟩
  have HK7 := Lib.hid (HK6.out.tr k7)
  clear y0 y1 cwr
  go_wp2_with fail
  refine (cdp _ HK7.out).mono ?_
  rintro e w8 ⟨rfl, k8⟩
  have HK8 := Lib.hid (HK7.out.tr k8)
  clear cdp
  go_wp2_with fail
  refine (cdr _ HK8.out).mono ?_
  rintro e w9 ⟨rfl, k9⟩
  have HK9 := Lib.hid (HK8.out.tr k9)
  have HK59 := Lib.hid (k6.tr (k7.tr (k8.tr k9)))
  clear cdr k6 k7 k8 k9
  have q0 := fun p : KeptW w9 => (HP1.out.kp (HK9.out.tr p.since) id).cell 0
  have q1 := fun p : KeptW w9 => (HP1.out.kp (HK9.out.tr p.since) id).cell 1
  have q2 := fun p : KeptW w9 => (HF5.out.kp (HK59.out.tr p.since) id).cell 0
  have q3 := fun p : KeptW w9 => (HF5.out.kp (HK59.out.tr p.since) id).cell 1
  have q4 := fun p : KeptW w9 => (HG5.out.kp (HK59.out.tr p.since) id).cell 0
  have q5 := fun p : KeptW w9 => (HG5.out.kp (HK59.out.tr p.since) id).cell 1
  have d1 := fun p : KeptW w9 => ccp p.wd (HK9.out.tr p.since)
  have d2 := fun p : KeptW w9 => ccr p.wd (HK9.out.tr p.since)
  have d3 := fun p : KeptW w9 => chp p.wd (HK9.out.tr p.since)
  have d4 := fun p : KeptW w9 => chr p.wd (HK9.out.tr p.since)
  clear ccp ccr chp chr
  go_upto_region 11 with fail
  refine wp_region_kept (Kp.refl _ _) (by assumption) (by kernel_rfl) ?_
  repeat (with_reducible refine wpQuiet_step (fun K hK => ?_); go_simp; first | ((with_reducible refine hK _ ?_); clear hK K) | (with_reducible apply Exists.intro; (with_reducible refine ⟨fun _ => ?_, hK _ ?_⟩); ((first | (go_at_call 21; with_reducible exact Calls.kept_of (d1 _)) | (go_at_call 22; with_reducible exact Calls.kept_of (d2 _)) | (go_at_call 23; with_reducible exact Calls.kept_of (d3 _)) | (go_at_call 24; with_reducible exact Calls.kept_of (d4 _)) | fail)); clear hK K) | (simp only [undef, reduceCtorEq, if_false]; (with_reducible refine hK _ ?_); clear hK K))
  with_reducible refine wpQuiet_nil ?_
  rintro _ ⟨p, rfl⟩
  go_wp2_with fail
  go_ret
  exact ⟨by first | rfl | simp, HK1.out.tr (HK9.out.tr p.since)⟩

end Go.Proofs.Ythbgapcplgigoaa.W
