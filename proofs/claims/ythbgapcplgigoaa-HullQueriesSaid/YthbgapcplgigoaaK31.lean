/-
  hull: the reference's check, Farthest and Width: what they return. Condition: the list is not longer than 2^40.
-/
import Derived.Test.YthbgapcplgigoaaK14
namespace Go.Proofs.Ythbgapcplgigoaa.W
open Go.RowKit Go.Proofs.Ythbgapcplgigoaa.V Go.Proofs.Ythbgapcplgigoaa.G


set_option maxRecDepth 100000 in
set_option maxHeartbeats 6400000 in
theorem check_any (l : List (Int × Int)) (dx dy : Int) (v : Value) (w : World) (hv : SrcV w v l) (hl : l.length ≤ 1099511627776)  : Calls Try.prog 48 #[v, vV dx dy] w fun e w' => e = .returned (.int .i64 (errW l (dx, dy))) ∧ Nw w w' := by
  obtain ⟨A, c, rfl⟩ := hv.shape
  obtain ⟨n, hn⟩ : ∃ n, l.length = n := ⟨_, rfl⟩
  replace hv := src_n hv hn
  rw [hn] at hl ⊢
  have HV := Lib.hid hv
  have HN := Lib.hid hn
  have hmx := src_max hv
  clear hv hn
  have hmix := mixed7
  have cv := fun w1 (h : SrcV w1 (.slice A n c) l) => r10conv_any l (.slice A n c) w1 h (by rw [HN.out]; exact hl)
  have cw := fun w1 => rwithin_any dx dy 8000 w1
  obtain ⟨cb, hcb⟩ : ∃ b, convB l = b := ⟨_, rfl⟩
  obtain ⟨wb, hwb⟩ : ∃ b, sOk (dx, dy) = b := ⟨_, rfl⟩
  have hwb2 : withinV dx dy 8000 = wb := hwb
  rw [hcb] at cv
  rw [hwb2] at cw
  have HSV := Lib.hid (src_v HV.out HN.out)
  obtain ⟨er, her⟩ : ∃ r, errW l (dx, dy) = r := ⟨_, rfl⟩
  rw [her]
  unfold errW at her
  rw [hcb, hwb] at her
  clear hcb hwb hwb2
  obtain ⟨W0, hW0⟩ : ∃ W, w.alloc (.cells #[.int .i64 dx, .int .i64 dy] 32) = W := ⟨_, rfl⟩
  have HW0 := Lib.hid (show Nw w W0 by rw [← hW0]; exact nw_alloc _ _)
  have HB0 := Lib.hid (show Blk W0 w.heap.size 32 #[.int .i64 dx, .int .i64 dy] by rw [← hW0]; exact Blk.new _ _ _)
  go_enter Try.func48, Try.ntmps48
  go_wp2_with fail
  refine (cv _ (HSV.out.nw HW0.out)).mono ?_
  rintro e w5 ⟨rfl, hk5⟩
  cases cb
  · obtain rfl : er = 11 := her.symm
    go_wp2_with fail
    go_ret
    exact ⟨rfl, HW0.out.tr hk5⟩
  obtain ⟨y0, y1, _, _⟩ := (HB0.out.kp hk5 id).two
  go_wp2_with fail
  refine (cw _).mono ?_
  rintro e w6 ⟨rfl, hk6⟩
  cases wb
  · obtain rfl : er = 2 := her.symm
    go_wp2_with fail
    go_ret
    exact ⟨rfl, HW0.out.tr (hk5.tr hk6)⟩
  · obtain rfl : er = 0 := her.symm
    go_wp2_with fail
    go_ret
    exact ⟨rfl, HW0.out.tr (hk5.tr hk6)⟩

set_option maxRecDepth 100000 in
set_option maxHeartbeats 12800000 in
theorem r10far_any (l : List (Int × Int)) (dx dy : Int) (v : Value) (w : World) (hv : SrcV w v l) (hl : l.length ≤ 1099511627776)  : Calls Try.prog 16 #[v, vV dx dy] w fun e w' => e = .returned (.tuple #[vV (farQ l (dx, dy)).1 (farQ l (dx, dy)).2, .int .i64 (errW l (dx, dy))]) ∧ Nw w w' := by
  obtain ⟨A, c, rfl⟩ := hv.shape
  obtain ⟨n, hn⟩ : ∃ n, l.length = n := ⟨_, rfl⟩
  replace hv := src_n hv hn
  rw [hn] at hl ⊢
  have HV := Lib.hid hv
  have HN := Lib.hid hn
  have hmx := src_max hv
  clear hv hn
  have hmix := mixed7
  have ck := fun w1 (h : SrcV w1 (.slice A n c) l) => check_any l dx dy (.slice A n c) w1 h (by rw [HN.out]; exact hl)
  have HSV := Lib.hid (src_v HV.out HN.out)
  obtain ⟨⟨rx, ry⟩, hres⟩ : ∃ r, farQ l (dx, dy) = r := ⟨_, rfl⟩
  obtain ⟨er, her⟩ : ∃ r, errW l (dx, dy) = r := ⟨_, rfl⟩
  rw [her] at ck
  rw [hres, her]
  have HER := Lib.hid her
  have HRES := Lib.hid hres
  clear her hres
  obtain ⟨W0, hW0⟩ : ∃ W, (w.alloc (.cells #[.int .i64 dx, .int .i64 dy] 32)).alloc (.cells #[.int .i64 0, .int .i64 0] 32) = W := ⟨_, rfl⟩
  have HW0 := Lib.hid (show Nw w W0 by rw [← hW0]; exact (nw_alloc _ _).alloc _)
  have HD0 := Lib.hid (show Blk W0 w.heap.size 32 #[.int .i64 dx, .int .i64 dy] by rw [← hW0]; exact (Blk.new _ _ _).alloc _)
  have HR0 := Lib.hid (show Blk W0 (w.heap.size + 1) 32 #[.int .i64 0, .int .i64 0] by rw [← hW0]; exact Blk.new_at _ _ _ (by simp))
  obtain ⟨y0, y1, _, _⟩ := HD0.out.two
  go_enter Try.func16, Try.ntmps16
  go_wp2_with fail
  refine (ck _ (HSV.out.nw HW0.out)).mono ?_
  rintro e w5 ⟨rfl, hk5⟩
  obtain ⟨D, hD⟩ : ∃ x, w.heap.size = x := ⟨_, rfl⟩
  rw [hD] at HD0 HR0 ⊢
  obtain ⟨R, hR⟩ : ∃ x, D + 1 = x := ⟨_, rfl⟩
  rw [hR] at HR0 ⊢
  have HSZ := Lib.hid (show w.heap.size = D ∧ D + 1 = R from ⟨hD, hR⟩)
  have HD5 := Lib.hid (HD0.out.kp hk5 id)
  have HR5 := Lib.hid (HR0.out.kp hk5 id)
  have HK5 := Lib.hid (HW0.out.tr hk5)
  clear hk5 hW0 hD hR ck y0 y1
  obtain ⟨r0, r1, g0, g1⟩ := HR5.out.two
  by_cases h0 : er = 0
  · obtain ⟨hcb, hwb⟩ : convB l = true ∧ sOk (dx, dy) = true := by
      have her := HER.out
      unfold errW at her
      cases h1 : convB l
      · rw [h1] at her; simp at her; omega
      · cases h2 : sOk (dx, dy)
        · rw [h1, h2] at her; simp at her; omega
        · exact ⟨rfl, rfl⟩
    have hcv := convB_iff.1 hcb
    have HSS := Lib.hid hcv.1.2
    have HDD := Lib.hid hwb
    have hn0 : 0 < n := by have := hcv.2.1; rw [HN.out] at this; omega
    have hn1 : (0 : Int) < (n : Int) := by omega
    have HRR := Lib.hid (show bestTo (dx, dy) l n = (rx, ry) by
      rw [← HRES.out]
      unfold farQ
      rw [hcb, hwb]
      show _ = farH (dx, dy) l
      unfold farH
      rw [HN.out])
    have HOK := Lib.hid (show ∀ k, k ≤ n → sOk (bestTo (dx, dy) l k) = true from fun k hk => best_ok hcv.1.2 (by rw [HN.out]; exact hn0) k (by rw [HN.out]; exact hk))
    subst h0
    clear hcb hwb hcv r0 r1 g0 g1
    obtain ⟨g, o, e0, hg, hc⟩ := src_at HV.out hn0
    subst e0
    have HC := Lib.hid hc
    obtain ⟨⟨fx, fy⟩, ha⟩ : ∃ p, at_ l 0 = p := ⟨_, rfl⟩
    obtain ⟨y0, y1⟩ := hc w5 HK5.out 0 hn0
    rw [Nat.zero_mul, Nat.add_zero] at y0 y1
    rw [ha] at y0 y1
    have HA0 := Lib.hid ha
    clear hc hg ha
    go_upto_region 5 with fail
    generalize hwb : World.alloc _ (.cells #[.int .i64 fx, .int .i64 fy] _) = w7
    have HK57 := Lib.hid (show Nw w5 w7 by rw [← hwb]; exact nw_alloc _ _)
    have HK7 := Lib.hid (HK5.out.tr HK57.out)
    obtain ⟨M, hM⟩ : ∃ x, w5.heap.size = x := ⟨_, rfl⟩
    have HM7 := Lib.hid (show Blk w7 M 32 #[.int .i64 fx, .int .i64 fy] by rw [← hwb, ← hM]; exact Blk.new _ _ _)
    have HD7 := Lib.hid (HD5.out.kp HK57.out id)
    have HR7 := Lib.hid (HR5.out.kp HK57.out id)
    have HMS := Lib.hid (show w.heap.size ≤ M ∧ D ≠ M ∧ R ≠ M from ⟨by have := HK5.out.size; omega, by have := HD5.out.lt; omega, by have := HR5.out.lt; omega⟩)
    rw [hM]
    clear hwb y0 y1 hM
    go_wp2_with fail
    go_loopw [8] (fun i wr => ∃ k : Nat, i = .int .i64 k ∧ k ≤ n ∧ Blk wr M 32 #[.int .i64 (bestTo (dx, dy) l k).1, .int .i64 (bestTo (dx, dy) l k).2] ∧ Blk wr D 32 #[.int .i64 dx, .int .i64 dy] ∧ Blk wr R 32 #[.int .i64 0, .int .i64 0] ∧ Nw w wr) (fun i _ => n - (intOf i).toNat)
    case atStart => exact ⟨0, rfl, Nat.zero_le _, by rw [show bestTo (dx, dy) l 0 = at_ l 0 from rfl, HA0.out]; exact HM7.out, HD7.out, HR7.out, HK7.out⟩
    case round =>
      obtain ⟨k, rfl, hk, hm, hd, hr, hnw⟩ := hrel
      obtain ⟨⟨mx, my⟩, hmm⟩ : ∃ p, bestTo (dx, dy) l k = p := ⟨_, rfl⟩
      rw [hmm] at hm
      have HM := Lib.hid hm
      have HMM := Lib.hid hmm
      have HD := Lib.hid hd
      have HR := Lib.hid hr
      clear hm hmm hd hr
      have HK := Lib.hid hnw
      clear hnw
      by_cases hkn : k < n
      · have i0 : (0 : Int) ≤ (k : Int) := by omega
        have i1 : (k : Int) < (n : Int) := by omega
        obtain ⟨s4, hs4⟩ : ∃ s : Nat, k + 1 = s := ⟨_, rfl⟩
        have a4 : IntKind.i64.wrap ((k : Int) + 1) = (s4 : Int) := by rw [IntKind.wrap_i64]; omega
        have H4 := Lib.hid hs4
        obtain ⟨⟨ax, ay⟩, ha⟩ : ∃ p, at_ l k = p := ⟨_, rfl⟩
        have q0 := fun p : KeptW wr => (HC.out p.wd (HK.out.tr p.since) k hkn).1
        have q1 := fun p : KeptW wr => (HC.out p.wd (HK.out.tr p.since) k hkn).2
        rw [ha] at q0 q1
        have q2 := fun p : KeptW wr => (HM.out.kept p).cell 0
        have q3 := fun p : KeptW wr => (HM.out.kept p).cell 1
        have q4 := fun p : KeptW wr => (HD.out.kept p).cell 0
        have q5 := fun p : KeptW wr => (HD.out.kept p).cell 1
        have c1 := fun w1 => rdot_any ax ay dx dy w1
        have c2 := fun w1 => rdot_any mx my dx dy w1
        have cl := fun w1 => rless_any ax ay mx my w1
        have md := sOk_mid HDD.out
        have mx' := sOk_mid (show sOk (ax, ay) = true by rw [← ha]; exact allS_at HSS.out (by rw [HN.out]; exact hkn))
        have mm := sOk_mid (show sOk (mx, my) = true by rw [← HMM.out]; exact HOK.out k hk)
        have e1 := dot_mid mx' md
        have e2 := dot_mid mm md
        simp only at e1 e2
        have hst : bestTo (dx, dy) l (k + 1) = bestP (dx, dy) (mx, my) (ax, ay) := by
          show bestP (dx, dy) (bestTo (dx, dy) l k) (at_ l k) = _
          rw [ha, HMM.out]
        obtain ⟨d1, hd1⟩ : ∃ x, dotV ax ay dx dy = x := ⟨_, rfl⟩
        obtain ⟨d2, hd2⟩ : ∃ x, dotV mx my dx dy = x := ⟨_, rfl⟩
        obtain ⟨lb, hlb⟩ : ∃ b, lessV ax ay mx my = b := ⟨_, rfl⟩
        rw [hd1] at c1 e1
        rw [hd2] at c2 e2
        rw [hlb] at cl
        obtain ⟨b1, hb1⟩ : ∃ b, decide (d1 > d2) = b := ⟨_, rfl⟩
        obtain ⟨b2, hb2⟩ : ∃ b, (d1 == d2) = b := ⟨_, rfl⟩
        have HST := Lib.hid (show bestTo (dx, dy) l (k + 1) = if b1 || (b2 && lb) then (ax, ay) else (mx, my) by
          rw [hst]
          unfold bestP
          rw [← e1, ← e2]
          have hlt : LtP (ax, ay) (mx, my) ↔ lb = true := by rw [← less_lt, ← hlb]
          by_cases h : d2 < d1 ∨ d1 = d2 ∧ LtP (ax, ay) (mx, my)
          · rw [if_pos h, if_pos]
            rw [← hb1, ← hb2]
            simp only [Bool.or_eq_true, Bool.and_eq_true, decide_eq_true_eq, beq_iff_eq]
            rw [← hlt]
            exact h
          · rw [if_neg h, if_neg]
            rw [← hb1, ← hb2]
            simp only [Bool.or_eq_true, Bool.and_eq_true, decide_eq_true_eq, beq_iff_eq]
            rw [← hlt]
            exact h)
        have HAK := Lib.hid ha
        clear hs4 ha md mx' mm e1 e2 hst hd1 hd2 hlb
        go_upto_region 8 with fail
        refine wp_region_kept (Kp.refl _ _) (by assumption) (by kernel_rfl) ?_
        repeat (with_reducible refine wpQuiet_step (fun K hK => ?_); go_simp; first | ((with_reducible refine hK _ ?_); clear hK K) | (with_reducible apply Exists.intro; (with_reducible refine ⟨fun _ => ?_, hK _ ?_⟩); ((first | (go_at_call 32; with_reducible exact Calls.kept_of (c1 _)) | (go_at_call 32; with_reducible exact Calls.kept_of (c2 _)) | fail)); clear hK K) | (simp only [undef, reduceCtorEq, if_false]; (with_reducible refine hK _ ?_); clear hK K))
        with_reducible refine wpQuiet_nil ?_
        rintro _ ⟨p, rfl⟩
        have HKP := Lib.hid p.since
        obtain ⟨wp, hwp⟩ : ∃ x, x = p.wd := ⟨_, rfl⟩
        rw [← hwp] at HKP ⊢
        clear q0 q1 q2 q3 q4 q5 c1 c2 hwp
        have HCA := Lib.hid (show ∀ w', Nw wp w' → w'.cell? ⟨g, o + k * 2, none⟩ = some (.int .i64 ax) ∧ w'.cell? ⟨g, o + k * 2 + 1, none⟩ = some (.int .i64 ay) from fun w' h => by
          have y := HC.out w' (HK.out.tr (HKP.out.tr h)) k hkn
          rw [HAK.out] at y
          exact y)
        have q0 := fun p : KeptW wp => (HCA.out p.wd p.since).1
        have q1 := fun p : KeptW wp => (HCA.out p.wd p.since).2
        have q2 := fun p : KeptW wp => (HM.out.kp (HKP.out.tr p.since) id).cell 0
        have q3 := fun p : KeptW wp => (HM.out.kp (HKP.out.tr p.since) id).cell 1
        go_upto_region 9 with fail
        cases b1 <;> cases b2 <;> cases lb
        all_goals (
          refine wp_region_kept (Kp.refl _ _) (by assumption) (by kernel_rfl) ?_
          repeat (with_reducible refine wpQuiet_step (fun K hK => ?_); go_simp; first | ((with_reducible refine hK _ ?_); clear hK K) | (with_reducible apply Exists.intro; (with_reducible refine ⟨fun _ => ?_, hK _ ?_⟩); ((first | (go_at_call 28; with_reducible exact Calls.kept_of (cl _)) | fail)); clear hK K) | (simp only [undef, reduceCtorEq, if_false]; (with_reducible refine hK _ ?_); clear hK K))
          with_reducible refine wpQuiet_nil ?_
          rintro _ ⟨p, rfl⟩
          have HKQ := Lib.hid (HKP.out.tr p.since)
          have HCQ := Lib.hid (HCA.out p.wd p.since)
          generalize p.wd = wq at HKQ HCQ ⊢
          clear q0 q1 q2 q3
          have HMQ := Lib.hid (HM.out.kp HKQ.out id)
          obtain ⟨y0, y1⟩ := HCQ.out
          obtain ⟨m0, m1, f0, f1⟩ := HMQ.out.two
          have HFIN := Lib.hid (show (Blk wq D 32 #[.int .i64 dx, .int .i64 dy] ∧ Blk wq R 32 #[.int .i64 0, .int .i64 0] ∧ Nw w wq) ∧ (Blk ((wq.setCell ⟨M, 0, none⟩ (.int .i64 ax)).setCell ⟨M, 1, none⟩ (.int .i64 ay)) M 32 #[.int .i64 ax, .int .i64 ay] ∧ Blk ((wq.setCell ⟨M, 0, none⟩ (.int .i64 ax)).setCell ⟨M, 1, none⟩ (.int .i64 ay)) D 32 #[.int .i64 dx, .int .i64 dy] ∧ Blk ((wq.setCell ⟨M, 0, none⟩ (.int .i64 ax)).setCell ⟨M, 1, none⟩ (.int .i64 ay)) R 32 #[.int .i64 0, .int .i64 0] ∧ Nw w ((wq.setCell ⟨M, 0, none⟩ (.int .i64 ax)).setCell ⟨M, 1, none⟩ (.int .i64 ay))) from
            ⟨⟨HD.out.kp HKQ.out id, HR.out.kp HKQ.out id, HK.out.tr HKQ.out⟩, ⟨HMQ.out.lay2 _ _, (HD.out.kp HKQ.out id).far2 HMS.out.2.1 _ _, (HR.out.kp HKQ.out id).far2 HMS.out.2.2 _ _, (HK.out.tr HKQ.out).new2 HMS.out.1 _ _⟩⟩)
          go_wp2_with fail
          first
            | (go_roundw
               case rel => exact ⟨k + 1, by rw [← H4.out], by omega, by rw [HST.out]; first | exact HMQ.out | exact HFIN.out.2.1, by first | exact HFIN.out.1.1 | exact HFIN.out.2.2.1, by first | exact HFIN.out.1.2.1 | exact HFIN.out.2.2.2.1, by first | exact HFIN.out.1.2.2 | exact HFIN.out.2.2.2.2⟩
               case measure => (have := H4.out; simp [intOf]; try omega))
            | (refine ⟨⟨_, ⟨k + 1, by rw [← H4.out], by omega, by rw [HST.out]; first | exact HMQ.out | exact HFIN.out.2.1, by first | exact HFIN.out.1.1 | exact HFIN.out.2.2.1, by first | exact HFIN.out.1.2.1 | exact HFIN.out.2.2.2.1, by first | exact HFIN.out.1.2.2 | exact HFIN.out.2.2.2.2⟩, rfl, rfl, rfl⟩, ?_⟩
               (have := H4.out; simp [intOf]; try omega)))
      · obtain rfl : k = n := by omega
        have i5 : ¬ ((k : Int) < (k : Int)) := by omega
        have hr := HRR.out
        rw [HMM.out] at hr
        obtain ⟨z0, z1, _, _⟩ := HM.out.two
        obtain ⟨r0, r1, g0, g1⟩ := HR.out.two
        go_wp2_with fail
        have hb := HR.out.lay2 (.int .i64 mx) (.int .i64 my)
        have x0 := hb.cell 0
        have x1 := hb.cell 1
        have hrr : mx = rx ∧ my = ry := by injection hr with e1 e2; exact ⟨e1, e2⟩
        exact bodyPost_ret (v := .tuple #[vV mx my, .int .i64 0]) (by simp [results, Try.results16, go_sem, x0, x1]) rfl ⟨by rw [hrr.1, hrr.2], HK.out.new2 (by have := HSZ.out; omega) _ _⟩
  · have hfq : rx = 0 ∧ ry = 0 := by
      have hres := HRES.out
      unfold farQ at hres
      rw [if_neg] at hres
      · injection hres with e1 e2
        exact ⟨e1.symm, e2.symm⟩
      · intro h
        rw [Bool.and_eq_true] at h
        have her := HER.out
        unfold errW at her
        rw [h.1, h.2] at her
        exact h0 her.symm
    obtain ⟨rfl, rfl⟩ := hfq
    have e0 : (er != 0) = true := by simp [h0]
    clear h0
    go_wp2_with fail
    have hb := HR5.out.lay2 (.int .i64 0) (.int .i64 0)
    have x0 := hb.cell 0
    have x1 := hb.cell 1
    exact bodyPost_ret (v := .tuple #[vV 0 0, .int .i64 er]) (by simp [results, Try.results16, go_sem, x0, x1]) rfl ⟨rfl, HK5.out.new2 (by have := HSZ.out; omega) _ _⟩

end Go.Proofs.Ythbgapcplgigoaa.W
