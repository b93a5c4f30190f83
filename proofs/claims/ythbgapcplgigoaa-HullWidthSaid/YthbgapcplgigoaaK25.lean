/-
  hull: HullWidth: the call returns true. No condition.
-/
import Derived.Test.YthbgapcplgigoaaK16
import Derived.Test.YthbgapcplgigoaaK24
namespace Go.Proofs.Ythbgapcplgigoaa.W
open Go.RowKit Go.Proofs.Ythbgapcplgigoaa.V Go.Proofs.Ythbgapcplgigoaa.G


set_option maxRecDepth 100000 in
set_option maxHeartbeats 12800000 in
theorem hullWidth_any (l : List (Int × Int)) (dx dy vx vy : Int) (v : Value) (w : World) (hv : SrcV w v l) : Calls Try.prog 8 #[v, vV dx dy, vV vx vy] w fun e w' => e = .returned (.bool true) ∧ Nw w w' := by
  have hmix := mixed7
  obtain ⟨A, c, rfl⟩ := hv.shape
  obtain ⟨n, hn⟩ : ∃ n, l.length = n := ⟨_, rfl⟩
  replace hv := src_n hv hn
  have HV := Lib.hid hv
  have HN := Lib.hid hn
  have HSV := Lib.hid (src_v hv hn)
  have hmx := src_max hv
  rw [hn]
  clear hv hn
  obtain ⟨sa, hsa⟩ : ∃ b, (allS l && decide (l.length ≤ 30)) = b := ⟨_, rfl⟩
  have csa := fun w1 (h : Nw w w1) => small_any l (.slice A n c) w1 (HSV.out.nw h)
  rw [hsa] at csa
  have Hsa := Lib.hid hsa
  clear hsa
  have cwd := fun w1 => rwithin_any dx dy 2000 w1
  obtain ⟨wd, hwd⟩ : ∃ b, withinV dx dy 2000 = b := ⟨_, rfl⟩
  rw [hwd] at cwd
  have HWD := Lib.hid hwd
  have cwv := fun w1 => rwithin_any vx vy 2000 w1
  obtain ⟨wv, hwv⟩ : ∃ b, withinV vx vy 2000 = b := ⟨_, rfl⟩
  rw [hwv] at cwv
  have HWV := Lib.hid hwv
  clear hwd hwv
  obtain ⟨W0, hW0⟩ : ∃ W, (w.alloc (.cells #[.int .i64 dx, .int .i64 dy] 32)).alloc (.cells #[.int .i64 vx, .int .i64 vy] 32) = W := ⟨_, rfl⟩
  have HW0 := Lib.hid (show Nw w W0 by rw [← hW0]; exact (nw_alloc _ _).alloc _)
  have HD0 := Lib.hid (show Blk W0 w.heap.size 32 #[.int .i64 dx, .int .i64 dy] by rw [← hW0]; exact (Blk.new _ _ _).alloc _)
  have HE0 := Lib.hid (show Blk W0 (w.heap.size + 1) 32 #[.int .i64 vx, .int .i64 vy] by rw [← hW0]; exact Blk.new_at _ _ _ (by simp))
  go_enter Try.func8, Try.ntmps8
  go_wp2_with fail
  refine (awakeH_any _).mono ?_
  rintro e w1 ⟨rfl, k1⟩
  obtain ⟨D, hD⟩ : ∃ B, w.heap.size = B := ⟨_, rfl⟩
  rw [hD] at HD0 HE0 ⊢
  obtain ⟨E, hE⟩ : ∃ B, D + 1 = B := ⟨_, rfl⟩
  rw [hE] at HE0 ⊢
  have HK1 := Lib.hid (HW0.out.tr k1)
  have HD1 := Lib.hid (HD0.out.kp k1 id)
  have HE1 := Lib.hid (HE0.out.kp k1 id)
  clear hD hE hW0 k1
  go_wp2_with fail
  refine (csa _ HK1.out).mono ?_
  rintro e w2 ⟨rfl, k2⟩
  have HK2 := Lib.hid (HK1.out.tr k2)
  have HD2 := Lib.hid (HD1.out.kp k2 id)
  have HE2 := Lib.hid (HE1.out.kp k2 id)
  clear k2 csa
  cases sa
  · go_wp2_with fail
    go_ret
    exact ⟨rfl, HK2.out⟩
  obtain ⟨hs, h30⟩ : allS l = true ∧ l.length ≤ 30 := by
    have := Hsa.out
    rw [Bool.and_eq_true, decide_eq_true_eq] at this
    exact this
  have hl : n ≤ 30 := by rw [← HN.out]; exact h30
  obtain ⟨y0, y1, _, _⟩ := HD2.out.two
  go_wp2_with fail
  refine (cwd _).mono ?_
  rintro e w3 ⟨rfl, k3⟩
  have HK3 := Lib.hid (HK2.out.tr k3)
  have HD3 := Lib.hid (HD2.out.kp k3 id)
  have HE3 := Lib.hid (HE2.out.kp k3 id)
  clear k3 cwd y0 y1
  cases wd
  · go_wp2_with fail
    go_ret
    exact ⟨rfl, HK3.out⟩
  obtain ⟨y0, y1, _, _⟩ := HE3.out.two
  go_wp2_with fail
  refine (cwv _).mono ?_
  rintro e w4 ⟨rfl, k4⟩
  have HK4 := Lib.hid (HK3.out.tr k4)
  have HD4 := Lib.hid (HD3.out.kp k4 id)
  have HE4 := Lib.hid (HE3.out.kp k4 id)
  clear k4 cwv y0 y1
  cases wv
  · go_wp2_with fail
    go_ret
    exact ⟨rfl, HK4.out⟩
  have HVM := Lib.hid (show M2 (vx, vy) from within_m2 (p := (vx, vy)) HWV.out)
  go_wp2_with fail
  go_loopw [7, 8] (fun ov i wr => ∃ k : Nat, i = .int .i64 k ∧ k ≤ n ∧ wr.ownsRow w4.heap.size 32 2 ov k (((l.take k).map (movW (vx, vy))).flatMap vC) ∧ (∀ j, j < k → M4 (at_ l j)) ∧ Nw w4 wr) (fun ov i _ => n - (intOf i).toNat)
  case atStart => exact ⟨0, rfl, Nat.zero_le _, World.ownsRow_nil _ _ _ _, fun j h => absurd h (Nat.not_lt_zero _), Kp.refl _ _⟩
  case round =>
    obtain ⟨k, rfl, hk, hown, hall, hnw⟩ := hrel
    obtain ⟨A6, c6, rfl⟩ := (own_src hown).shape
    have HO := Lib.hid hown
    have HA := Lib.hid hall
    clear hown hall
    have HK := Lib.hid hnw
    clear hnw
    by_cases hkn : k < n
    · have i0 : (0 : Int) ≤ (k : Int) := by omega
      have i1 : (k : Int) < (n : Int) := by omega
      obtain ⟨s4, hs4⟩ : ∃ s : Nat, k + 1 = s := ⟨_, rfl⟩
      have a4 : IntKind.i64.wrap ((k : Int) + 1) = (s4 : Int) := by rw [IntKind.wrap_i64]; omega
      have H4 := Lib.hid hs4
      obtain ⟨g, o, e0, hg, hc⟩ := src_at HV.out (by omega)
      subst e0
      obtain ⟨⟨ax, ay⟩, ha⟩ : ∃ p, at_ l k = p := ⟨_, rfl⟩
      obtain ⟨y0, y1⟩ := hc wr (HK4.out.tr HK.out) k hkn
      rw [ha] at y0 y1
      have HC := Lib.hid (show ∀ w', Nw wr w' → w'.cell? ⟨g, o + k * 2, none⟩ = some (.int .i64 ax) ∧ w'.cell? ⟨g, o + k * 2 + 1, none⟩ = some (.int .i64 ay) from fun w' h => by
        have y := hc w' (HK4.out.tr (HK.out.tr h)) k hkn
        rw [ha] at y
        exact y)
      have cw := fun w1 => rwithin_any ax ay 4000 w1
      obtain ⟨b, hb⟩ : ∃ b, withinV ax ay 4000 = b := ⟨_, rfl⟩
      rw [hb] at cw
      have HWB := Lib.hid (show b = true → M4 (at_ l k) from fun h => by rw [ha]; exact within_m4 (p := (ax, ay)) (by rw [← h]; exact hb))
      have cadd := fun w1 => radd_any ax ay vx vy w1
      obtain ⟨sx, hsx⟩ : ∃ s, w64 (ax + vx) = s := ⟨_, rfl⟩
      obtain ⟨sy, hsy⟩ : ∃ s, w64 (ay + vy) = s := ⟨_, rfl⟩
      rw [hsx, hsy] at cadd
      have HTK := Lib.hid (show (l.take (k + 1)).map (movW (vx, vy)) = (l.take k).map (movW (vx, vy)) ++ [(sx, sy)] by
        rw [take_at (by rw [HN.out]; exact hkn), ha, List.map_append, ← hsx, ← hsy]
        rfl)
      clear hs4 hc hg ha hb hsx hsy
      go_wp2_with fail
      refine (cw _).mono ?_
      rintro e w5 ⟨rfl, k5⟩
      have HK5 := Lib.hid (HK.out.tr k5)
      have HC5 := Lib.hid k5
      clear k5 cw y0 y1
      cases b
      · go_wp2_with fail
        go_ret
        exact ⟨rfl, HK4.out.tr HK5.out⟩
      · have HO5 := Lib.hid (own_nw HO.out HC5.out)
        obtain ⟨wr5, hwr5⟩ : ∃ x, x = w5 := ⟨_, rfl⟩
        subst hwr5
        obtain ⟨y0, y1⟩ := HC.out wr5 HC5.out
        obtain ⟨y2, y3, _, _⟩ := (HE4.out.kp HK5.out id).two
        go_wp2_with fail
        go_region_law (first
          | (refine step_appG (by rfl) (.tmp 48) (.tmp 55) 22 32 2 16 (.agg #[.int .i64 0, .int .i64 0]) (by rfl) Try.underlying22 infoP rfl (by omega) w4.heap.size k 1 (.slice A6 k c6) (.slice (some ⟨w5.heap.size, 0, none⟩) 1 1) (((l.take k).map (movW (vx, vy))).flatMap vC) [.int .i64 sx, .int .i64 sy] (by rfl) (own_nw HO5.out (hk5.alloc _)) (by rfl) (src_new (Blk.new _ _ _)) (by intro u hu; simp at hu; rcases hu with rfl | rfl <;> rfl) (by omega) (by omega) (by have := HK5.out.size; have := hk5.size; simp; omega) ?_; intro v6 w6 own6 gr6)
          | (go_simp; go_at_call 30; ((with_reducible refine (cadd _).mono ?_); rintro e w5 ⟨rfl, k5⟩; have hk5 : Nw wr5 w5 := Kp.tr (by repeat (first | exact Kp.refl _ _ | refine Kp.drew ?_)) k5)))
        all_goals (
          have HK6 := Lib.hid (gr6.nw (HK5.out.tr (hk5.alloc _)) (own_from HO5.out))
          have HO6 := Lib.hid own6
          clear own6 gr6 y0 y1 y2 y3 cadd
          go_wp2_with fail
          go_roundw
          case rel =>
            refine ⟨k + 1, by rw [← H4.out], by omega, ?_, fun j hj => ?_, HK6.out⟩
            · rw [HTK.out, List.flatMap_append]
              exact HO6.out
            · rcases Nat.lt_or_ge j k with h | h
              · exact HA.out j h
              · obtain rfl : j = k := by omega
                first | exact HWB.out rfl | exact HWB.out trivial
          case measure => (have := H4.out; simp [intOf]; try omega))
    · obtain rfl : k = n := by omega
      have i5 : ¬ ((k : Int) < (k : Int)) := by omega
      have hm4 : ∀ x ∈ l, M4 x := fun x hx => by
        obtain ⟨i, hi, rfl⟩ := vx_at hx
        exact HA.out i (by rw [HN.out] at hi; exact hi)
      have hsrc := own_src HO.out
      rw [List.take_of_length_le (by rw [HN.out]; exact Nat.le_refl _), mov_list HVM.out hm4] at hsrc
      have hsv : SrcV wr (.slice A6 k c6) (l.map (mvP (vx, vy))) := by
        show Src _ 2 _ (l.map (mvP (vx, vy))).length _
        rw [List.length_map, HN.out]
        exact hsrc
      have HSM := Lib.hid hsv
      have HK7 := Lib.hid (HK4.out.tr HK.out)
      have HD7 := Lib.hid (HD4.out.kp HK.out id)
      have chl := hull_any l (.slice A k c) wr (HSV.out.nw HK7.out)
      have chm := fun w1 (h : Nw wr w1) => hull_any (l.map (mvP (vx, vy))) (.slice A6 k c6) w1 (HSM.out.nw h)
      have hcs := mov_cases HVM.out hm4 hs (by omega)
      clear HK HA HO hsrc hsv hm4
      go_wp2_with fail
      refine chl.mono ?_
      rintro e w8 ⟨v8, rfl, s8, k8⟩
      obtain ⟨A8, c8, e8⟩ := s8.shape
      subst e8
      have HK8 := Lib.hid k8
      clear k8 chl
      go_wp2_with fail
      refine (chm _ HK8.out).mono ?_
      rintro e w9 ⟨v9, rfl, s9, k9⟩
      obtain ⟨A9, c9, e9⟩ := s9.shape
      subst e9
      have HK9 := Lib.hid (HK8.out.tr k9)
      have HS89 := Lib.hid (s8.nw k9)
      have HS99 := Lib.hid s9
      have HK10 := Lib.hid (HK7.out.tr HK9.out)
      have HD9 := Lib.hid (HD7.out.kp HK9.out id)
      clear k9 s8 s9 chm
      rcases hcs with ⟨h1, h2⟩ | ⟨r, hh, h1, h2, hc1, hc2, hsr⟩
      · rw [h1, h2]
        clear h1 h2 hs h30
        go_wp2_with fail
        go_ret
        exact ⟨by simp, HK10.out⟩
      rw [h1] at HS89 ⊢
      rw [h2] at HS99 ⊢
      simp only at HS89 HS99
      have hdm : M2 (dx, dy) := within_m2 (p := (dx, dy)) HWD.out
      have hdo := m2_ok hdm
      have hn2 : w64 (-dx) = -dx ∧ w64 (-dy) = -dy := by
        unfold M2 at hdm
        exact ⟨w64_id ⟨by omega, by omega⟩, w64_id ⟨by omega, by omega⟩⟩
      have hng : sOk (-dx, -dy) = true := by
        have := sOk_iff.1 hdo
        exact sOk_iff.2 ⟨by omega, by omega, by omega, by omega⟩
      have h3 := hh.conv.1
      have hwf := widH_far (d := (dx, dy)) (l := r) (by omega)
      have e1 : widQ r (dx, dy) = widH (dx, dy) r := by unfold widQ; rw [hc1, hdo]; rfl
      have e2 : errW r (dx, dy) = 0 := by unfold errW; rw [hc1, hdo]; rfl
      have e3 : widQ (r.map (mvP (vx, vy))) (dx, dy) = widH (dx, dy) r := by unfold widQ; rw [hc2, hdo]; exact wid_mov (by omega)
      have e4 : errW (r.map (mvP (vx, vy))) (dx, dy) = 0 := by unfold errW; rw [hc2, hdo]; rfl
      have e5 : farQ r (dx, dy) = farH (dx, dy) r := by unfold farQ; rw [hc1, hdo]; rfl
      have e6 : farQ r (-dx, -dy) = farH (ngP (dx, dy)) r := by unfold farQ; rw [hc1, hng]; rfl
      have e7 : errW r (-dx, -dy) = 0 := by unfold errW; rw [hc1, hng]; rfl
      have m1 := (farH_far (d := (dx, dy)) (l := r) (by omega)).mem
      have m2 := (farH_far (d := ngP (dx, dy)) (l := r) (by omega)).mem
      rw [← e5] at m1 hwf
      rw [← e6] at m2 hwf
      obtain ⟨⟨px, py⟩, hpx⟩ : ∃ x, farQ r (dx, dy) = x := ⟨_, rfl⟩
      obtain ⟨⟨qx, qy⟩, hqx⟩ : ∃ x, farQ r (-dx, -dy) = x := ⟨_, rfl⟩
      obtain ⟨ww, hww⟩ : ∃ x, widH (dx, dy) r = x := ⟨_, rfl⟩
      rw [hpx, hqx, hww] at hwf
      rw [hpx] at m1
      rw [hqx] at m2
      rw [hww] at e1 e3
      have o1 := allS_iff.1 hsr _ m1
      have o2 := allS_iff.1 hsr _ m2
      have hss := sub_small o1 o2
      simp only at hss hwf
      have hdt : dotV dx dy (px - qx) (py - qy) = ww := by
        have a1 : Mid (dx, dy) := sOk_mid hdo
        have a2 : Mid (px - qx, py - qy) := by
          rw [sOk_iff] at o1 o2
          unfold Mid
          simp only at o1 o2 ⊢
          omega
        have := dot_mid a1 a2
        simp only at this
        rw [this]
        exact hwf.1.symm
      obtain ⟨rn, hrn⟩ : ∃ x, r.length = x := ⟨_, rfl⟩
      have hr30 : rn ≤ 30 := by rw [← hrn]; exact Nat.le_trans (hull_sub hh (fun _ h => h)) h30
      have hmn : (r.map (mvP (vx, vy))).length = rn := by rw [List.length_map, hrn]
      rw [hrn, hmn]
      have HS8 := Lib.hid (show SrcV w9 (.slice A8 rn c8) r from hrn ▸ HS89.out)
      have HS9 := Lib.hid (show SrcV w9 (.slice A9 rn c9) (r.map (mvP (vx, vy))) from hmn ▸ HS99.out)
      have b1 : r.length ≤ 1099511627776 := by omega
      have b2 : (r.map (mvP (vx, vy))).length ≤ 1099511627776 := by omega
      have cwr := wid_any r dx dy (.slice A8 rn c8) w9 HS8.out b1
      rw [e1, e2] at cwr
      have cws := fun w1 (h : Nw w9 w1) => wid_any (r.map (mvP (vx, vy))) dx dy (.slice A9 rn c9) w1 (HS9.out.nw h) b2
      rw [e3, e4] at cws
      have cfa := fun w1 (h : Nw w9 w1) => far_any r dx dy (.slice A8 rn c8) w1 (HS8.out.nw h) b1
      rw [hpx, e2] at cfa
      have cfb := fun w1 (h : Nw w9 w1) => far_any r (-dx) (-dy) (.slice A8 rn c8) w1 (HS8.out.nw h) b1
      rw [hqx, e7] at cfb
      have cng := fun w1 => rneg_any dx dy w1
      rw [hn2.1, hn2.2] at cng
      have csb := fun w1 => rsub_any px py qx qy w1
      rw [hss.1, hss.2] at csb
      have cdt := fun w1 => rdot_any dx dy (px - qx) (py - qy) w1
      rw [hdt] at cdt
      have chs := fun w1 (h : Nw w9 w1) => has_any r px py (.slice A8 rn c8) w1 (HS8.out.nw h) b1
      rw [hasB_iff.2 m1] at chs
      have hge : decide (ww ≥ 0) = true := decide_eq_true hwf.2
      generalize px - qx = x1 at *
      generalize py - qy = x2 at *
      have HGE := Lib.hid hge
      obtain ⟨y0, y1, _, _⟩ := HD9.out.two
      clear h1 h2 hh hc1 hc2 hsr hdm hdo hn2 hng h3 hwf e1 e2 e3 e4 e5 e6 e7 m1 m2 hpx hqx hww o1 o2 hss hdt hrn hmn b1 b2 hge hs h30
      go_wp2_with fail
      refine cwr.mono ?_
      rintro e w11 ⟨rfl, k11⟩
      clear y0 y1 cwr
      obtain ⟨y0, y1, _, _⟩ := (HD9.out.kp k11 id).two
      go_wp2_with fail
      refine (cws _ k11).mono ?_
      rintro e w12 ⟨rfl, k12⟩
      have HK12 := Lib.hid (k11.tr k12)
      clear y0 y1 cws k11 k12
      obtain ⟨y0, y1, _, _⟩ := (HD9.out.kp HK12.out id).two
      go_wp2_with fail
      refine (cfa _ HK12.out).mono ?_
      rintro e w13 ⟨rfl, k13⟩
      have HK13 := Lib.hid (HK12.out.tr k13)
      clear y0 y1 cfa k13
      go_upto_region 19 with fail
      generalize hwb : World.alloc _ (.cells #[.int .i64 px, .int .i64 py] _) = w14
      have HK14 := Lib.hid (HK13.out.tr (show Nw w13 w14 by rw [← hwb]; exact nw_alloc _ _))
      have HP14 := Lib.hid (show Blk w14 w13.heap.size 32 #[.int .i64 px, .int .i64 py] by rw [← hwb]; exact Blk.new _ _ _)
      obtain ⟨y0, y1, _, _⟩ := (HD9.out.kp HK14.out id).two
      clear hwb
      go_wp2_with fail
      refine (cng _).mono ?_
      rintro e w15 ⟨rfl, k15⟩
      have HK15 := Lib.hid (HK14.out.tr k15)
      have HP15 := Lib.hid (HP14.out.kp k15 id)
      clear y0 y1 k15 cng
      go_wp2_with fail
      refine (cfb _ HK15.out).mono ?_
      rintro e w16 ⟨rfl, k16⟩
      have HK16 := Lib.hid (HK15.out.tr k16)
      have HP16 := Lib.hid (HP15.out.kp k16 id)
      clear k16 cfb
      go_upto_region 20 with fail
      generalize hwb : World.alloc _ (.cells #[.int .i64 qx, .int .i64 qy] _) = w17
      have HK17a := Lib.hid (show Nw w16 w17 by rw [← hwb]; exact nw_alloc _ _)
      have HK17 := Lib.hid (HK16.out.tr HK17a.out)
      have HQ17 := Lib.hid (show Blk w17 w16.heap.size 32 #[.int .i64 qx, .int .i64 qy] by rw [← hwb]; exact Blk.new _ _ _)
      clear hwb
      have q0 := fun p : KeptW w17 => (HD9.out.kp (HK17.out.tr p.since) id).cell 0
      have q1 := fun p : KeptW w17 => (HD9.out.kp (HK17.out.tr p.since) id).cell 1
      have q2 := fun p : KeptW w17 => (HP16.out.kp (HK17a.out.tr p.since) id).cell 0
      have q3 := fun p : KeptW w17 => (HP16.out.kp (HK17a.out.tr p.since) id).cell 1
      have q4 := fun p : KeptW w17 => (HQ17.out.kept p).cell 0
      have q5 := fun p : KeptW w17 => (HQ17.out.kept p).cell 1
      have chp := fun p : KeptW w17 => chs p.wd (HK17.out.tr p.since)
      have hge := HGE.out
      refine wp_region_kept (Kp.refl _ _) (by assumption) (by kernel_rfl) ?_
      repeat (with_reducible refine wpQuiet_step (fun K hK => ?_); go_simp; first | ((with_reducible refine hK _ ?_); clear hK K) | (with_reducible apply Exists.intro; (with_reducible refine ⟨fun _ => ?_, hK _ ?_⟩); ((first | (go_at_call 33; with_reducible exact Calls.kept_of (csb _)) | (go_at_call 32; with_reducible exact Calls.kept_of (cdt _)) | (go_at_call 27; with_reducible exact Calls.kept_of (chp _)) | fail)); clear hK K) | (simp only [undef, reduceCtorEq, if_false]; (with_reducible refine hK _ ?_); clear hK K))
      with_reducible refine wpQuiet_nil ?_
      rintro _ ⟨p, rfl⟩
      go_wp2_with fail
      go_ret
      exact ⟨rfl, HK10.out.tr (HK17.out.tr p.since)⟩

end Go.Proofs.Ythbgapcplgigoaa.W
