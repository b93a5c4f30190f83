/-
  ring: WherePoint and Where: what they return. Condition: the list is not longer than 2^40.
-/
import Derived.Test.YthifljljaejfmaaJ36
import Derived.Test.YthifljljaejfmaaJ37
import Derived.Test.YthifljljaejfmaaJ10
namespace Go.Proofs.Ythifljljaejfmaa.W
open Go.RowKit Go.Proofs.Ythifljljaejfmaa.V Go.Proofs.Ythifljljaejfmaa.G


theorem anyOn_snoc (l : List Ed) (e : Ed) (x y d : Int) : anyOn (l ++ [e]) x y d = (anyOn l x y d || onP e x y d) := by unfold anyOn; simp
theorem countP_snoc (l : List Ed) (e : Ed) (x y d : Int) : ((countP (l ++ [e]) x y d : Nat) : Int) = (countP l x y d : Int) + if crossesP e x y d then 1 else 0 := by
  unfold countP
  rw [List.filter_append, List.length_append]
  cases h : crossesP e x y d <;> simp [h]
theorem countP_le (l : List Ed) (x y d : Int) : countP l x y d ≤ l.length := List.length_filter_le _ _
theorem edge_ok {l : List Pt} (hw : allW l = true) {i : Nat} (hi : i < l.length) : wOk (edgeP l i).1 = true ∧ wOk (edgeP l i).2 = true :=
  ⟨allTo_iff.1 hw i hi, allTo_iff.1 hw _ (Nat.mod_lt _ (by omega))⟩
theorem valid_w {l : List Pt} (h : validR l = true) : allW l = true := by
  unfold validR at h
  simp only [Bool.and_eq_true] at h
  exact h.1.1.1.2

set_option maxRecDepth 100000 in
set_option maxHeartbeats 12800000 in
theorem wherePoint_any (l : List (Int × Int)) (v : Value) (x y d : Int) (w : World) (hv : SrcV w v l) (hl : l.length ≤ 1099511627776) : Calls Try.prog 8 #[v, pV x y d] w fun e w' => e = .returned (.int .i64 (whereR l x y d)) ∧ Nw w w' := by
  have hmix := mixed7
  have cv := fun w1 (h : Nw w w1) => ringValid_any l v w1 (hv.nw h) hl
  have cp := fun w1 => validPoint_any x y d w1
  have ce := fun w1 (h : Nw w w1) => edges_any l v w1 (hv.nw h) hl
  obtain ⟨w0, hw0⟩ : ∃ w0, w.alloc (.cells #[.int .i64 x, .int .i64 y, .int .i64 d] 31) = w0 := ⟨_, rfl⟩
  have HW0 := Lib.hid (show Nw w w0 by rw [← hw0]; exact nw_alloc _ _)
  have HP0 := Lib.hid (show Blk w0 w.heap.size 31 #[.int .i64 x, .int .i64 y, .int .i64 d] by rw [← hw0]; exact Blk.new _ _ _)
  obtain ⟨PP, hPP⟩ : ∃ E, w.heap.size = E := ⟨_, rfl⟩
  rw [hPP] at HP0
  obtain ⟨b1, hb1⟩ : ∃ b, validR l = b := ⟨_, rfl⟩
  obtain ⟨b2, hb2⟩ : ∃ b, validP x y d = b := ⟨_, rfl⟩
  rw [hb1] at cv
  rw [hb2] at cp
  cases b1 with
  | false =>
    rw [show whereR l x y d = 0 by unfold whereR; rw [hb1]; rfl]
    clear hv hb1 hb2 ce cp
    go_enter Try.func8, Try.ntmps8
    go_wp2_with fail
    with_reducible refine (cv _ HW0.out).mono ?_
    rintro e w1 ⟨rfl, k1⟩
    go_wp2_with fail
    go_ret
    exact ⟨rfl, HW0.out.tr k1⟩
  | true =>
    cases b2 with
    | false =>
      rw [show whereR l x y d = 0 by unfold whereR; rw [hb1, hb2]; rfl]
      clear hv hb1 hb2 ce
      go_enter Try.func8, Try.ntmps8
      go_wp2_with fail
      with_reducible refine (cv _ HW0.out).mono ?_
      rintro e w1 ⟨rfl, k1⟩
      obtain ⟨y0, y1, y2, -⟩ := (HP0.out.kp k1 id).three
      go_wp2_with fail
      with_reducible refine (cp _).mono ?_
      rintro e w2 ⟨rfl, k2⟩
      go_wp2_with fail
      go_ret
      exact ⟨rfl, (HW0.out.tr k1).tr k2⟩
    | true =>
      have hR : whereR l x y d = if anyOn (edgesP l) x y d then 1 else if countP (edgesP l) x y d % 2 = 1 then 2 else 0 := by unfold whereR; rw [hb1, hb2]; rfl
      obtain ⟨r, hr⟩ : ∃ r, whereR l x y d = r := ⟨_, rfl⟩
      rw [hr]
      rw [hr] at hR
      have HR := Lib.hid hR
      obtain ⟨g3, g40⟩ := valid_len hb1
      have HOK := Lib.hid (valid_w hb1)
      have HPT := Lib.hid (pt_ok hb2)
      have hel : (edgesP l).length = l.length := by rw [edges_len, if_neg (by omega)]
      have HEA := Lib.hid (show ∀ k, k < l.length → (edgesP l)[k]? = some (edgeP l k) from fun k hk => edges_at (by omega) hk)
      clear hv hb1 hb2 hR hr
      go_enter Try.func8, Try.ntmps8
      go_wp2_with fail
      with_reducible refine (cv _ HW0.out).mono ?_
      rintro e w1 ⟨rfl, k1⟩
      obtain ⟨y0, y1, y2, -⟩ := (HP0.out.kp k1 id).three
      go_wp2_with fail
      with_reducible refine (cp _).mono ?_
      rintro e w2 ⟨rfl, k2⟩
      have HW2 := Lib.hid ((HW0.out.tr k1).tr k2)
      have HP2 := Lib.hid ((HP0.out.kp k1 id).kp k2 id)
      obtain ⟨y0, y1, y2, -⟩ := HP2.out.three
      clear k1 k2 cv cp
      go_wp2_with fail
      obtain ⟨w3, hw3⟩ : ∃ W, (((w2.alloc (.cells #[.int .i64 x, .int .i64 y] 28)).alloc (.cells #[.int .i64 0] 3)).alloc (.cells #[.bool false] 4)) = W := ⟨_, rfl⟩
      rw [hw3]
      have HW3 := Lib.hid (show Nw w w3 by rw [← hw3]; exact ((HW2.out.alloc _).alloc _).alloc _)
      have HS3 := Lib.hid (show Blk w3 PP 31 #[.int .i64 x, .int .i64 y, .int .i64 d] ∧ Blk w3 w2.heap.size 28 #[.int .i64 x, .int .i64 y] by rw [← hw3]; exact ⟨((HP2.out.alloc _).alloc _).alloc _, ((Blk.new _ _ _).alloc _).alloc _⟩)
      have HC3 := Lib.hid (show Blk w3 (w2.heap.size + 1) 3 #[.int .i64 0] by rw [← hw3]; exact (Blk.new_at _ _ _ (by simp)).alloc _)
      have HO3 := Lib.hid (show Blk w3 (w2.heap.size + 1 + 1) 4 #[.bool false] by rw [← hw3]; exact Blk.new_at _ _ _ (by simp))
      have HSZ := Lib.hid (show w.heap.size ≤ w2.heap.size from HW2.out.size)
      obtain ⟨SS, hSS⟩ : ∃ s, w2.heap.size = s := ⟨_, rfl⟩
      rw [hSS] at HS3 HC3 HO3 HSZ ⊢
      obtain ⟨CC, hCC⟩ : ∃ s, SS + 1 = s := ⟨_, rfl⟩
      rw [hCC] at HC3 HO3 ⊢
      obtain ⟨OO, hOO⟩ : ∃ s, CC + 1 = s := ⟨_, rfl⟩
      rw [hOO] at HO3 ⊢
      have HLE := Lib.hid (show w.heap.size ≤ CC ∧ w.heap.size ≤ OO by have := HSZ.out; omega)
      clear hw3 hSS hCC hOO HW2 HP2 y0 y1 y2 hw0 hPP HP0 HW0 HSZ
      with_reducible refine (ce _ HW3.out).mono ?_
      rintro e w4 ⟨v4, rfl, hs4, k4⟩
      obtain ⟨A4, c4, rfl⟩ := hs4.shape
      obtain ⟨n, hn⟩ : ∃ n, l.length = n := ⟨_, rfl⟩
      rw [hn] at hel hl g3 g40 HEA
      obtain ⟨g, o, rfl, hg, hcE⟩ := srcE_at hs4 (by rw [hel]; omega)
      rw [hel]
      have hmx : c4 ≤ 9223372036854775807 ∧ n ≤ c4 := by
        obtain ⟨_, A', c', e, h1, h2, _⟩ := hs4
        injection e with _ _ e3
        subst e3
        unfold maxLen at h2
        rw [hel] at h1
        omega
      have HCE := Lib.hid hcE
      have HK4 := Lib.hid k4
      have HN := Lib.hid hn
      have HSM := Lib.hid hg
      obtain ⟨L, hL⟩ : ∃ L, edgesP l = L := ⟨_, rfl⟩
      rw [hL] at HCE HEA HR hel
      have HEL := Lib.hid hel
      clear hs4 k4 hcE hn ce hL hel hg
      have HST := Lib.hid (show ∀ w', Kp (fun k => k = OO ∨ k = CC) w4 w' → ∀ k e, L[k]? = some e → w'.cell? ⟨g, o + k * 4, none⟩ = some (.int .i64 e.1.1) ∧ w'.cell? ⟨g, o + k * 4 + 1, none⟩ = some (.int .i64 e.1.2) ∧ w'.cell? ⟨g, o + k * 4 + 2, none⟩ = some (.int .i64 e.2.1) ∧ w'.cell? ⟨g, o + k * 4 + 3, none⟩ = some (.int .i64 e.2.2) from fun w' h k e he => by
        obtain ⟨z0, z1, z2, z3⟩ := HCE.out w4 (Kp.refl _ _) k e he
        have n1 : g ≠ OO := by
          rintro rfl
          rw [(HO3.out.kp HK4.out id).cell] at z1
          simp at z1
        have n2 : g ≠ CC := by
          rintro rfl
          rw [(HC3.out.kp HK4.out id).cell] at z1
          simp at z1
        have hS : ¬ (g = OO ∨ g = CC) := by rintro (h | h); exact n1 h; exact n2 h
        exact ⟨(h.cell (p := ⟨g, o + k * 4, none⟩) HSM.out hS).trans z0, (h.cell (p := ⟨g, o + k * 4 + 1, none⟩) HSM.out hS).trans z1, (h.cell (p := ⟨g, o + k * 4 + 2, none⟩) HSM.out hS).trans z2, (h.cell (p := ⟨g, o + k * 4 + 3, none⟩) HSM.out hS).trans z3⟩)
      have HPS := Lib.hid (show ∀ w', Kp (fun k => k = OO ∨ k = CC) w4 w' → Blk w' PP 31 #[.int .i64 x, .int .i64 y, .int .i64 d] ∧ Blk w' SS 28 #[.int .i64 x, .int .i64 y] from fun w' h => by
        have e1 := (HS3.out.1).kp HK4.out id
        have e2 := (HS3.out.2).kp HK4.out id
        have o1 := HO3.out.kp HK4.out id
        have o2 := HC3.out.kp HK4.out id
        exact ⟨e1.kp h (by rintro (r | r) <;> subst r; exact Blk.ne_ e1 o1 (by decide) rfl; exact Blk.ne_ e1 o2 (by decide) rfl), e2.kp h (by rintro (r | r) <;> subst r; exact Blk.ne_ e2 o1 (by decide) rfl; exact Blk.ne_ e2 o2 (by decide) rfl)⟩)
      go_wp2_with fail
      go_loopw [28] (fun i wr => ∃ k : Nat, i = .int .i64 k ∧ k ≤ n ∧ Kp (fun k => k = OO ∨ k = CC) w4 wr ∧ Blk wr OO 4 #[.bool (anyOn (L.take k) x y d)] ∧ Blk wr CC 3 #[.int .i64 (countP (L.take k) x y d : Nat)]) (fun i _ => n - (intOf i).toNat)
      case atStart => exact ⟨0, rfl, Nat.zero_le _, (by repeat (first | exact Kp.refl _ _ | refine Kp.alloc ?_ _ | refine Kp.drew ?_)), HO3.out.kp HK4.out id, HC3.out.kp HK4.out id⟩
      case round =>
        obtain ⟨k, rfl, hk, hkp, hbo, hbc⟩ := hrel
        have HKP := Lib.hid hkp
        have HBO := Lib.hid hbo
        have HBC := Lib.hid hbc
        clear hkp hbo hbc
        by_cases hkn : k < n
        · have i0 : (0 : Int) ≤ (k : Int) := by omega
          have i1 : (k : Int) < (n : Int) := by omega
          obtain ⟨s4, hs4⟩ : ∃ s : Nat, k + 1 = s := ⟨_, rfl⟩
          have a4 : IntKind.i64.wrap ((k : Int) + 1) = (s4 : Int) := by rw [IntKind.wrap_i64]; omega
          have H4 := Lib.hid hs4
          obtain ⟨⟨⟨ax, ay⟩, ⟨bx, bz⟩⟩, he⟩ : ∃ e, edgeP l k = e := ⟨_, rfl⟩
          have hLk := HEA.out k hkn
          rw [he] at hLk
          obtain ⟨y0, y1, y2, y3⟩ := HST.out wr HKP.out k _ hLk
          have hok := edge_ok HOK.out (i := k) (by rw [HN.out]; exact hkn)
          rw [he] at hok
          have htk : L.take (k + 1) = L.take k ++ [((ax, ay), (bx, bz))] := by rw [List.take_add_one, hLk]; rfl
          have HTK := Lib.hid htk
          have HOE := Lib.hid hok
          have hcb : countP (L.take k) x y d ≤ 1000 := by have := countP_le (L.take k) x y d; rw [List.length_take, HEL.out] at this; omega
          clear hs4 he hLk hok htk
          go_upto_region 9 with fail
          generalize hwb : World.alloc _ (.cells #[.int .i64 ax, .int .i64 ay, .int .i64 bx, .int .i64 bz] _) = wb
          obtain ⟨c0, c1, c2, c3, -⟩ := Blk.four (show Blk wb wr.heap.size 47 #[.int .i64 ax, .int .i64 ay, .int .i64 bx, .int .i64 bz] by rw [← hwb]; exact Blk.new _ _ _)
          have HKB := Lib.hid (show Kp (fun k => k = OO ∨ k = CC) w4 wb by rw [← hwb]; exact HKP.out.alloc _)
          have b3 : Blk wb OO 4 #[.bool (anyOn (L.take k) x y d)] := by rw [← hwb]; exact HBO.out.alloc _
          have b4 : Blk wb CC 3 #[.int .i64 (countP (L.take k) x y d : Nat)] := by rw [← hwb]; exact HBC.out.alloc _
          have hps := HPS.out wb HKB.out
          have cf := closure_any ax ay bx bz x y d HOE.out.1 HOE.out.2 HPT.out PP SS OO CC _ _ ⟨by omega, by omega⟩ wb hps.1 hps.2 b3 b4
          clear hwb y0 y1 y2 y3 b3 b4 hps
          go_wp2_with fail
          with_reducible refine cf.mono ?_
          rintro e w5 ⟨rfl, k5, bo5, bc5⟩
          rw [← anyOn_snoc, ← HTK.out] at bo5
          rw [← countP_snoc, ← HTK.out] at bc5
          have HK5 := Lib.hid (HKB.out.tr k5)
          have HB5 := Lib.hid (And.intro bo5 bc5)
          clear cf k5 bo5 bc5 c0 c1 c2 c3
          go_wp2_with fail
          go_roundw
          case rel => exact ⟨k + 1, by rw [← H4.out], by omega, HK5.out, HB5.out.1, HB5.out.2⟩
          case measure => (have := H4.out; simp [intOf]; try omega)
        · obtain rfl : k = n := by omega
          have i5 : ¬ ((k : Int) < (k : Int)) := by omega
          have htl : L.take k = L := List.take_of_length_le (by rw [HEL.out]; exact Nat.le_refl _)
          rw [htl] at HBO HBC
          have hfin := HW3.out.tr HK4.out
          have HFIN := Lib.hid (show Nw w wr from Kp.own hfin HKP.out fun i hi => by rcases hi with rfl | rfl; exact HLE.out.2; exact HLE.out.1)
          obtain ⟨z0, -⟩ := HBO.out.one
          obtain ⟨z1, -⟩ := HBC.out.one
          obtain ⟨ao, hao⟩ : ∃ a, anyOn L x y d = a := ⟨_, rfl⟩
          obtain ⟨cn, hcn⟩ : ∃ c, countP L x y d = c := ⟨_, rfl⟩
          rw [hao] at z0 HR
          rw [hcn] at z1 HR
          have a2 : IntKind.i64.wrap ((cn : Int).tmod 2) = ((cn % 2 : Nat) : Int) := by rw [show (2 : Int) = ((2 : Nat) : Int) from rfl, tmod_nat, IntKind.wrap_i64]; omega
          have a3 : (cn : Int).tmod 2 = ((cn % 2 : Nat) : Int) := by rw [show (2 : Int) = ((2 : Nat) : Int) from rfl, tmod_nat]
          obtain ⟨q, hq⟩ : ∃ q, cn % 2 = q := ⟨_, rfl⟩
          rw [hq] at a2 a3 HR
          have hqr : q = 0 ∨ q = 1 := by omega
          clear htl hao hcn hfin hq HBO HBC
          cases ao
          · rcases hqr with rfl | rfl
            · go_wp2_with fail
              go_ret
              refine ⟨?_, HFIN.out⟩
              rw [HR.out]
              rfl
            · go_wp2_with fail
              go_ret
              refine ⟨?_, HFIN.out⟩
              rw [HR.out]
              rfl
          · go_wp2_with fail
            go_ret
            refine ⟨?_, HFIN.out⟩
            rw [HR.out]
            rfl

set_option maxRecDepth 100000 in
set_option maxHeartbeats 3200000 in
theorem where_any (l : List (Int × Int)) (v : Value) (x y : Int) (w : World) (hv : SrcV w v l) (hl : l.length ≤ 1099511627776) : Calls Try.prog 14 #[v, vV x y] w fun e w' => e = .returned (.int .i64 (whereR l x y 1)) ∧ Nw w w' := by
  have c1 := fun w1 => pointOf_any x y w1
  have c2 := fun w1 (h : Nw w w1) => wherePoint_any l v x y 1 w1 (hv.nw h) hl
  clear hv
  go_enter Try.func14, Try.ntmps14
  go_wp2_with fail
  with_reducible refine (c1 _).mono ?_
  rintro e w1 ⟨rfl, k1⟩
  have h1 := (nw_alloc w (.cells #[.int .i64 x, .int .i64 y] 28)).tr k1
  go_wp2_with fail
  with_reducible refine (c2 _ h1).mono ?_
  rintro e w2 ⟨rfl, k2⟩
  go_wp2_with fail
  go_ret
  exact ⟨rfl, h1.tr k2⟩

end Go.Proofs.Ythifljljaejfmaa.W
