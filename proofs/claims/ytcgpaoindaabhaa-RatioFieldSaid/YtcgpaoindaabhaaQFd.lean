/-
  RatioField: the call returns true. Condition: the parts are ints.
-/
import Derived.Test.YtcgpaoindaabhaaQFl
import Derived.Deep.CutRange
namespace Go.Proofs.Ytcgpaoindaabhaa.W
open Go.RowKit Go.Proofs.Ytcgpaoindaabhaa.Q
set_option maxRecDepth 100000 in
set_option maxHeartbeats 12800000 in
theorem field_valid (an ad bn bd cn cd : Int) (ha1 : I64 an) (ha2 : I64 ad) (hb1 : I64 bn) (hb2 : I64 bd) (hc1 : I64 cn) (hc2 : I64 cd) (ha : Vld an ad) (hb : Vld bn bd) (hc : Vld cn cd) (w : World) :
    Calls Try.prog 6 #[raV an ad, raV bn bd, raV cn cd] w fun e w' => e = .returned (.bool true) ∧ Nw w w' := by
  have haw := fun w1 => awake_any w1
  have hva := fun w1 => refValid_any an ad ha1 ha2 w1
  have hvb := fun w1 => refValid_any bn bd hb1 hb2 w1
  have hvc := fun w1 => refValid_any cn cd hc1 hc2 w1
  rw [decide_eq_true ha] at hva
  rw [decide_eq_true hb] at hvb
  rw [decide_eq_true hc] at hvc
  have cS := fun w1 => add_any an ad bn bd ha1 ha2 hb1 hb2 w1
  have cS' := fun w1 => add_any bn bd an ad hb1 hb2 ha1 ha2 w1
  have cP := fun w1 => mul_any an ad bn bd ha1 ha2 hb1 hb2 w1
  have cP' := fun w1 => mul_any bn bd an ad hb1 hb2 ha1 ha2 w1
  rw [addR_comm ha hb] at cS'
  rw [mulR_comm ha hb] at cP'
  have iS := addR_i64 an ad bn bd
  have iP := mulR_i64 an ad bn bd
  have cBk := fun w1 => sub_any (addR an ad bn bd).1 (addR an ad bn bd).2.1 bn bd iS.1 iS.2 hb1 hb2 w1
  have cX := fun w1 => add_any (addR an ad bn bd).1 (addR an ad bn bd).2.1 cn cd iS.1 iS.2 hc1 hc2 w1
  have cU := fun w1 => add_any bn bd cn cd hb1 hb2 hc1 hc2 w1
  have iU := addR_i64 bn bd cn cd
  have cY := fun w1 => add_any an ad (addR bn bd cn cd).1 (addR bn bd cn cd).2.1 ha1 ha2 iU.1 iU.2 w1
  have cM := fun w1 => mul_any (addR an ad bn bd).1 (addR an ad bn bd).2.1 cn cd iS.1 iS.2 hc1 hc2 w1
  have cV := fun w1 => mul_any an ad cn cd ha1 ha2 hc1 hc2 w1
  have cT := fun w1 => mul_any bn bd cn cd hb1 hb2 hc1 hc2 w1
  have iV := mulR_i64 an ad cn cd
  have iT := mulR_i64 bn bd cn cd
  have cZ := fun w1 => add_any (mulR an ad cn cd).1 (mulR an ad cn cd).2.1 (mulR bn bd cn cd).1 (mulR bn bd cn cd).2.1 iV.1 iV.2 iT.1 iT.2 w1
  have cD := fun w1 => div_any (mulR an ad bn bd).1 (mulR an ad bn bd).2.1 bn bd iP.1 iP.2 hb1 hb2 w1
  have cF := fun w1 => mul_any (mulR an ad bn bd).1 (mulR an ad bn bd).2.1 cn cd iP.1 iP.2 hc1 hc2 w1
  have cH := fun w1 => mul_any an ad (mulR bn bd cn cd).1 (mulR bn bd cn cd).2.1 ha1 ha2 iT.1 iT.2 w1
  have z1 := field_sub ha hb
  have z2 := field_add ha hb hc
  have z3 := field_dist ha hb hc
  have z4 := field_div ha hb
  have z5 := field_mul ha hb hc
  clear iS iP iU iV iT ha hb hc
  generalize addR an ad (addR bn bd cn cd).1 (addR bn bd cn cd).2.1 = Y at *
  generalize addR (addR an ad bn bd).1 (addR an ad bn bd).2.1 cn cd = X at *
  generalize subR (addR an ad bn bd).1 (addR an ad bn bd).2.1 bn bd = K at *
  generalize mulR (addR an ad bn bd).1 (addR an ad bn bd).2.1 cn cd = M at *
  generalize addR (mulR an ad cn cd).1 (mulR an ad cn cd).2.1 (mulR bn bd cn cd).1 (mulR bn bd cn cd).2.1 = Z at *
  generalize divR (mulR an ad bn bd).1 (mulR an ad bn bd).2.1 bn bd = D at *
  generalize mulR (mulR an ad bn bd).1 (mulR an ad bn bd).2.1 cn cd = F at *
  generalize mulR an ad (mulR bn bd cn cd).1 (mulR bn bd cn cd).2.1 = H at *
  generalize addR an ad bn bd = S at *
  generalize mulR an ad bn bd = P at *
  generalize addR bn bd cn cd = U at *
  generalize mulR an ad cn cd = V at *
  generalize mulR bn bd cn cd = T at *
  obtain ⟨s1, s2, e⟩ := S
  obtain ⟨p1, p2, g⟩ := P
  obtain ⟨u1, u2, k⟩ := U
  obtain ⟨v1, v2, vo⟩ := V
  obtain ⟨t1, t2, r⟩ := T
  obtain ⟨xa, xb, xj⟩ := X
  obtain ⟨ya, yb, yj⟩ := Y
  obtain ⟨ma, mb, mj⟩ := M
  obtain ⟨za, zb, zj⟩ := Z
  obtain ⟨fa, fb, fj⟩ := F
  obtain ⟨ha, hb, hj⟩ := H
  simp only [] at z1 z2 z3 z4 z5 cS cS' cP cP' cBk cX cU cY cM cV cT cZ cD cF cH
  have HZ := Lib.hid (And.intro z1 (And.intro z2 (And.intro z3 (And.intro z4 z5))))
  have HC := Lib.hid (And.intro cBk (And.intro cX (And.intro cU (And.intro cY (And.intro cM (And.intro cV (And.intro cT (And.intro cZ (And.intro cD (And.intro cF cH))))))))))
  clear z1 z2 z3 z4 z5 cBk cX cU cY cM cV cT cZ cD cF cH ha1 ha2 hb1 hb2 hc1 hc2
  have HS0 := Lib.hid (st_three w an ad bn bd cn cd)
  have HN0 := Lib.hid (((nw_alloc w (.cells #[.int .i64 an, .int .i64 ad] 23)).alloc (.cells #[.int .i64 bn, .int .i64 bd] 23)).alloc (.cells #[.int .i64 cn, .int .i64 cd] 23))
  go_enter Try.func6, Try.ntmps6
  go_wp2_with fail
  refine (haw _).mono ?_
  rintro e x1 ⟨rfl, hk⟩
  have HS1 := Lib.hid (HS0.out.nw hk)
  have HN1 := Lib.hid (HN0.out.tr hk)
  clear hk
  obtain ⟨c0a, c0b⟩ := HS1.out.get (w.heap.size) (an) (ad) (by simp)
  go_wp2_with fail
  refine (hva _).mono ?_
  rintro e x2 ⟨rfl, hk⟩
  have HS2 := Lib.hid (HS1.out.nw hk)
  have HN2 := Lib.hid (HN1.out.tr hk)
  clear hk
  clear c0a c0b
  obtain ⟨c0a, c0b⟩ := HS2.out.get (w.heap.size + 1) (bn) (bd) (by simp)
  go_wp2_with fail
  refine (hvb _).mono ?_
  rintro e x3 ⟨rfl, hk⟩
  have HS3 := Lib.hid (HS2.out.nw hk)
  have HN3 := Lib.hid (HN2.out.tr hk)
  clear hk
  clear c0a c0b
  obtain ⟨c0a, c0b⟩ := HS3.out.get (w.heap.size + 1 + 1) (cn) (cd) (by simp)
  go_wp2_with fail
  refine (hvc _).mono ?_
  rintro e x4 ⟨rfl, hk⟩
  have HS4 := Lib.hid (HS3.out.nw hk)
  have HN4 := Lib.hid (HN3.out.tr hk)
  clear hk
  clear c0a c0b
  obtain ⟨c0a, c0b⟩ := HS4.out.get (w.heap.size) (an) (ad) (by simp)
  obtain ⟨c1a, c1b⟩ := HS4.out.get (w.heap.size + 1) (bn) (bd) (by simp)
  go_wp2_with fail
  refine (cS _).mono ?_
  rintro e x5 ⟨rfl, hk⟩
  have HS5 := Lib.hid ((HS4.out.nw hk).cons (s1) (s2))
  have HN5 := Lib.hid ((HN4.out.tr hk).alloc (.cells #[.int .i64 (s1), .int .i64 (s2)] 23))
  clear hk
  clear c0a c0b c1a c1b
  obtain ⟨c0a, c0b⟩ := HS5.out.get (w.heap.size) (an) (ad) (by simp)
  obtain ⟨c1a, c1b⟩ := HS5.out.get (w.heap.size + 1) (bn) (bd) (by simp)
  go_wp2_with fail
  refine (cS' _).mono ?_
  rintro e x6 ⟨rfl, hk⟩
  have HS6 := Lib.hid ((HS5.out.nw hk).cons (s1) (s2))
  have HN6 := Lib.hid ((HN5.out.tr hk).alloc (.cells #[.int .i64 (s1), .int .i64 (s2)] 23))
  clear hk
  clear c0a c0b c1a c1b
  obtain ⟨c0a, c0b⟩ := HS6.out.get (w.heap.size) (an) (ad) (by simp)
  obtain ⟨c1a, c1b⟩ := HS6.out.get (w.heap.size + 1) (bn) (bd) (by simp)
  go_wp2_with fail
  refine (cP _).mono ?_
  rintro e x7 ⟨rfl, hk⟩
  have HS7 := Lib.hid ((HS6.out.nw hk).cons (p1) (p2))
  have HN7 := Lib.hid ((HN6.out.tr hk).alloc (.cells #[.int .i64 (p1), .int .i64 (p2)] 23))
  clear hk
  clear c0a c0b c1a c1b
  obtain ⟨c0a, c0b⟩ := HS7.out.get (w.heap.size) (an) (ad) (by simp)
  obtain ⟨c1a, c1b⟩ := HS7.out.get (w.heap.size + 1) (bn) (bd) (by simp)
  go_wp2_with fail
  refine (cP' _).mono ?_
  rintro e x8 ⟨rfl, hk⟩
  have HS8 := Lib.hid ((HS7.out.nw hk).cons (p1) (p2))
  have HN8 := Lib.hid ((HN7.out.tr hk).alloc (.cells #[.int .i64 (p1), .int .i64 (p2)] 23))
  clear hk
  clear c0a c0b c1a c1b
  clear haw hva hvb hvc cS cS' cP cP'
  obtain ⟨c0a, c0b⟩ := HS8.out.get (x5.heap.size) (s1) (s2) (by simp)
  obtain ⟨c1a, c1b⟩ := HS8.out.get (x6.heap.size) (s1) (s2) (by simp)
  obtain ⟨c2a, c2b⟩ := HS8.out.get (x7.heap.size) (p1) (p2) (by simp)
  obtain ⟨c3a, c3b⟩ := HS8.out.get (x8.heap.size) (p1) (p2) (by simp)
  go_upto_if 97 with fail
  clear c0a c0b c1a c1b c2a c2b c3a c3b
  go_cut [] from 98 to 174 (fun wc => Nw (x8.alloc (.cells #[.int .i64 p1, .int .i64 p2] 23)) wc)
  case first =>
    have HNB := Lib.hid (Kp.refl (fun _ => False) (x8.alloc (.cells #[.int .i64 p1, .int .i64 p2] 23)))
    by_cases he : e = 0
    · subst he
      obtain ⟨cBk, cX, cU, cY, cM, cV, cT, cZ, _⟩ := HC.out
      have hK := HZ.out.1 rfl
      subst hK
      obtain ⟨c0a, c0b⟩ := HS8.out.get (x5.heap.size) (s1) (s2) (by simp)
      obtain ⟨c1a, c1b⟩ := HS8.out.get (w.heap.size + 1) (bn) (bd) (by simp)
      go_wp2_with fail
      refine (cBk _).mono ?_
      rintro e x9 ⟨rfl, hk⟩
      have HS9 := Lib.hid ((HS8.out.nw hk).cons (an) (ad))
      have HN9 := Lib.hid ((HNB.out.tr hk).alloc (.cells #[.int .i64 (an), .int .i64 (ad)] 23))
      clear hk
      clear c0a c0b c1a c1b
      obtain ⟨c0a, c0b⟩ := HS9.out.get (x9.heap.size) (an) (ad) (by simp)
      obtain ⟨c1a, c1b⟩ := HS9.out.get (w.heap.size) (an) (ad) (by simp)
      obtain ⟨c2a, c2b⟩ := HS9.out.get (x5.heap.size) (s1) (s2) (by simp)
      obtain ⟨c3a, c3b⟩ := HS9.out.get (w.heap.size + 1 + 1) (cn) (cd) (by simp)
      go_wp2_with fail
      refine (cX _).mono ?_
      rintro e x10 ⟨rfl, hk⟩
      have HS10 := Lib.hid ((HS9.out.nw hk).cons (xa) (xb))
      have HN10 := Lib.hid ((HN9.out.tr hk).alloc (.cells #[.int .i64 (xa), .int .i64 (xb)] 23))
      clear hk
      clear c0a c0b c1a c1b c2a c2b c3a c3b
      obtain ⟨c0a, c0b⟩ := HS10.out.get (w.heap.size + 1) (bn) (bd) (by simp)
      obtain ⟨c1a, c1b⟩ := HS10.out.get (w.heap.size + 1 + 1) (cn) (cd) (by simp)
      go_wp2_with fail
      refine (cU _).mono ?_
      rintro e x11 ⟨rfl, hk⟩
      have HS11 := Lib.hid ((HS10.out.nw hk).cons (u1) (u2))
      have HN11 := Lib.hid ((HN10.out.tr hk).alloc (.cells #[.int .i64 (u1), .int .i64 (u2)] 23))
      clear hk
      clear c0a c0b c1a c1b
      by_cases hk0 : k = 0
      · subst hk0
        have hY := HZ.out.2.1 (by simp) (by simp)
        obtain ⟨rfl, rfl, rfl⟩ : ya = xa ∧ yb = xb ∧ yj = xj := by simpa using hY
        clear hY
        obtain ⟨c0a, c0b⟩ := HS11.out.get (w.heap.size) (an) (ad) (by simp)
        obtain ⟨c1a, c1b⟩ := HS11.out.get (x11.heap.size) (u1) (u2) (by simp)
        go_wp2_with fail
        refine (cY _).mono ?_
        rintro e x12 ⟨rfl, hk⟩
        have HS12 := Lib.hid ((HS11.out.nw hk).cons (ya) (yb))
        have HN12 := Lib.hid ((HN11.out.tr hk).alloc (.cells #[.int .i64 (ya), .int .i64 (yb)] 23))
        clear hk
        clear c0a c0b c1a c1b
        obtain ⟨c0a, c0b⟩ := HS12.out.get (x10.heap.size) (ya) (yb) (by simp)
        obtain ⟨c1a, c1b⟩ := HS12.out.get (x12.heap.size) (ya) (yb) (by simp)
        go_wp2_with fail
        refine (same_any _ _ _ _).mono ?_
        rintro e x13 ⟨rfl, hk⟩
        have HS13 := Lib.hid (HS12.out.nw hk)
        have HN13 := Lib.hid (HN12.out.tr hk)
        clear hk
        clear c0a c0b c1a c1b
        obtain ⟨c0a, c0b⟩ := HS13.out.get (x5.heap.size) (s1) (s2) (by simp)
        obtain ⟨c1a, c1b⟩ := HS13.out.get (w.heap.size + 1 + 1) (cn) (cd) (by simp)
        go_wp2_with fail
        refine (cM _).mono ?_
        rintro e x14 ⟨rfl, hk⟩
        have HS14 := Lib.hid ((HS13.out.nw hk).cons (ma) (mb))
        have HN14 := Lib.hid ((HN13.out.tr hk).alloc (.cells #[.int .i64 (ma), .int .i64 (mb)] 23))
        clear hk
        clear c0a c0b c1a c1b
        obtain ⟨c0a, c0b⟩ := HS14.out.get (w.heap.size) (an) (ad) (by simp)
        obtain ⟨c1a, c1b⟩ := HS14.out.get (w.heap.size + 1 + 1) (cn) (cd) (by simp)
        go_wp2_with fail
        refine (cV _).mono ?_
        rintro e x15 ⟨rfl, hk⟩
        have HS15 := Lib.hid ((HS14.out.nw hk).cons (v1) (v2))
        have HN15 := Lib.hid ((HN14.out.tr hk).alloc (.cells #[.int .i64 (v1), .int .i64 (v2)] 23))
        clear hk
        clear c0a c0b c1a c1b
        obtain ⟨c0a, c0b⟩ := HS15.out.get (w.heap.size + 1) (bn) (bd) (by simp)
        obtain ⟨c1a, c1b⟩ := HS15.out.get (w.heap.size + 1 + 1) (cn) (cd) (by simp)
        go_wp2_with fail
        refine (cT _).mono ?_
        rintro e x16 ⟨rfl, hk⟩
        have HS16 := Lib.hid ((HS15.out.nw hk).cons (t1) (t2))
        have HN16 := Lib.hid ((HN15.out.tr hk).alloc (.cells #[.int .i64 (t1), .int .i64 (t2)] 23))
        clear hk
        clear c0a c0b c1a c1b
        by_cases hv0 : vo = 0
        · subst hv0
          by_cases hr0 : r = 0
          · subst hr0
            have hZ := HZ.out.2.2.1 (by simp) (by simp) (by simp)
            obtain ⟨rfl, rfl, rfl⟩ : za = ma ∧ zb = mb ∧ zj = mj := by simpa using hZ
            clear hZ
            obtain ⟨c0a, c0b⟩ := HS16.out.get (x15.heap.size) (v1) (v2) (by simp)
            obtain ⟨c1a, c1b⟩ := HS16.out.get (x16.heap.size) (t1) (t2) (by simp)
            go_wp2_with fail
            refine (cZ _).mono ?_
            rintro e x17 ⟨rfl, hk⟩
            have HS17 := Lib.hid ((HS16.out.nw hk).cons (za) (zb))
            have HN17 := Lib.hid ((HN16.out.tr hk).alloc (.cells #[.int .i64 (za), .int .i64 (zb)] 23))
            clear hk
            clear c0a c0b c1a c1b
            obtain ⟨c0a, c0b⟩ := HS17.out.get (x14.heap.size) (za) (zb) (by simp)
            obtain ⟨c1a, c1b⟩ := HS17.out.get (x17.heap.size) (za) (zb) (by simp)
            go_wp2_with fail
            refine (same_any _ _ _ _).mono ?_
            rintro e x18 ⟨rfl, hk⟩
            have HS18 := Lib.hid (HS17.out.nw hk)
            have HN18 := Lib.hid (HN17.out.tr hk)
            clear hk
            clear c0a c0b c1a c1b
            go_wp2_with fail
            go_meet
            exact HN18.out
          · have er : (r == 0) = false := by simp [hr0]
            clear hr0
            go_wp2_with fail
            go_meet
            exact HN16.out
        · have ev : (vo == 0) = false := by simp [hv0]
          clear hv0
          go_wp2_with fail
          go_meet
          exact HN16.out
      · have ek : (k == 0) = false := by simp [hk0]
        clear hk0
        obtain ⟨c0a, c0b⟩ := HS11.out.get (w.heap.size) (an) (ad) (by simp)
        obtain ⟨c1a, c1b⟩ := HS11.out.get (x11.heap.size) (u1) (u2) (by simp)
        go_wp2_with fail
        refine (cY _).mono ?_
        rintro e x19 ⟨rfl, hk⟩
        have HS19 := Lib.hid ((HS11.out.nw hk).cons (ya) (yb))
        have HN19 := Lib.hid ((HN11.out.tr hk).alloc (.cells #[.int .i64 (ya), .int .i64 (yb)] 23))
        clear hk
        clear c0a c0b c1a c1b
        obtain ⟨c0a, c0b⟩ := HS19.out.get (x5.heap.size) (s1) (s2) (by simp)
        obtain ⟨c1a, c1b⟩ := HS19.out.get (w.heap.size + 1 + 1) (cn) (cd) (by simp)
        go_wp2_with fail
        refine (cM _).mono ?_
        rintro e x20 ⟨rfl, hk⟩
        have HS20 := Lib.hid ((HS19.out.nw hk).cons (ma) (mb))
        have HN20 := Lib.hid ((HN19.out.tr hk).alloc (.cells #[.int .i64 (ma), .int .i64 (mb)] 23))
        clear hk
        clear c0a c0b c1a c1b
        obtain ⟨c0a, c0b⟩ := HS20.out.get (w.heap.size) (an) (ad) (by simp)
        obtain ⟨c1a, c1b⟩ := HS20.out.get (w.heap.size + 1 + 1) (cn) (cd) (by simp)
        go_wp2_with fail
        refine (cV _).mono ?_
        rintro e x21 ⟨rfl, hk⟩
        have HS21 := Lib.hid ((HS20.out.nw hk).cons (v1) (v2))
        have HN21 := Lib.hid ((HN20.out.tr hk).alloc (.cells #[.int .i64 (v1), .int .i64 (v2)] 23))
        clear hk
        clear c0a c0b c1a c1b
        obtain ⟨c0a, c0b⟩ := HS21.out.get (w.heap.size + 1) (bn) (bd) (by simp)
        obtain ⟨c1a, c1b⟩ := HS21.out.get (w.heap.size + 1 + 1) (cn) (cd) (by simp)
        go_wp2_with fail
        refine (cT _).mono ?_
        rintro e x22 ⟨rfl, hk⟩
        have HS22 := Lib.hid ((HS21.out.nw hk).cons (t1) (t2))
        have HN22 := Lib.hid ((HN21.out.tr hk).alloc (.cells #[.int .i64 (t1), .int .i64 (t2)] 23))
        clear hk
        clear c0a c0b c1a c1b
        by_cases hv0 : vo = 0
        · subst hv0
          by_cases hr0 : r = 0
          · subst hr0
            have hZ := HZ.out.2.2.1 (by simp) (by simp) (by simp)
            obtain ⟨rfl, rfl, rfl⟩ : za = ma ∧ zb = mb ∧ zj = mj := by simpa using hZ
            clear hZ
            obtain ⟨c0a, c0b⟩ := HS22.out.get (x21.heap.size) (v1) (v2) (by simp)
            obtain ⟨c1a, c1b⟩ := HS22.out.get (x22.heap.size) (t1) (t2) (by simp)
            go_wp2_with fail
            refine (cZ _).mono ?_
            rintro e x23 ⟨rfl, hk⟩
            have HS23 := Lib.hid ((HS22.out.nw hk).cons (za) (zb))
            have HN23 := Lib.hid ((HN22.out.tr hk).alloc (.cells #[.int .i64 (za), .int .i64 (zb)] 23))
            clear hk
            clear c0a c0b c1a c1b
            obtain ⟨c0a, c0b⟩ := HS23.out.get (x20.heap.size) (za) (zb) (by simp)
            obtain ⟨c1a, c1b⟩ := HS23.out.get (x23.heap.size) (za) (zb) (by simp)
            go_wp2_with fail
            refine (same_any _ _ _ _).mono ?_
            rintro e x24 ⟨rfl, hk⟩
            have HS24 := Lib.hid (HS23.out.nw hk)
            have HN24 := Lib.hid (HN23.out.tr hk)
            clear hk
            clear c0a c0b c1a c1b
            go_wp2_with fail
            go_meet
            exact HN24.out
          · have er : (r == 0) = false := by simp [hr0]
            clear hr0
            go_wp2_with fail
            go_meet
            exact HN22.out
        · have ev : (vo == 0) = false := by simp [hv0]
          clear hv0
          go_wp2_with fail
          go_meet
          exact HN22.out
    · have ee : (e == 0) = false := by simp [he]
      clear he
      go_wp2_with fail
      go_meet
      exact Kp.refl _ _
  case rest =>
    have HNR := Lib.hid (HN8.out.tr hcut)
    have HSR := Lib.hid (HS8.out.nw hcut)
    clear hcut
    by_cases hg : g = 0
    · subst hg
      by_cases hb0 : bn = 0
      · have eb : (bn != 0) = false := by simp [hb0]
        obtain ⟨c0a, c0b⟩ := HSR.out.get (w.heap.size + 1) (bn) (bd) (by simp)
        clear hb0
        go_wp2_with fail
        go_ret
        exact ⟨rfl, HNR.out⟩
      · have eb : (bn != 0) = true := by simp [hb0]
        obtain ⟨_, _, _, _, _, _, cT, _, cD, cF, cH⟩ := HC.out
        have hD := HZ.out.2.2.2.1 rfl hb0
        subst hD
        clear hb0
        obtain ⟨c0a, c0b⟩ := HSR.out.get (w.heap.size + 1) (bn) (bd) (by simp)
        obtain ⟨c1a, c1b⟩ := HSR.out.get (x7.heap.size) (p1) (p2) (by simp)
        go_wp2_with fail
        refine (cD _).mono ?_
        rintro e x25 ⟨rfl, hk⟩
        have HS25 := Lib.hid ((HSR.out.nw hk).cons (an) (ad))
        have HN25 := Lib.hid ((HNR.out.tr hk).alloc (.cells #[.int .i64 (an), .int .i64 (ad)] 23))
        clear hk
        clear c0a c0b c1a c1b
        obtain ⟨c0a, c0b⟩ := HS25.out.get (x25.heap.size) (an) (ad) (by simp)
        obtain ⟨c1a, c1b⟩ := HS25.out.get (w.heap.size) (an) (ad) (by simp)
        obtain ⟨c2a, c2b⟩ := HS25.out.get (x7.heap.size) (p1) (p2) (by simp)
        obtain ⟨c3a, c3b⟩ := HS25.out.get (w.heap.size + 1 + 1) (cn) (cd) (by simp)
        go_wp2_with fail
        refine (cF _).mono ?_
        rintro e x26 ⟨rfl, hk⟩
        have HS26 := Lib.hid ((HS25.out.nw hk).cons (fa) (fb))
        have HN26 := Lib.hid ((HN25.out.tr hk).alloc (.cells #[.int .i64 (fa), .int .i64 (fb)] 23))
        clear hk
        clear c0a c0b c1a c1b c2a c2b c3a c3b
        obtain ⟨c0a, c0b⟩ := HS26.out.get (w.heap.size + 1) (bn) (bd) (by simp)
        obtain ⟨c1a, c1b⟩ := HS26.out.get (w.heap.size + 1 + 1) (cn) (cd) (by simp)
        go_wp2_with fail
        refine (cT _).mono ?_
        rintro e x27 ⟨rfl, hk⟩
        have HS27 := Lib.hid ((HS26.out.nw hk).cons (t1) (t2))
        have HN27 := Lib.hid ((HN26.out.tr hk).alloc (.cells #[.int .i64 (t1), .int .i64 (t2)] 23))
        clear hk
        clear c0a c0b c1a c1b
        by_cases hr0 : r = 0
        · subst hr0
          have hH := HZ.out.2.2.2.2 (by simp) (by simp)
          obtain ⟨rfl, rfl, rfl⟩ : ha = fa ∧ hb = fb ∧ hj = fj := by simpa using hH
          clear hH
          obtain ⟨c0a, c0b⟩ := HS27.out.get (w.heap.size) (an) (ad) (by simp)
          obtain ⟨c1a, c1b⟩ := HS27.out.get (x27.heap.size) (t1) (t2) (by simp)
          go_wp2_with fail
          refine (cH _).mono ?_
          rintro e x28 ⟨rfl, hk⟩
          have HS28 := Lib.hid ((HS27.out.nw hk).cons (ha) (hb))
          have HN28 := Lib.hid ((HN27.out.tr hk).alloc (.cells #[.int .i64 (ha), .int .i64 (hb)] 23))
          clear hk
          clear c0a c0b c1a c1b
          obtain ⟨c0a, c0b⟩ := HS28.out.get (x26.heap.size) (ha) (hb) (by simp)
          obtain ⟨c1a, c1b⟩ := HS28.out.get (x28.heap.size) (ha) (hb) (by simp)
          go_wp2_with fail
          refine (same_any _ _ _ _).mono ?_
          rintro e x29 ⟨rfl, hk⟩
          have HS29 := Lib.hid (HS28.out.nw hk)
          have HN29 := Lib.hid (HN28.out.tr hk)
          clear hk
          clear c0a c0b c1a c1b
          go_wp2_with fail
          go_ret
          exact ⟨rfl, HN29.out⟩
        · have er : (r == 0) = false := by simp [hr0]
          clear hr0
          obtain ⟨c0a, c0b⟩ := HS27.out.get (w.heap.size) (an) (ad) (by simp)
          obtain ⟨c1a, c1b⟩ := HS27.out.get (x27.heap.size) (t1) (t2) (by simp)
          go_wp2_with fail
          refine (cH _).mono ?_
          rintro e x30 ⟨rfl, hk⟩
          have HS30 := Lib.hid ((HS27.out.nw hk).cons (ha) (hb))
          have HN30 := Lib.hid ((HN27.out.tr hk).alloc (.cells #[.int .i64 (ha), .int .i64 (hb)] 23))
          clear hk
          clear c0a c0b c1a c1b
          go_wp2_with fail
          go_ret
          exact ⟨rfl, HN30.out⟩
    · have eg : (g == 0) = false := by simp [hg]
      clear hg
      go_wp2_with fail
      go_ret
      exact ⟨rfl, HNR.out⟩
end Go.Proofs.Ytcgpaoindaabhaa.W
