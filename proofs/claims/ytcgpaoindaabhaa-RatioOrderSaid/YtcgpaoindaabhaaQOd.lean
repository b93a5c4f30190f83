/-
  RatioOrder at valid ratios: the call returns true. Condition: the parts are ints, the ratios valid.
-/
import Derived.Test.YtcgpaoindaabhaaQOl
import Derived.Deep.CutRange
import Derived.Deep.RegionHeld3
namespace Go.Proofs.Ytcgpaoindaabhaa.W
open Go.RowKit Go.Proofs.Ytcgpaoindaabhaa.Q
set_option maxRecDepth 100000 in
set_option maxHeartbeats 12800000 in
theorem order_valid (an ad bn bd cn cd : Int) (ha1 : I64 an) (ha2 : I64 ad) (hb1 : I64 bn) (hb2 : I64 bd) (hc1 : I64 cn) (hc2 : I64 cd) (ha : Vld an ad) (hb : Vld bn bd) (hc : Vld cn cd) (w : World) :
    Calls Try.prog 7 #[raV an ad, raV bn bd, raV cn cd] w fun e w' => e = .returned (.bool true) ∧ Nw w w' := by
  have haw := fun w1 => awake_any w1
  have hva := fun w1 => refValid_any an ad ha1 ha2 w1
  have hvb := fun w1 => refValid_any bn bd hb1 hb2 w1
  have hvc := fun w1 => refValid_any cn cd hc1 hc2 w1
  rw [decide_eq_true ha] at hva
  rw [decide_eq_true hb] at hvb
  rw [decide_eq_true hc] at hvc
  have cX := fun w1 => cmp_any an ad bn bd ha1 ha2 hb1 hb2 w1
  have cY := fun w1 => cmp_any bn bd cn cd hb1 hb2 hc1 hc2 w1
  have cZ := fun w1 => cmp_any an ad cn cd ha1 ha2 hc1 hc2 w1
  have cX' := fun w1 => cmp_any bn bd an ad hb1 hb2 ha1 ha2 w1
  have cD := fun w1 => sub_any an ad bn bd ha1 ha2 hb1 hb2 w1
  have cS := fun w1 => add_any an ad cn cd ha1 ha2 hc1 hc2 w1
  have cT := fun w1 => add_any bn bd cn cd hb1 hb2 hc1 hc2 w1
  have cP := fun w1 => mul_any an ad cn cd ha1 ha2 hc1 hc2 w1
  have cQ := fun w1 => mul_any bn bd cn cd hb1 hb2 hc1 hc2 w1
  have iD := both_i64 (· - ·) (val an ad) (val bn bd)
  have iS := addR_i64 an ad cn cd
  have iT := addR_i64 bn bd cn cd
  have iP := mulR_i64 an ad cn cd
  have iQ := mulR_i64 bn bd cn cd
  change I64 (subR an ad bn bd).1 ∧ I64 (subR an ad bn bd).2.1 at iD
  have cG := fun w1 => sign_any (subR an ad bn bd).1 (subR an ad bn bd).2.1 iD.1 iD.2 w1
  have cE := fun w1 => cmp_any (addR an ad cn cd).1 (addR an ad cn cd).2.1 (addR bn bd cn cd).1 (addR bn bd cn cd).2.1 iS.1 iS.2 iT.1 iT.2 w1
  have cF := fun w1 => cmp_any (mulR an ad cn cd).1 (mulR an ad cn cd).2.1 (mulR bn bd cn cd).1 (mulR bn bd cn cd).2.1 iP.1 iP.2 iQ.1 iQ.2 w1
  have cC := fun w1 => sign_any cn cd hc1 hc2 w1
  have z1 : cmpR bn bd an ad = -cmpR an ad bn bd := by rw [cmpR_cq ha hb, cmpR_cq hb ha]; exact cq_swap _ _
  have z2 := cmp_zero ha hb
  have z3 := cq_trans (Rat.divInt an ad) (Rat.divInt bn bd) (Rat.divInt cn cd)
  have t1 := cq_three (Rat.divInt an ad) (Rat.divInt bn bd)
  have t2 := cq_three (Rat.divInt bn bd) (Rat.divInt cn cd)
  have t3 := cq_three (Rat.divInt an ad) (Rat.divInt cn cd)
  have t4 := cq_three (Rat.divInt cn cd) 0
  rw [← cmpR_cq ha hb, ← cmpR_cq hb hc, ← cmpR_cq ha hc] at z3
  rw [← cmpR_cq ha hb] at t1
  rw [← cmpR_cq hb hc] at t2
  rw [← cmpR_cq ha hc] at t3
  rw [← signR_cq hc] at t4
  have z4 := order_sub ha hb
  have z5 := order_add ha hb hc
  have z6 := order_mul ha hb hc
  rw [z1] at cX'
  clear iD iS iT iP iQ ha hb hc z1 ha1 ha2 hb1 hb2 hc1 hc2
  generalize cmpR (addR an ad cn cd).1 (addR an ad cn cd).2.1 (addR bn bd cn cd).1 (addR bn bd cn cd).2.1 = vE at *
  generalize cmpR (mulR an ad cn cd).1 (mulR an ad cn cd).2.1 (mulR bn bd cn cd).1 (mulR bn bd cn cd).2.1 = vF at *
  generalize signR (subR an ad bn bd).1 (subR an ad bn bd).2.1 = vG at *
  generalize signR cn cd = vC at *
  generalize subR an ad bn bd = D at *
  generalize addR an ad cn cd = S at *
  generalize addR bn bd cn cd = T at *
  generalize mulR an ad cn cd = P at *
  generalize mulR bn bd cn cd = Q at *
  generalize cmpR an ad bn bd = x at *
  generalize cmpR bn bd cn cd = y at *
  generalize cmpR an ad cn cd = z at *
  obtain ⟨d1, d2, de⟩ := D
  obtain ⟨s1, s2, se⟩ := S
  obtain ⟨t1', t2', te⟩ := T
  obtain ⟨p1, p2, pe⟩ := P
  obtain ⟨q1, q2, qe⟩ := Q
  simp only [] at z4 z5 z6 cD cS cT cP cQ cG cE cF
  have HZ := Lib.hid (And.intro z2 (And.intro z3 (And.intro z4 (And.intro z5 z6))))
  have HT := Lib.hid (And.intro t1 (And.intro t2 (And.intro t3 t4)))
  have HC := Lib.hid (And.intro cX' (And.intro cD (And.intro cS (And.intro cT (And.intro cP (And.intro cQ (And.intro cG (And.intro cE (And.intro cF cC)))))))))
  clear z2 z3 z4 z5 z6 t1 t2 t3 t4 cX' cD cS cT cP cQ cG cE cF cC
  have HS0 := Lib.hid (st_three w an ad bn bd cn cd)
  have HN0 := Lib.hid (((nw_alloc w (.cells #[.int .i64 an, .int .i64 ad] 23)).alloc (.cells #[.int .i64 bn, .int .i64 bd] 23)).alloc (.cells #[.int .i64 cn, .int .i64 cd] 23))
  go_enter Try.func7, Try.ntmps7
  go_wp2_with fail
  refine (haw _).mono ?_
  rintro e x1 ⟨rfl, hk⟩
  have HS1 := Lib.hid (HS0.out.nw hk)
  have HN1 := Lib.hid (HN0.out.tr hk)
  clear hk
  obtain ⟨c0a, c0b⟩ := HS1.out.get (w.heap.size) (an) (ad) (by simp)
  go_wp2_with fail
  refine (hva _).mono ?_
  rintro e x2 ⟨rfl, hk⟩
  have HS2 := Lib.hid (HS1.out.nw hk)
  have HN2 := Lib.hid (HN1.out.tr hk)
  clear hk
  clear c0a c0b
  obtain ⟨c0a, c0b⟩ := HS2.out.get (w.heap.size + 1) (bn) (bd) (by simp)
  go_wp2_with fail
  refine (hvb _).mono ?_
  rintro e x3 ⟨rfl, hk⟩
  have HS3 := Lib.hid (HS2.out.nw hk)
  have HN3 := Lib.hid (HN2.out.tr hk)
  clear hk
  clear c0a c0b
  obtain ⟨c0a, c0b⟩ := HS3.out.get (w.heap.size + 1 + 1) (cn) (cd) (by simp)
  go_wp2_with fail
  refine (hvc _).mono ?_
  rintro e x4 ⟨rfl, hk⟩
  have HS4 := Lib.hid (HS3.out.nw hk)
  have HN4 := Lib.hid (HN3.out.tr hk)
  clear hk
  clear c0a c0b
  clear haw hva hvb hvc
  obtain ⟨c0a, c0b⟩ := HS4.out.get (w.heap.size) (an) (ad) (by simp)
  obtain ⟨c1a, c1b⟩ := HS4.out.get (w.heap.size + 1) (bn) (bd) (by simp)
  obtain ⟨c2a, c2b⟩ := HS4.out.get (w.heap.size + 1 + 1) (cn) (cd) (by simp)
  have hP : ∀ w' : World, Nw x4 w' → w'.cell? (⟨w.heap.size, 0, none⟩ : Addr) = some (.int .i64 an) ∧ w'.cell? (⟨w.heap.size, 1, none⟩ : Addr) = some (.int .i64 ad) ∧ w'.cell? (⟨w.heap.size + 1, 0, none⟩ : Addr) = some (.int .i64 bn) ∧ w'.cell? (⟨w.heap.size + 1, 1, none⟩ : Addr) = some (.int .i64 bd) ∧ w'.cell? (⟨w.heap.size + 1 + 1, 0, none⟩ : Addr) = some (.int .i64 cn) ∧ w'.cell? (⟨w.heap.size + 1 + 1, 1, none⟩ : Addr) = some (.int .i64 cd) := fun w' h => by
    have hs := HS4.out.nw h
    obtain ⟨a0, a1⟩ := hs.get (w.heap.size) an ad (by simp)
    obtain ⟨b0, b1⟩ := hs.get (w.heap.size + 1) bn bd (by simp)
    obtain ⟨c0, c1⟩ := hs.get (w.heap.size + 1 + 1) cn cd (by simp)
    exact ⟨a0, a1, b0, b1, c0, c1⟩
  have HP := Lib.hid hP
  clear hP
  go_wp2_with fail
  go_region_held3 (fun w' : World => w'.cell? (⟨w.heap.size, 0, none⟩ : Addr) = some (.int .i64 an) ∧ w'.cell? (⟨w.heap.size, 1, none⟩ : Addr) = some (.int .i64 ad) ∧ w'.cell? (⟨w.heap.size + 1, 0, none⟩ : Addr) = some (.int .i64 bn) ∧ w'.cell? (⟨w.heap.size + 1, 1, none⟩ : Addr) = some (.int .i64 bd) ∧ w'.cell? (⟨w.heap.size + 1 + 1, 0, none⟩ : Addr) = some (.int .i64 cn) ∧ w'.cell? (⟨w.heap.size + 1 + 1, 1, none⟩ : Addr) = some (.int .i64 cd))
    (first | exact HP.out _ (Kp.refl _ _) | exact HP.out _ (Kp.drew (Kp.refl _ _)) | exact HP.out _ hb | fail)
    (first
      | (go_at_call 25; ((with_reducible refine (cX _).mono ?_); rintro e wa ⟨rfl, hka⟩; have hb : Nw x4 wa := (Kp.drew (Kp.refl _ _)).tr hka))
      | (go_at_call 25; ((with_reducible refine (cY _).mono ?_); rintro e wb ⟨rfl, hkb⟩; have hb : Nw x4 wb := hb.tr hkb))
      | (go_at_call 25; ((with_reducible refine (cZ _).mono ?_); rintro e wd ⟨rfl, hkd⟩; have hb : Nw x4 wd := hb.tr hkd)))
  have HS5 := Lib.hid (HS4.out.nw hb)
  have HN5 := Lib.hid (HN4.out.tr hb)
  clear hb hka hkb hkd c0a c0b c1a c1b c2a c2b cX cY cZ
  go_upto_region 6 with fail
  go_cut [81] from 44 to 81 (fun b wc => b = .bool false ∧ Nw wd wc)
  case first =>
    obtain ⟨cX', _⟩ := HC.out
    obtain ⟨c0a, c0b⟩ := HS5.out.get (w.heap.size) an ad (by simp)
    obtain ⟨c1a, c1b⟩ := HS5.out.get (w.heap.size + 1) bn bd (by simp)
    have e0 : IntKind.i64.wrap (- -x) = x := by rw [IntKind.wrap_i64]; have := HT.out.1; omega
    go_wp2_with fail
    refine (cX' _).mono ?_
    rintro e w6 ⟨rfl, hk6⟩
    clear c0a c0b c1a c1b
    have hs6 := HS5.out.nw hk6
    obtain ⟨c0a, c0b⟩ := hs6.get (w.heap.size) an ad (by simp)
    obtain ⟨c1a, c1b⟩ := hs6.get (w.heap.size + 1) bn bd (by simp)
    have HK6 := Lib.hid hk6
    have z2 := HZ.out.1
    have z3 := HZ.out.2.1
    have t1 := HT.out.1
    have t2 := HT.out.2.1
    have t3 := HT.out.2.2.1
    clear hs6 hk6 cX'
    rcases t1 with rfl | rfl | rfl
    · have hne : ¬ (an = bn ∧ ad = bd) := fun h => by have := z2.2 h; omega
      clear z2
      by_cases h1 : an = bn
      · subst h1
        have h2 : ¬ ad = bd := fun h => hne ⟨rfl, h⟩
        have e1 : (ad == bd) = false := by simpa using h2
        clear hne
        rcases t2 with rfl | rfl | rfl <;> rcases t3 with rfl | rfl | rfl <;> first
          | (exfalso; omega)
          | (clear z3; go_wp2_with fail; go_meet; exact ⟨rfl, HK6.out⟩)
      · have e1 : (an == bn) = false := by simpa using h1
        clear hne
        rcases t2 with rfl | rfl | rfl <;> rcases t3 with rfl | rfl | rfl <;> first
          | (exfalso; omega)
          | (clear z3; go_wp2_with fail; go_meet; exact ⟨rfl, HK6.out⟩)
    · obtain ⟨rfl, rfl⟩ := z2.1 rfl
      clear z2
      rcases t2 with rfl | rfl | rfl <;> rcases t3 with rfl | rfl | rfl <;> first
        | (exfalso; omega)
        | (clear z3; go_wp2_with fail; go_meet; exact ⟨rfl, HK6.out⟩)
    · have hne : ¬ (an = bn ∧ ad = bd) := fun h => by have := z2.2 h; omega
      clear z2
      by_cases h1 : an = bn
      · subst h1
        have h2 : ¬ ad = bd := fun h => hne ⟨rfl, h⟩
        have e1 : (ad == bd) = false := by simpa using h2
        clear hne
        rcases t2 with rfl | rfl | rfl <;> rcases t3 with rfl | rfl | rfl <;> first
          | (exfalso; omega)
          | (clear z3; go_wp2_with fail; go_meet; exact ⟨rfl, HK6.out⟩)
      · have e1 : (an == bn) = false := by simpa using h1
        clear hne
        rcases t2 with rfl | rfl | rfl <;> rcases t3 with rfl | rfl | rfl <;> first
          | (exfalso; omega)
          | (clear z3; go_wp2_with fail; go_meet; exact ⟨rfl, HK6.out⟩)
  case rest =>
    obtain ⟨rfl, hkc⟩ := hcut
    have HSC := Lib.hid (HS5.out.nw hkc)
    have HNC := Lib.hid (HN5.out.tr hkc)
    clear hkc
    obtain ⟨_, cD, cS, cT, cP, cQ, cG, cE, cF, cC⟩ := HC.out
    obtain ⟨c0a, c0b⟩ := HSC.out.get (w.heap.size) (an) (ad) (by simp)
    obtain ⟨c1a, c1b⟩ := HSC.out.get (w.heap.size + 1) (bn) (bd) (by simp)
    go_wp2_with fail
    refine (cD _).mono ?_
    rintro e x5 ⟨rfl, hk⟩
    have HS5 := Lib.hid ((HSC.out.nw hk).cons (d1) (d2))
    have HN5 := Lib.hid ((HNC.out.tr hk).alloc (.cells #[.int .i64 (d1), .int .i64 (d2)] 23))
    clear hk
    clear c0a c0b c1a c1b
    go_upto_region 9 with fail
    go_cut [95] from 88 to 95 (fun b wc => b = .bool false ∧ Nw (x5.alloc (.cells #[.int .i64 d1, .int .i64 d2] 23)) wc)
    case first =>
      by_cases h : de = 0
      · subst h
        have hz := HZ.out.2.2.1 rfl
        subst hz
        have HNB := Lib.hid (Kp.refl (fun _ => False) (x5.alloc (.cells #[.int .i64 d1, .int .i64 d2] 23)))
        obtain ⟨c0a, c0b⟩ := HS5.out.get (x5.heap.size) (d1) (d2) (by simp)
        go_wp2_with fail
        refine (cG _).mono ?_
        rintro e x6 ⟨rfl, hk⟩
        have HS6 := Lib.hid (HS5.out.nw hk)
        have HN6 := Lib.hid (HNB.out.tr hk)
        clear hk
        clear c0a c0b
        go_wp2_with fail
        go_meet
        exact ⟨rfl, HN6.out⟩
      · have e1 : (de == 0) = false := by simp [h]
        clear h
        go_wp2_with fail
        go_meet
        exact ⟨rfl, Kp.refl _ _⟩
    case rest =>
      obtain ⟨rfl, hkc⟩ := hcut
      have HSD := Lib.hid (HS5.out.nw hkc)
      have HND := Lib.hid (HN5.out.tr hkc)
      clear hkc
      obtain ⟨c0a, c0b⟩ := HSD.out.get (w.heap.size) (an) (ad) (by simp)
      obtain ⟨c1a, c1b⟩ := HSD.out.get (w.heap.size + 1 + 1) (cn) (cd) (by simp)
      go_wp2_with fail
      refine (cS _).mono ?_
      rintro e x7 ⟨rfl, hk⟩
      have HS7 := Lib.hid ((HSD.out.nw hk).cons (s1) (s2))
      have HN7 := Lib.hid ((HND.out.tr hk).alloc (.cells #[.int .i64 (s1), .int .i64 (s2)] 23))
      clear hk
      clear c0a c0b c1a c1b
      obtain ⟨c0a, c0b⟩ := HS7.out.get (w.heap.size + 1) (bn) (bd) (by simp)
      obtain ⟨c1a, c1b⟩ := HS7.out.get (w.heap.size + 1 + 1) (cn) (cd) (by simp)
      go_wp2_with fail
      refine (cT _).mono ?_
      rintro e x8 ⟨rfl, hk⟩
      have HS8 := Lib.hid ((HS7.out.nw hk).cons (t1') (t2'))
      have HN8 := Lib.hid ((HN7.out.tr hk).alloc (.cells #[.int .i64 (t1'), .int .i64 (t2')] 23))
      clear hk
      clear c0a c0b c1a c1b
      go_upto_region 13 with fail
      go_cut [120] from 108 to 120 (fun b wc => b = .bool false ∧ Nw (x8.alloc (.cells #[.int .i64 t1', .int .i64 t2'] 23)) wc)
      case first =>
        have HNB := Lib.hid (Kp.refl (fun _ => False) (x8.alloc (.cells #[.int .i64 t1', .int .i64 t2'] 23)))
        by_cases h : se = 0
        · subst h
          by_cases h2 : te = 0
          · subst h2
            have hz := HZ.out.2.2.2.1 rfl rfl
            subst hz
            obtain ⟨c0a, c0b⟩ := HS8.out.get (x7.heap.size) (s1) (s2) (by simp)
            obtain ⟨c1a, c1b⟩ := HS8.out.get (x8.heap.size) (t1') (t2') (by simp)
            go_wp2_with fail
            refine (cE _).mono ?_
            rintro e x9 ⟨rfl, hk⟩
            have HS9 := Lib.hid (HS8.out.nw hk)
            have HN9 := Lib.hid (HNB.out.tr hk)
            clear hk
            clear c0a c0b c1a c1b
            go_wp2_with fail
            go_meet
            exact ⟨rfl, HN9.out⟩
          · have e1 : (te == 0) = false := by simp [h2]
            clear h2
            go_wp2_with fail
            go_meet
            exact ⟨rfl, Kp.refl _ _⟩
        · have e1 : (se == 0) = false := by simp [h]
          clear h
          go_wp2_with fail
          go_meet
          exact ⟨rfl, Kp.refl _ _⟩
      case rest =>
        obtain ⟨rfl, hkc⟩ := hcut
        have HSE := Lib.hid (HS8.out.nw hkc)
        have HNE := Lib.hid (HN8.out.tr hkc)
        clear hkc
        obtain ⟨c0a, c0b⟩ := HSE.out.get (w.heap.size) (an) (ad) (by simp)
        obtain ⟨c1a, c1b⟩ := HSE.out.get (w.heap.size + 1 + 1) (cn) (cd) (by simp)
        go_wp2_with fail
        refine (cP _).mono ?_
        rintro e x10 ⟨rfl, hk⟩
        have HS10 := Lib.hid ((HSE.out.nw hk).cons (p1) (p2))
        have HN10 := Lib.hid ((HNE.out.tr hk).alloc (.cells #[.int .i64 (p1), .int .i64 (p2)] 23))
        clear hk
        clear c0a c0b c1a c1b
        obtain ⟨c0a, c0b⟩ := HS10.out.get (w.heap.size + 1) (bn) (bd) (by simp)
        obtain ⟨c1a, c1b⟩ := HS10.out.get (w.heap.size + 1 + 1) (cn) (cd) (by simp)
        go_wp2_with fail
        refine (cQ _).mono ?_
        rintro e x11 ⟨rfl, hk⟩
        have HS11 := Lib.hid ((HS10.out.nw hk).cons (q1) (q2))
        have HN11 := Lib.hid ((HN10.out.tr hk).alloc (.cells #[.int .i64 (q1), .int .i64 (q2)] 23))
        clear hk
        clear c0a c0b c1a c1b
        obtain ⟨wq, hwq⟩ : ∃ wq, (x11.alloc (.cells #[.int .i64 q1, .int .i64 q2] 23)) = wq := ⟨_, rfl⟩
        rw [hwq] at HS11 HN11
        have HWQ := Lib.hid hwq
        clear hwq
        go_upto_region 17 with fail
        rw [HWQ.out]
        clear HWQ
        by_cases h : pe = 0
        · subst h
          by_cases h2 : qe = 0
          · subst h2
            have hz := HZ.out.2.2.2.2 rfl rfl
            have hm : IntKind.i64.wrap (x * vC) = x * vC := by
              have h1 := HT.out.1
              have h2 := HT.out.2.2.2
              rw [IntKind.wrap_i64]
              rcases h1 with rfl | rfl | rfl <;> rcases h2 with rfl | rfl | rfl <;> omega
            subst hz
            obtain ⟨vm, hvm⟩ : ∃ v, x * vC = v := ⟨_, rfl⟩
            rw [hvm] at hm cF
            have hm2 : IntKind.i64.wrap (x * vC) = vm := by rw [hvm]; exact hm
            clear hm hvm
            have hP : ∀ w' : World, Nw wq w' → w'.cell? (⟨x10.heap.size, 0, none⟩ : Addr) = some (.int .i64 p1) ∧ w'.cell? (⟨x10.heap.size, 1, none⟩ : Addr) = some (.int .i64 p2) ∧ w'.cell? (⟨x11.heap.size, 0, none⟩ : Addr) = some (.int .i64 q1) ∧ w'.cell? (⟨x11.heap.size, 1, none⟩ : Addr) = some (.int .i64 q2) ∧ w'.cell? (⟨w.heap.size + 1 + 1, 0, none⟩ : Addr) = some (.int .i64 cn) ∧ w'.cell? (⟨w.heap.size + 1 + 1, 1, none⟩ : Addr) = some (.int .i64 cd) := fun w' h => by
              have hs := HS11.out.nw h
              obtain ⟨a0, a1⟩ := hs.get (x10.heap.size) p1 p2 (by simp)
              obtain ⟨b0, b1⟩ := hs.get (x11.heap.size) q1 q2 (by simp)
              obtain ⟨c0, c1⟩ := hs.get (w.heap.size + 1 + 1) cn cd (by simp)
              exact ⟨a0, a1, b0, b1, c0, c1⟩
            have HP2 := Lib.hid hP
            clear hP
            obtain ⟨c0a, c0b, c1a, c1b, c2a, c2b⟩ := HP2.out _ (Kp.refl _ _)
            go_region_held3 (fun w' : World => w'.cell? (⟨x10.heap.size, 0, none⟩ : Addr) = some (.int .i64 p1) ∧ w'.cell? (⟨x10.heap.size, 1, none⟩ : Addr) = some (.int .i64 p2) ∧ w'.cell? (⟨x11.heap.size, 0, none⟩ : Addr) = some (.int .i64 q1) ∧ w'.cell? (⟨x11.heap.size, 1, none⟩ : Addr) = some (.int .i64 q2) ∧ w'.cell? (⟨w.heap.size + 1 + 1, 0, none⟩ : Addr) = some (.int .i64 cn) ∧ w'.cell? (⟨w.heap.size + 1 + 1, 1, none⟩ : Addr) = some (.int .i64 cd))
              (first | exact HP2.out _ (Kp.refl _ _) | exact HP2.out _ (Kp.drew (Kp.refl _ _)) | exact HP2.out _ hb | fail)
              (first
                | (go_at_call 25; ((with_reducible refine (cF _).mono ?_); rintro e wa ⟨rfl, hka⟩; have hb : Nw wq wa := (Kp.drew (Kp.refl _ _)).tr hka))
                | (go_at_call 27; ((with_reducible refine (cC _).mono ?_); rintro e wb ⟨rfl, hkb⟩; have hb : Nw wq wb := hb.tr hkb)))
            go_wp2
            go_ret
            exact ⟨rfl, HN11.out.tr hb⟩
          · have e1 : (qe != 0) = true := by simp [h2]
            clear h2
            go_quiet (fail)
            go_wp2
            go_ret
            exact ⟨rfl, HN11.out.tr (nw_drewN _ _)⟩
        · have e1 : (pe != 0) = true := by simp [h]
          clear h
          go_quiet (fail)
          go_wp2
          go_ret
          exact ⟨rfl, HN11.out.tr (nw_drewN _ _)⟩
end Go.Proofs.Ytcgpaoindaabhaa.W
