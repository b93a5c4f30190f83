/-
  ring: the reference's WherePoint and Where: they return what the program's do. Condition: the list is not longer than 2^40.
-/
import Derived.Test.YtahamffngmdjfaaK15
import Derived.Test.YtahamffngmdjfaaK20
import Derived.Test.YtahamffngmdjfaaK25
namespace Go.Proofs.Ytahamffngmdjfaa.W
open Go.RowKit Go.Proofs.Ytahamffngmdjfaa.V Go.Proofs.Ytahamffngmdjfaa.G


theorem rel2_drew {x1 y1 x2 y2 : Int} {w0 w : World} {p q : Value} (h : Rel2 x1 y1 x2 y2 w0 p q w) : Rel2 x1 y1 x2 y2 w0 p q w.drew := by
  obtain ⟨a, b, h1, h2, h3, h4, h5⟩ := h
  exact ⟨a, b, h1, h2, h3.drew, h4.drew, h5.drew⟩
theorem count_step (L : List Ed) (k q : Nat) (e : Ed) (x y d : Int) (h : L.take (k + 1) = L.take k ++ [e]) (hq : q = countP (L.take k) x y d % 2) : (if crossesP e x y d then 1 - q else q) = countP (L.take (k + 1)) x y d % 2 := by
  have := countP_snoc (L.take k) e x y d
  rw [h]
  cases hc : crossesP e x y d <;> rw [hc] at this <;> simp at this ⊢ <;> omega

set_option maxRecDepth 100000 in
set_option maxHeartbeats 12800000 in
theorem rwherePoint_any (l : List (Int × Int)) (v : Value) (x y d : Int) (w : World) (hv : SrcV w v l) (hl : l.length ≤ 1099511627776) : Calls Try.prog 79 #[v, pV x y d] w fun e w' => e = .returned (.int .i64 (whereR l x y d)) ∧ Nw w w' := by
  have hmix := mixed7
  have cv := fun w1 (h : Nw w w1) => rvalid8_any l v w1 (hv.nw h) hl
  have cp := fun w1 => rvalidPoint_any x y d w1
  have ce := fun w1 (h : Nw w w1) => redges_any l v w1 (hv.nw h) hl
  obtain ⟨w0, hw0⟩ : ∃ w0, w.alloc (.cells #[.int .i64 x, .int .i64 y, .int .i64 d] 50) = w0 := ⟨_, rfl⟩
  have HW0 := Lib.hid (show Nw w w0 by rw [← hw0]; exact nw_alloc _ _)
  have HP0 := Lib.hid (show Blk w0 w.heap.size 50 #[.int .i64 x, .int .i64 y, .int .i64 d] by rw [← hw0]; exact Blk.new _ _ _)
  obtain ⟨PP, hPP⟩ : ∃ E, w.heap.size = E := ⟨_, rfl⟩
  rw [hPP] at HP0
  obtain ⟨b1, hb1⟩ : ∃ b, validR l = b := ⟨_, rfl⟩
  obtain ⟨b2, hb2⟩ : ∃ b, validP x y d = b := ⟨_, rfl⟩
  rw [hb1] at cv
  rw [hb2] at cp
  cases b1 with
  | false =>
    rw [show whereR l x y d = 0 by unfold whereR; rw [hb1]; rfl]
    clear hv hb1 hb2 ce cp
    go_enter Try.func79, Try.ntmps79
    go_wp2_with fail
    with_reducible refine (cv _ HW0.out).mono ?_
    rintro e w1 ⟨rfl, k1⟩
    go_wp2_with fail
    go_ret
    exact ⟨rfl, HW0.out.tr k1⟩
  | true =>
    cases b2 with
    | false =>
      rw [show whereR l x y d = 0 by unfold whereR; rw [hb1, hb2]; rfl]
      clear hv hb1 hb2 ce
      go_enter Try.func79, Try.ntmps79
      go_wp2_with fail
      with_reducible refine (cv _ HW0.out).mono ?_
      rintro e w1 ⟨rfl, k1⟩
      obtain ⟨y0, y1, y2, -⟩ := (HP0.out.kp k1 id).three
      go_wp2_with fail
      with_reducible refine (cp _).mono ?_
      rintro e w2 ⟨rfl, k2⟩
      go_wp2_with fail
      go_ret
      exact ⟨rfl, (HW0.out.tr k1).tr k2⟩
    | true =>
      have hR : whereR l x y d = if anyOn (edgesP l) x y d then 1 else if countP (edgesP l) x y d % 2 = 1 then 2 else 0 := by unfold whereR; rw [hb1, hb2]; rfl
      obtain ⟨r, hr⟩ : ∃ r, whereR l x y d = r := ⟨_, rfl⟩
      rw [hr]
      rw [hr] at hR
      have HR := Lib.hid hR
      obtain ⟨g3, g40⟩ := valid_len hb1
      have HOK := Lib.hid (valid_w hb1)
      have HPT := Lib.hid (pt_ok hb2)
      have hel : (edgesP l).length = l.length := by rw [edges_len, if_neg (by omega)]
      have HEA := Lib.hid (show ∀ k, k < l.length → (edgesP l)[k]? = some (edgeP l k) from fun k hk => edges_at (by omega) hk)
      clear hv hb1 hb2 hR hr
      go_enter Try.func79, Try.ntmps79
      go_wp2_with fail
      with_reducible refine (cv _ HW0.out).mono ?_
      rintro e w1 ⟨rfl, k1⟩
      obtain ⟨y0, y1, y2, -⟩ := (HP0.out.kp k1 id).three
      go_wp2_with fail
      with_reducible refine (cp _).mono ?_
      rintro e w2 ⟨rfl, k2⟩
      have hw2 := (HW0.out.tr k1).tr k2
      have hp2 := (HP0.out.kp k1 id).kp k2 id
      clear cv cp y0 y1 y2
      go_wp2_with fail
      with_reducible refine (ce _ hw2).mono ?_
      rintro e w4 ⟨v4, rfl, hs4, k4⟩
      have HW4 := Lib.hid (hw2.tr k4)
      have HP4 := Lib.hid (hp2.kp k4 id)
      clear k1 k2 k4 hw2 hp2 hw0 hPP HP0 HW0
      obtain ⟨A4, c4, rfl⟩ := hs4.shape
      obtain ⟨n, hn⟩ : ∃ n, l.length = n := ⟨_, rfl⟩
      rw [hn] at hel hl g3 g40 HEA
      obtain ⟨g, o, rfl, hg, hcE⟩ := srcE_at hs4 (by rw [hel]; omega)
      rw [hel]
      have hmx : c4 ≤ 9223372036854775807 ∧ n ≤ c4 := by
        obtain ⟨_, A', c', e, h1, h2, _⟩ := hs4
        injection e with _ _ e3
        subst e3
        unfold maxLen at h2
        rw [hel] at h1
        omega
      have HCE := Lib.hid hcE
      have HN := Lib.hid hn
      obtain ⟨L, hL⟩ : ∃ L, edgesP l = L := ⟨_, rfl⟩
      rw [hL] at HCE HEA HR hel
      have HEL := Lib.hid hel
      clear hs4 hcE hn ce hL hel hg
      go_wp2_with fail
      go_loopw [6, 7] (fun s i wr => ∃ (k : Nat) (q : Nat), i = .int .i64 k ∧ k ≤ n ∧ q = countP (L.take k) x y d % 2 ∧ s = .bool (q == 1) ∧ anyOn (L.take k) x y d = false ∧ Nw w4 wr) (fun s i _ => n - (intOf i).toNat)
      case atStart => exact ⟨0, _, rfl, Nat.zero_le _, rfl, rfl, rfl, (by repeat (first | exact Kp.refl _ _ | refine Kp.alloc ?_ _ | refine Kp.drew ?_))⟩
      case round =>
        obtain ⟨k, q, rfl, hk, hq, rfl, hno, hnw⟩ := hrel
        have HNO := Lib.hid hno
        have HQ := Lib.hid hq
        clear hno hq
        have HK := Lib.hid hnw
        clear hnw
        by_cases hkn : k < n
        · have i0 : (0 : Int) ≤ (k : Int) := by omega
          have i1 : (k : Int) < (n : Int) := by omega
          obtain ⟨s4, hs4⟩ : ∃ s : Nat, k + 1 = s := ⟨_, rfl⟩
          have a4 : IntKind.i64.wrap ((k : Int) + 1) = (s4 : Int) := by rw [IntKind.wrap_i64]; omega
          have H4 := Lib.hid hs4
          obtain ⟨⟨⟨ax, ay⟩, ⟨bx, bz⟩⟩, he⟩ : ∃ e, edgeP l k = e := ⟨_, rfl⟩
          have hLk := HEA.out k hkn
          rw [he] at hLk
          have hok := edge_ok HOK.out (i := k) (by rw [HN.out]; exact hkn)
          rw [he] at hok
          have htk : L.take (k + 1) = L.take k ++ [((ax, ay), (bx, bz))] := by rw [List.take_add_one, hLk]; rfl
          have HTK := Lib.hid htk
          have HCK := Lib.hid (show ∀ w', Nw wr w' → (w'.cell? (⟨g, o + k * 4, none⟩ : Addr) = some (.int .i64 ax) ∧ w'.cell? (⟨g, o + k * 4 + 1, none⟩ : Addr) = some (.int .i64 ay) ∧ w'.cell? (⟨g, o + k * 4 + 2, none⟩ : Addr) = some (.int .i64 bx) ∧ w'.cell? (⟨g, o + k * 4 + 3, none⟩ : Addr) = some (.int .i64 bz)) from fun w' h => HCE.out w' (HK.out.tr h) k _ hLk)
          have HPK := Lib.hid (show ∀ w', Nw wr w' → Blk w' PP 50 #[.int .i64 x, .int .i64 y, .int .i64 d] from fun w' h => HP4.out.kp (HK.out.tr h) id)
          have r0 := fun p : KeptW wr => (HCK.out p.wd p.since).1
          have r1 := fun p : KeptW wr => (HCK.out p.wd p.since).2.1
          have r2 := fun p : KeptW wr => (HCK.out p.wd p.since).2.2.1
          have r3 := fun p : KeptW wr => (HCK.out p.wd p.since).2.2.2
          have r4 := fun p : KeptW wr => (HPK.out p.wd p.since).cell 0
          have r5 := fun p : KeptW wr => (HPK.out p.wd p.since).cell 1
          have r6 := fun p : KeptW wr => (HPK.out p.wd p.since).cell 2
          have con := fun w1 => ron8_any ax ay bx bz x y d hok.1 hok.2 HPT.out w1
          have csd := fun w1 => rside8_any ax ay bx bz x y d hok.1 hok.2 HPT.out w1
          have ha1 := (scaled hok.1 HPT.out).2.2.2.2
          have hb1 := (scaled hok.2 HPT.out).2.2.2.2
          simp only at ha1 hb1
          have e1 : IntKind.i64.wrap (ay * d) = ay * d := by rw [wrapI]; exact ha1
          have e2 : IntKind.i64.wrap (bz * d) = bz * d := by rw [wrapI]; exact hb1
          have hcr : crossesP ((ax, ay), (bx, bz)) x y d = ((decide (ay * d ≤ y) && decide (y < bz * d) && decide (0 < sgn (sideP ((ax, ay), (bx, bz)) x y d))) || (decide (bz * d ≤ y) && decide (y < ay * d) && decide (sgn (sideP ((ax, ay), (bx, bz)) x y d) < 0))) := by
            unfold crossesP upP downP
            have h1 : (0 < sgn (sideP ((ax, ay), (bx, bz)) x y d)) ↔ 0 < sideP ((ax, ay), (bx, bz)) x y d := by
              rcases sgn_cases (sideP ((ax, ay), (bx, bz)) x y d) with ⟨a, b⟩ | ⟨a, b⟩ | ⟨a, b⟩ <;> rw [b] <;> omega
            have h2 : (sgn (sideP ((ax, ay), (bx, bz)) x y d) < 0) ↔ sideP ((ax, ay), (bx, bz)) x y d < 0 := by
              rcases sgn_cases (sideP ((ax, ay), (bx, bz)) x y d) with ⟨a, b⟩ | ⟨a, b⟩ | ⟨a, b⟩ <;> rw [b] <;> omega
            simp only [h1, h2]
          obtain ⟨s, hs⟩ : ∃ s, sgn (sideP ((ax, ay), (bx, bz)) x y d) = s := ⟨_, rfl⟩
          rw [hs] at csd hcr
          obtain ⟨M1, m1⟩ : ∃ m, ay * d = m := ⟨_, rfl⟩
          obtain ⟨M2, m2⟩ : ∃ m, bz * d = m := ⟨_, rfl⟩
          replace e1 := e1.trans m1
          replace e2 := e2.trans m2
          rw [m1, m2] at hcr
          obtain ⟨ob, hob⟩ : ∃ b, onP ((ax, ay), (bx, bz)) x y d = b := ⟨_, rfl⟩
          rw [hob] at con
          have HOB := Lib.hid (show anyOn (L.take (k + 1)) x y d = ob by rw [htk, anyOn_snoc, HNO.out, hob]; rfl)
          have HLK := Lib.hid hLk
          have HHOB := Lib.hid hob
          clear hs4 he hLk hok htk ha1 hb1 hs m1 m2 hob
          go_wp2_with fail
          cases ob
          · skip
            refine wp_region_kept (Kp.refl _ _) (by assumption) (by kernel_rfl) ?_
            repeat (with_reducible refine wpQuiet_step (fun K hK => ?_); go_simp; first | ((with_reducible refine hK _ ?_); clear hK K) | (with_reducible apply Exists.intro; (with_reducible refine ⟨fun _ => ?_, hK _ ?_⟩); ((first | (go_at_call 117; with_reducible exact Calls.kept_of (con _)) | fail)); clear hK K) | (simp only [undef, reduceCtorEq, if_false]; (with_reducible refine hK _ ?_); clear hK K))
            with_reducible refine wpQuiet_nil ?_
            rintro _ ⟨p, rfl⟩
            have HX := Lib.hid p.since
            generalize p.wd = w5 at HX ⊢
            clear r0 r1 r2 r3 r4 r5 r6 con
            have HP := Lib.hid (show ∀ w', Nw w5 w' → (w'.cell? (⟨g, o + k * 4, none⟩ : Addr) = some (.int .i64 ax) ∧ w'.cell? (⟨g, o + k * 4 + 1, none⟩ : Addr) = some (.int .i64 ay) ∧ w'.cell? (⟨g, o + k * 4 + 2, none⟩ : Addr) = some (.int .i64 bx) ∧ w'.cell? (⟨g, o + k * 4 + 3, none⟩ : Addr) = some (.int .i64 bz)) from fun w' h => HCK.out w' (HX.out.tr h))
            go_upto_region 10 with fail
            go_cut [8, 9] from 34 to 43 (fun p8 p9 wx => Rel2 (ax) (ay) (bx) (bz) w5 p8 p9 wx)
            case first =>
              go_wp2_with fail
              go_region_held3 (fun w' : World => w'.cell? (⟨g, o + k * 4, none⟩ : Addr) = some (.int .i64 ax) ∧ w'.cell? (⟨g, o + k * 4 + 1, none⟩ : Addr) = some (.int .i64 ay) ∧ w'.cell? (⟨g, o + k * 4 + 2, none⟩ : Addr) = some (.int .i64 bx) ∧ w'.cell? (⟨g, o + k * 4 + 3, none⟩ : Addr) = some (.int .i64 bz))
                (first | ((refine HP.out _ ?_); (repeat (first | exact Kp.refl _ _ | refine Kp.alloc ?_ _ | refine Kp.drew ?_ | refine Kp.new ?_ (by omega) _ _))) | fail)
                (first | fail)
              all_goals (go_wp2_with fail; go_meet; case rel => (first | with_reducible exact rel2_drew (two1 (Kp.refl _ _)) | with_reducible exact rel2_drew (two2 (Kp.refl _ _))))
            case rest =>
              obtain ⟨w6, hw6⟩ : ∃ w6, w6 = wc := ⟨_, rfl⟩
              subst hw6
              obtain ⟨G8, G9, rfl, rfl, b8, b9, hk⟩ := hcut
              have HC6 := Lib.hid (And.intro b8 (And.intro b9 hk))
              clear b8 b9 hk HP
              have t0 := fun p : KeptW w6 => (HC6.out.1.kept p).cell 0
              have t1 := fun p : KeptW w6 => (HC6.out.1.kept p).cell 1
              have t2 := fun p : KeptW w6 => (HC6.out.2.1.kept p).cell 0
              have t3 := fun p : KeptW w6 => (HC6.out.2.1.kept p).cell 1
              have t4 := fun p : KeptW w6 => (HPK.out p.wd (HX.out.tr (HC6.out.2.2.tr p.since))).cell 0
              have t5 := fun p : KeptW w6 => (HPK.out p.wd (HX.out.tr (HC6.out.2.2.tr p.since))).cell 1
              have t6 := fun p : KeptW w6 => (HPK.out p.wd (HX.out.tr (HC6.out.2.2.tr p.since))).cell 2
              have HCS := Lib.hid (count_step L k q _ x y d HTK.out HQ.out)
              obtain ⟨lp1, h1⟩ : ∃ b, decide (M1 ≤ y) = b := ⟨_, rfl⟩
              obtain ⟨lp3, h3⟩ : ∃ b, decide (M2 ≤ y) = b := ⟨_, rfl⟩
              have h4 : decide (y < M1) = !lp1 := by
                rw [← h1]
                by_cases h : M1 ≤ y
                · rw [decide_eq_true h, decide_eq_false (by omega)]; rfl
                · rw [decide_eq_false h, decide_eq_true (by omega)]; rfl
              have h2 : decide (y < M2) = !lp3 := by
                rw [← h3]
                by_cases h : M2 ≤ y
                · rw [decide_eq_true h, decide_eq_false (by omega)]; rfl
                · rw [decide_eq_false h, decide_eq_true (by omega)]; rfl
              obtain ⟨g1, hg1⟩ : ∃ b, decide (0 < s) = b := ⟨_, rfl⟩
              obtain ⟨g2, hg2⟩ : ∃ b, decide (s < 0) = b := ⟨_, rfl⟩
              rw [h1, h2, h3, h4, hg1, hg2] at hcr
              have HCR := Lib.hid hcr
              clear hcr
              go_wp2_with fail
              cases lp1 <;> cases lp3
              · refine wp_region_kept (Kp.refl _ _) (by assumption) (by kernel_rfl) ?_
                repeat (with_reducible refine wpQuiet_step (fun K hK => ?_); go_simp; first | ((with_reducible refine hK _ ?_); clear hK K) | (with_reducible apply Exists.intro; (with_reducible refine ⟨fun _ => ?_, hK _ ?_⟩); (fail); clear hK K) | (simp only [undef, reduceCtorEq, if_false]; (with_reducible refine hK _ ?_); clear hK K))
                with_reducible refine wpQuiet_nil ?_
                rintro _ ⟨p, rfl⟩
                have HN6 := Lib.hid ((HK.out.tr HX.out).tr (HC6.out.2.2.tr p.since))
                have H86 := Lib.hid (HC6.out.1.kept p)
                have H96 := Lib.hid (HC6.out.2.1.kept p)
                have HP6 := Lib.hid (HPK.out _ (HX.out.tr (HC6.out.2.2.tr p.since)))
                generalize p.wd = w7 at HN6 H86 H96 HP6 ⊢
                have HN7 := Lib.hid HN6.out
                go_wp2_with fail
                go_roundw
                case rel => exact ⟨k + 1, q, by rw [← H4.out], by omega, by rw [← HCS.out, HCR.out]; rfl, by first | rfl | (have := HQ.out; rcases (show q = 0 ∨ q = 1 by omega) with h | h <;> rw [h] <;> rfl), HOB.out, HN7.out⟩
                case measure => (have := H4.out; simp [intOf]; try omega)
              · refine wp_region_kept (Kp.refl _ _) (by assumption) (by kernel_rfl) ?_
                repeat (with_reducible refine wpQuiet_step (fun K hK => ?_); go_simp; first | ((with_reducible refine hK _ ?_); clear hK K) | (with_reducible apply Exists.intro; (with_reducible refine ⟨fun _ => ?_, hK _ ?_⟩); (fail); clear hK K) | (simp only [undef, reduceCtorEq, if_false]; (with_reducible refine hK _ ?_); clear hK K))
                with_reducible refine wpQuiet_nil ?_
                rintro _ ⟨p, rfl⟩
                have HN6 := Lib.hid ((HK.out.tr HX.out).tr (HC6.out.2.2.tr p.since))
                have H86 := Lib.hid (HC6.out.1.kept p)
                have H96 := Lib.hid (HC6.out.2.1.kept p)
                have HP6 := Lib.hid (HPK.out _ (HX.out.tr (HC6.out.2.2.tr p.since)))
                generalize p.wd = w7 at HN6 H86 H96 HP6 ⊢
                obtain ⟨z0, z1, -, -⟩ := H86.out.two
                obtain ⟨z2, z3, -, -⟩ := H96.out.two
                obtain ⟨z4, z5, z6, -⟩ := HP6.out.three
                go_wp2_with fail
                with_reducible refine (csd _).mono ?_
                rintro e w8 ⟨rfl, k8⟩
                have HN7 := Lib.hid (HN6.out.tr k8)
                cases g2
                · go_wp2_with fail
                  go_roundw
                  case rel => exact ⟨k + 1, q, by rw [← H4.out], by omega, by rw [← HCS.out, HCR.out]; rfl, by first | rfl | (have := HQ.out; rcases (show q = 0 ∨ q = 1 by omega) with h | h <;> rw [h] <;> rfl), HOB.out, HN7.out⟩
                  case measure => (have := H4.out; simp [intOf]; try omega)
                · go_wp2_with fail
                  go_roundw
                  case rel => exact ⟨k + 1, 1 - q, by rw [← H4.out], by omega, by rw [← HCS.out, HCR.out]; rfl, by first | rfl | (have := HQ.out; rcases (show q = 0 ∨ q = 1 by omega) with h | h <;> rw [h] <;> rfl), HOB.out, HN7.out⟩
                  case measure => (have := H4.out; simp [intOf]; try omega)
              · refine wp_region_kept (Kp.refl _ _) (by assumption) (by kernel_rfl) ?_
                repeat (with_reducible refine wpQuiet_step (fun K hK => ?_); go_simp; first | ((with_reducible refine hK _ ?_); clear hK K) | (with_reducible apply Exists.intro; (with_reducible refine ⟨fun _ => ?_, hK _ ?_⟩); (fail); clear hK K) | (simp only [undef, reduceCtorEq, if_false]; (with_reducible refine hK _ ?_); clear hK K))
                with_reducible refine wpQuiet_nil ?_
                rintro _ ⟨p, rfl⟩
                have HN6 := Lib.hid ((HK.out.tr HX.out).tr (HC6.out.2.2.tr p.since))
                have H86 := Lib.hid (HC6.out.1.kept p)
                have H96 := Lib.hid (HC6.out.2.1.kept p)
                have HP6 := Lib.hid (HPK.out _ (HX.out.tr (HC6.out.2.2.tr p.since)))
                generalize p.wd = w7 at HN6 H86 H96 HP6 ⊢
                obtain ⟨z0, z1, -, -⟩ := H86.out.two
                obtain ⟨z2, z3, -, -⟩ := H96.out.two
                obtain ⟨z4, z5, z6, -⟩ := HP6.out.three
                go_wp2_with fail
                with_reducible refine (csd _).mono ?_
                rintro e w8 ⟨rfl, k8⟩
                have HN7 := Lib.hid (HN6.out.tr k8)
                cases g1
                · go_wp2_with fail
                  go_roundw
                  case rel => exact ⟨k + 1, q, by rw [← H4.out], by omega, by rw [← HCS.out, HCR.out]; rfl, by first | rfl | (have := HQ.out; rcases (show q = 0 ∨ q = 1 by omega) with h | h <;> rw [h] <;> rfl), HOB.out, HN7.out⟩
                  case measure => (have := H4.out; simp [intOf]; try omega)
                · go_wp2_with fail
                  go_roundw
                  case rel => exact ⟨k + 1, 1 - q, by rw [← H4.out], by omega, by rw [← HCS.out, HCR.out]; rfl, by first | rfl | (have := HQ.out; rcases (show q = 0 ∨ q = 1 by omega) with h | h <;> rw [h] <;> rfl), HOB.out, HN7.out⟩
                  case measure => (have := H4.out; simp [intOf]; try omega)
              · refine wp_region_kept (Kp.refl _ _) (by assumption) (by kernel_rfl) ?_
                repeat (with_reducible refine wpQuiet_step (fun K hK => ?_); go_simp; first | ((with_reducible refine hK _ ?_); clear hK K) | (with_reducible apply Exists.intro; (with_reducible refine ⟨fun _ => ?_, hK _ ?_⟩); (fail); clear hK K) | (simp only [undef, reduceCtorEq, if_false]; (with_reducible refine hK _ ?_); clear hK K))
                with_reducible refine wpQuiet_nil ?_
                rintro _ ⟨p, rfl⟩
                have HN6 := Lib.hid ((HK.out.tr HX.out).tr (HC6.out.2.2.tr p.since))
                have H86 := Lib.hid (HC6.out.1.kept p)
                have H96 := Lib.hid (HC6.out.2.1.kept p)
                have HP6 := Lib.hid (HPK.out _ (HX.out.tr (HC6.out.2.2.tr p.since)))
                generalize p.wd = w7 at HN6 H86 H96 HP6 ⊢
                have HN7 := Lib.hid HN6.out
                go_wp2_with fail
                go_roundw
                case rel => exact ⟨k + 1, q, by rw [← H4.out], by omega, by rw [← HCS.out, HCR.out]; rfl, by first | rfl | (have := HQ.out; rcases (show q = 0 ∨ q = 1 by omega) with h | h <;> rw [h] <;> rfl), HOB.out, HN7.out⟩
                case measure => (have := H4.out; simp [intOf]; try omega)
          · skip
            refine wp_region_kept (Kp.refl _ _) (by assumption) (by kernel_rfl) ?_
            repeat (with_reducible refine wpQuiet_step (fun K hK => ?_); go_simp; first | ((with_reducible refine hK _ ?_); clear hK K) | (with_reducible apply Exists.intro; (with_reducible refine ⟨fun _ => ?_, hK _ ?_⟩); ((first | (go_at_call 117; with_reducible exact Calls.kept_of (con _)) | fail)); clear hK K) | (simp only [undef, reduceCtorEq, if_false]; (with_reducible refine hK _ ?_); clear hK K))
            with_reducible refine wpQuiet_nil ?_
            rintro _ ⟨p, rfl⟩
            go_wp2_with fail
            go_ret
            refine ⟨?_, HW4.out.tr (HK.out.tr p.since)⟩
            show Ending.returned (.int .i64 1) = _
            have ha : anyOn L x y d = true := by
              have h := HOB.out
              unfold anyOn at h ⊢
              rw [List.any_eq_true] at h ⊢
              obtain ⟨e, h1, h2⟩ := h
              exact ⟨e, List.mem_of_mem_take h1, h2⟩
            rw [HR.out, ha]
            rfl
        · obtain rfl : k = n := by omega
          have i5 : ¬ ((k : Int) < (k : Int)) := by omega
          have htl : L.take k = L := List.take_of_length_le (by rw [HEL.out]; exact Nat.le_refl _)
          rw [htl] at HNO HQ
          have HF := Lib.hid (HW4.out.tr HK.out)
          have hq2 : q = 0 ∨ q = 1 := by have := HQ.out; omega
          have HR2 := Lib.hid (show r = if q = 1 then 2 else 0 by rw [HR.out, HNO.out, ← HQ.out]; rfl)
          clear htl HNO HQ HR
          rcases hq2 with rfl | rfl
          · go_wp2_with fail
            go_ret
            exact ⟨by rw [HR2.out]; rfl, HF.out⟩
          · go_wp2_with fail
            go_ret
            exact ⟨by rw [HR2.out]; rfl, HF.out⟩

end Go.Proofs.Ytahamffngmdjfaa.W
