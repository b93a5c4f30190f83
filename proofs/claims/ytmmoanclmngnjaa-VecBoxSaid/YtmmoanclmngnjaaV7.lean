/-
  VecBox: the call returns true. No condition.
-/
import Derived.Test.YtmmoanclmngnjaaVI
import Derived.Test.YtmmoanclmngnjaaVB
import Derived.Test.YtmmoanclmngnjaaVPn
import Derived.Deep.CutRange
import Derived.ChangeKeysEq
namespace Go.Proofs.Ytmmoanclmngnjaa.W
open Go.RowKit Go.Proofs.Ytmmoanclmngnjaa.V

theorem eql_sides (w : World) : (Op.equalIn 10000 48 (.agg #[.bool true, .bool true, .bool true, .bool true]) (.agg #[.bool true, .bool true, .bool true, .bool true])).run Try.prog w = .ok true w := by
  obtain ⟨i0, hi⟩ : ∃ i, Try.prog.info? 4 = some i := ⟨(Try.prog.info? 4).get (by kernel_rfl), by kernel_rfl⟩
  have hc : Try.prog.cellsOf 4 = 1 := by kernel_rfl
  have u4 := Try.underlying4
  have a4 := Try.isAgg4
  have z4 := Try.sizeOf4
  rw [show (10000 : Nat) = 9999 + 1 from rfl, run_equalIn_array w 9999 _ _ Try.underlying48 hi, hc, show List.range 4 = [0, 1, 2, 3] from rfl]
  simp only [Op.eqItems]
  go_simp

set_option maxRecDepth 100000 in
set_option maxHeartbeats 6400000 in
theorem vecBox_any (l : List (Int × Int)) (v : Value) (w : World) (hv : SrcV w v l) : Calls Try.prog 10 #[v] w fun e w' => e = .returned (.bool true) ∧ Nw w w' := by
  have c0 := fun w1 => awake_any w1
  obtain ⟨A, c, rfl⟩ := hv.shape
  have hmx : l.length ≤ maxLen := by obtain ⟨_, _, _, _, h1, h2, _⟩ := hv; omega
  unfold maxLen at hmx
  by_cases hb : l.length = 0 ∨ 40 < l.length
  · clear hv
    generalize l.length = n at *
    rcases hb with rfl | hb
    · go_enter Try.func10, Try.ntmps10
      go_wp2_with fail
      with_reducible refine (c0 _).mono ?_
      rintro e w1 ⟨rfl, hk⟩
      go_wp2
      go_ret
      exact ⟨rfl, hk⟩
    · have e1 : ((n : Int) == 0) = false := by simp; omega
      have e2 : decide ((n : Int) > 40) = true := decide_eq_true (by omega)
      go_enter Try.func10, Try.ntmps10
      go_wp2_with fail
      with_reducible refine (c0 _).mono ?_
      rintro e w1 ⟨rfl, hk⟩
      go_wp2
      go_ret
      exact ⟨rfl, hk⟩
  · have hl40 : l.length ≤ 40 := by omega
    cases l with
    | nil => exact absurd (Or.inl rfl) hb
    | cons p0 r =>
    obtain ⟨qx, qy⟩ := p0
    have e1 : (((((qx, qy) :: r).length : Nat) : Int) == 0) = false := by simp; omega
    have e2 : decide ((((((qx, qy) :: r).length : Nat) : Int)) > 40) = false := decide_eq_false (by omega)
    have cb := fun w1 h => boxOf_any ((qx, qy) :: r) (.slice A ((qx, qy) :: r).length c) w1 h
    have hbo : boxOf ((qx, qy) :: r) = (((qx, qy) :: r).foldl boxStep (qx, qy, qx, qy), true) := rfl
    rw [hbo] at cb
    obtain ⟨b, hbb⟩ : ∃ b, ((qx, qy) :: r).foldl boxStep (qx, qy, qx, qy) = b := ⟨_, rfl⟩
    have hside := box_sides (qx, qy) r b hbb
    have hin := fold_in ((qx, qy) :: r) (qx, qy, qx, qy)
    rw [hbb] at cb hin
    obtain ⟨_, A', c', hA, hnc, hcm, hc⟩ := hv
    injection hA with hA1 hA2 hA3
    subst hA1 hA3
    clear hA2
    obtain ⟨g, o, rfl, hg, hc⟩ := hc (by simp)
    have hv : SrcV w (.slice (some ⟨g, o, none⟩) ((qx, qy) :: r).length c) ((qx, qy) :: r) := ⟨flatV_len _, _, _, rfl, hnc, hcm, fun _ => ⟨g, o, rfl, hg, hc⟩⟩
    have h0 : ((qx, qy) :: r)[0]? = some (qx, qy) := rfl
    have HL := Lib.hid (show ∀ i p, ((qx, qy) :: r)[i]? = some p → ∀ w', Nw w w' → w'.cell? (⟨g, o + i * 2, none⟩ : Addr) = some (.int .i64 p.1) ∧ w'.cell? (⟨g, o + i * 2 + 1, none⟩ : Addr) = some (.int .i64 p.2) from fun i p hp w' h => by
      obtain ⟨f1, f2⟩ := flatV_at _ i p hp
      exact ⟨(h.cell (p := ⟨g, o + i * 2, none⟩) hg id).trans (hc _ _ f1), (h.cell (p := ⟨g, o + (i * 2 + 1), none⟩) hg id).trans (hc _ _ f2)⟩)
    have HV := Lib.hid hv
    have HS := Lib.hid hside
    have HI := Lib.hid hin
    clear hv hc hside hin hbb hbo hb hnc hcm
    generalize hll : ((qx, qy) :: r) = l at *
    obtain ⟨n, hn⟩ : ∃ n, l.length = n := ⟨_, rfl⟩
    have hn0 : 0 < n := by rw [← hn, ← hll]; simp
    rw [hn] at cb HV hl40 e1 e2 ⊢
    have HN := Lib.hid hn
    have HH := Lib.hid h0
    clear hn hll h0 hmx
    obtain ⟨lx, ly, hx, hy⟩ := b
    go_enter Try.func10, Try.ntmps10
    go_wp2_with fail
    with_reducible refine (c0 _).mono ?_
    rintro e w1 ⟨rfl, hk⟩
    have HK := Lib.hid hk
    clear hk
    go_wp2_with fail
    with_reducible refine (cb _ ?_).mono ?_
    · rw [← HN.out] at HV ⊢
      exact HV.out.nw HK.out
    rintro e w2 ⟨rfl, hk⟩
    have HK := Lib.hid (HK.out.tr (hk.alloc (.cells (boxC (lx, ly, hx, hy)) 38)))
    have HB := Lib.hid (Blk.new w2 38 (boxC (lx, ly, hx, hy)))
    clear hk
    go_wp2_with fail
    obtain ⟨w3, hw3⟩ : ∃ w3, w2.alloc (.cells (boxC (lx, ly, hx, hy)) 38) = w3 := ⟨_, rfl⟩
    have hsz : w3.heap.size = w2.heap.size + 1 := by rw [← hw3]; simp
    have hw3 : w2.alloc (.cells #[.int .i64 lx, .int .i64 ly, .int .i64 hx, .int .i64 hy] 38) = w3 := hw3
    rw [show w2.alloc (.cells (boxC (lx, ly, hx, hy)) 38) = w3 from hw3] at HK HB
    rw [hw3]
    obtain ⟨Bb, hBb⟩ : ∃ Bb, w2.heap.size = Bb := ⟨_, rfl⟩
    obtain ⟨S, hS⟩ : ∃ S, w3.heap.size = S := ⟨_, rfl⟩
    have hs0 := Blk.new w3 48 #[.bool false, .bool false, .bool false, .bool false]
    rw [hS] at hs0
    rw [← hsz, hS, hBb]
    rw [hBb] at HB
    have HS0 := Lib.hid hs0
    have HK0 := Lib.hid (nw_alloc w3 (.cells #[.bool false, .bool false, .bool false, .bool false] 48))
    have HSS := Lib.hid (show w3.heap.size ≤ S from Nat.le_of_eq hS)
    clear hs0 hS hBb hsz hw3 cb c0
    go_loopw [6] (fun i wr => ∃ (k : Nat) (s0 s1 s2 s3 : Bool), i = .int .i64 k ∧ k ≤ n ∧ (∀ p ∈ l.take k, Sm p.1 p.2) ∧ (s0 = onX (l.take k) lx ∧ s1 = onX (l.take k) hx ∧ s2 = onY (l.take k) ly ∧ s3 = onY (l.take k) hy) ∧ Nw w3 wr ∧ Blk wr S 48 #[.bool s0, .bool s1, .bool s2, .bool s3]) (fun i _ => n - (intOf i).toNat)
    case atStart => exact ⟨0, false, false, false, false, rfl, Nat.zero_le _, by simp, ⟨rfl, rfl, rfl, rfl⟩, HK0.out, HS0.out⟩
    case round =>
      obtain ⟨k, s0, s1, s2, s3, rfl, hk, hsm, hss, hnw, hsb⟩ := hrel
      have HSM := Lib.hid hsm
      have HSB := Lib.hid hss
      have HM := Lib.hid hnw
      have HBS := Lib.hid hsb
      clear hsm hss hnw hsb
      by_cases hkn : k < n
      · skip
        have i0 : (0 : Int) ≤ (k : Int) := by omega
        have i1 : (k : Int) < (n : Int) := by omega
        have i2 : (0 : Int) < (n : Int) := by omega
        have e4 : IntKind.i64.wrap ((k : Int) + 1) = (k : Int) + 1 := by rw [IntKind.wrap_i64]; omega
        obtain ⟨⟨px, py⟩, hp⟩ : ∃ x, l[k]? = some x := ⟨l[k]'(by rw [HN.out]; omega), List.getElem?_eq_getElem _⟩
        have HP := Lib.hid (show ∀ w' : World, Nw w3 w' → w'.cell? (⟨Bb, 0, none⟩ : Addr) = some (.int .i64 lx) ∧ w'.cell? (⟨Bb, 1, none⟩ : Addr) = some (.int .i64 ly) ∧ w'.cell? (⟨Bb, 2, none⟩ : Addr) = some (.int .i64 hx) ∧ w'.cell? (⟨Bb, 3, none⟩ : Addr) = some (.int .i64 hy) ∧ w'.cell? (⟨g, o + k * 2, none⟩ : Addr) = some (.int .i64 px) ∧ w'.cell? (⟨g, o + k * 2 + 1, none⟩ : Addr) = some (.int .i64 py) ∧ w'.cell? (⟨g, o, none⟩ : Addr) = some (.int .i64 qx) ∧ w'.cell? (⟨g, o + 1, none⟩ : Addr) = some (.int .i64 qy) from fun w' h => by
          obtain ⟨y0, y1, y2, y3, _, _, _, _⟩ := (HB.out.kp h id).four
          obtain ⟨y4, y5⟩ := HL.out k _ hp w' (HK.out.tr h)
          obtain ⟨y6, y7⟩ := HL.out 0 _ HH.out w' (HK.out.tr h)
          rw [Nat.zero_mul] at y6 y7
          exact ⟨y0, y1, y2, y3, y4, y5, y6, y7⟩)
        have HPX := Lib.hid hp
        have hib := HI.out (px, py) (List.mem_of_getElem? hp)
        clear hp
        have cw := fun w1 => rwithin_any px py 268435456 w1
        obtain ⟨ws, hws⟩ : ∃ b, withinV px py 268435456 = b := ⟨_, rfl⟩
        rw [hws] at cw
        obtain ⟨q0, q1, q2, q3, q4, q5, q6, q7⟩ := HP.out wr HM.out
        cases ws
        · clear hws hib
          go_wp2_with fail
          with_reducible refine (cw _).mono ?_
          rintro e w4 ⟨rfl, hk4⟩
          go_wp2
          go_ret
          exact ⟨rfl, HK.out.tr (HM.out.tr hk4)⟩
        · have hsp := within_sm hws
          have hsq : Sm qx qy := by
            rcases Nat.eq_zero_or_pos k with h | h
            · subst h
              have h1 := HPX.out
              rw [HH.out] at h1
              injection h1 with h1
              injection h1 with h1 h2
              rw [h1, h2]
              exact hsp
            · exact HSM.out (qx, qy) (List.mem_of_getElem? (i := 0) (by rw [List.getElem?_take_of_lt h]; exact HH.out))
          obtain ⟨f1, f2, f3, f4, f5, f6⟩ := norm_facts hsp hsq
          have ci := fun w1 => inBox_gw lx ly hx hy px py w1
          rw [show inBoxV lx ly hx hy px py = true by unfold inBoxV; simp; omega] at ci
          have cn := fun w1 => norm_gw px py w1
          have cq := fun w1 => norm_gw qx qy w1
          have cg := fun w1 => neg_gw px py w1
          have cm := fun w1 => norm_gw (w64 (-px)) (w64 (-py)) w1
          have ca := fun w1 => add_gw px py qx qy w1
          have cs := fun w1 => norm_gw (w64 (px + qx)) (w64 (py + qy)) w1
          have ch := fun w1 => within_gw px py (normV px py) w1
          have cz := fun w1 => eql_vec px py 0 0 w1
          rw [f3] at cm
          rw [f6] at ch
          rw [← f2] at cz
          generalize normV (w64 (px + qx)) (w64 (py + qy)) = M at *
          generalize normV px py = N at *
          generalize normV qx qy = K at *
          generalize w64 (-px) = m1 at *
          generalize w64 (-py) = m2 at *
          generalize w64 (px + qx) = a1 at *
          generalize w64 (py + qy) = a2 at *
          have g1 : decide (N < 0) = false := decide_eq_false f1
          have g2 : decide (M > N + K) = false := decide_eq_false f5
          have g3 : decide (N + K < M) = false := g2
          obtain ⟨γ, hγ⟩ : ∃ γ, (N == 0) = γ := ⟨_, rfl⟩
          rw [hγ] at cz
          have HF := Lib.hid (And.intro f4 (And.intro g1 (And.intro g2 (And.intro g3 (And.intro hγ (And.intro hsp cz))))))
          clear f1 f2 f3 f4 f5 f6 g1 g2 g3 hγ cz hsq hsp hws hib
          go_wp2_with fail
          with_reducible refine (cw _).mono ?_
          rintro e w4 ⟨rfl, hk4⟩
          have HM4 := Lib.hid (HM.out.tr hk4)
          have HBS := Lib.hid (HBS.out.kp hk4 id)
          clear hk4 cw q0 q1 q2 q3 q4 q5 q6 q7
          have hQ := fun (n : Nat) (os : Array Obj) => HP.out (Sort.grow (w4.drewN n) os) (HM4.out.tr (nw_grown ⟨n, os, rfl⟩))
          have q0 := fun (n : Nat) (os : Array Obj) => (hQ n os).1
          have q1 := fun (n : Nat) (os : Array Obj) => (hQ n os).2.1
          have q2 := fun (n : Nat) (os : Array Obj) => (hQ n os).2.2.1
          have q3 := fun (n : Nat) (os : Array Obj) => (hQ n os).2.2.2.1
          have q4 := fun (n : Nat) (os : Array Obj) => (hQ n os).2.2.2.2.1
          have q5 := fun (n : Nat) (os : Array Obj) => (hQ n os).2.2.2.2.2.1
          have q6 := fun (n : Nat) (os : Array Obj) => (hQ n os).2.2.2.2.2.2.1
          have q7 := fun (n : Nat) (os : Array Obj) => (hQ n os).2.2.2.2.2.2.2
          clear hQ
          have hmix := mixed
          go_wp2_with fail
          go_quiet_grown (first
              | (go_at_call 39; with_reducible exact Calls.grown_of (ci _)))
          obtain ⟨w5, hw5⟩ : ∃ x, Sort.grow (w4.drewN nq) osq = x := ⟨_, rfl⟩
          rw [hw5]
          have hn : Nw w4 w5 := by rw [← hw5]; exact nw_grown ⟨nq, osq, rfl⟩
          have HM5 := Lib.hid (HM4.out.tr hn)
          have HBS := Lib.hid (HBS.out.kp hn id)
          clear hn hw5 hmix q0 q1 q2 q3 q4 q5 q6 q7
          obtain ⟨t0, ht0⟩ : ∃ t, (s0 || (px == lx)) = t := ⟨_, rfl⟩
          have HT0 := Lib.hid ht0
          clear ht0
          go_upto_region 14 with fail
          go_cut [57] from 44 to 57 (fun p wx => p = .pointer (some ⟨S, 0, none⟩) ∧ Nw w3 wx ∧ Blk wx S 48 #[.bool t0, .bool s1, .bool s2, .bool s3])
          case first =>
            obtain ⟨q0, q1, q2, q3, q4, q5, q6, q7⟩ := HP.out w5 HM5.out
            obtain ⟨y0, y1, y2, y3, u0, u1, u2, u3⟩ := HBS.out.four
            have hT := HT0.out
            cases s0
            · have e5 : (px == lx) = t0 := hT
              clear hT
              go_wp2_with fail
              go_region
              go_wp2_with fail
              go_meet
              case rel => exact ⟨rfl, by repeat (first | exact HM5.out | refine Kp.drew ?_ | refine Kp.new ?_ HSS.out _ _), by first | exact (HBS.out.set_ 0 _).drew | exact HBS.out.drew.set_ 0 _⟩
            · obtain rfl : true = t0 := hT
              go_wp2_with fail
              go_region
              go_wp2_with fail
              go_meet
              case rel => exact ⟨rfl, by repeat (first | exact HM5.out | refine Kp.drew ?_ | refine Kp.new ?_ HSS.out _ _), by first | exact (HBS.out.set_ 0 _).drew | exact HBS.out.drew.set_ 0 _⟩
          case rest =>
            obtain ⟨rfl, k1, k2⟩ := hcut
            obtain ⟨x0, hx0⟩ : ∃ x, wc = x := ⟨_, rfl⟩
            rw [hx0] at k1 k2 ⊢
            clear hx0 wc
            have HN0 := Lib.hid k1
            have HBS := Lib.hid k2
            clear k1 k2
            obtain ⟨t1, ht1⟩ : ∃ t, (s1 || (px == hx)) = t := ⟨_, rfl⟩
            have HT1 := Lib.hid ht1
            clear ht1
            go_upto_region 15 with fail
            go_cut [71] from 58 to 71 (fun p wx => p = .pointer (some ⟨S, 1, none⟩) ∧ Nw w3 wx ∧ Blk wx S 48 #[.bool t0, .bool t1, .bool s2, .bool s3])
            case first =>
              obtain ⟨q0, q1, q2, q3, q4, q5, q6, q7⟩ := HP.out x0 HN0.out
              obtain ⟨y0, y1, y2, y3, u0, u1, u2, u3⟩ := HBS.out.four
              have hT := HT1.out
              cases s1
              · have e5 : (px == hx) = t1 := hT
                clear hT
                go_wp2_with fail
                go_region
                go_wp2_with fail
                go_meet
                case rel => exact ⟨rfl, by repeat (first | exact HN0.out | refine Kp.drew ?_ | refine Kp.new ?_ HSS.out _ _), by first | exact (HBS.out.set_ 1 _).drew | exact HBS.out.drew.set_ 1 _⟩
              · obtain rfl : true = t1 := hT
                go_wp2_with fail
                go_region
                go_wp2_with fail
                go_meet
                case rel => exact ⟨rfl, by repeat (first | exact HN0.out | refine Kp.drew ?_ | refine Kp.new ?_ HSS.out _ _), by first | exact (HBS.out.set_ 1 _).drew | exact HBS.out.drew.set_ 1 _⟩
            case rest =>
              obtain ⟨rfl, k1, k2⟩ := hcut
              obtain ⟨x1, hx1⟩ : ∃ x, wc = x := ⟨_, rfl⟩
              rw [hx1] at k1 k2 ⊢
              clear hx1 wc
              have HN1 := Lib.hid k1
              have HBS := Lib.hid k2
              clear k1 k2
              obtain ⟨t2, ht2⟩ : ∃ t, (s2 || (py == ly)) = t := ⟨_, rfl⟩
              have HT2 := Lib.hid ht2
              clear ht2
              go_upto_region 16 with fail
              go_cut [85] from 72 to 85 (fun p wx => p = .pointer (some ⟨S, 2, none⟩) ∧ Nw w3 wx ∧ Blk wx S 48 #[.bool t0, .bool t1, .bool t2, .bool s3])
              case first =>
                obtain ⟨q0, q1, q2, q3, q4, q5, q6, q7⟩ := HP.out x1 HN1.out
                obtain ⟨y0, y1, y2, y3, u0, u1, u2, u3⟩ := HBS.out.four
                have hT := HT2.out
                cases s2
                · have e5 : (py == ly) = t2 := hT
                  clear hT
                  go_wp2_with fail
                  go_region
                  go_wp2_with fail
                  go_meet
                  case rel => exact ⟨rfl, by repeat (first | exact HN1.out | refine Kp.drew ?_ | refine Kp.new ?_ HSS.out _ _), by first | exact (HBS.out.set_ 2 _).drew | exact HBS.out.drew.set_ 2 _⟩
                · obtain rfl : true = t2 := hT
                  go_wp2_with fail
                  go_region
                  go_wp2_with fail
                  go_meet
                  case rel => exact ⟨rfl, by repeat (first | exact HN1.out | refine Kp.drew ?_ | refine Kp.new ?_ HSS.out _ _), by first | exact (HBS.out.set_ 2 _).drew | exact HBS.out.drew.set_ 2 _⟩
              case rest =>
                obtain ⟨rfl, k1, k2⟩ := hcut
                obtain ⟨x2, hx2⟩ : ∃ x, wc = x := ⟨_, rfl⟩
                rw [hx2] at k1 k2 ⊢
                clear hx2 wc
                have HN2 := Lib.hid k1
                have HBS := Lib.hid k2
                clear k1 k2
                obtain ⟨t3, ht3⟩ : ∃ t, (s3 || (py == hy)) = t := ⟨_, rfl⟩
                have HT3 := Lib.hid ht3
                clear ht3
                go_upto_region 17 with fail
                go_cut [99] from 86 to 99 (fun p wx => p = .pointer (some ⟨S, 3, none⟩) ∧ Nw w3 wx ∧ Blk wx S 48 #[.bool t0, .bool t1, .bool t2, .bool t3])
                case first =>
                  obtain ⟨q0, q1, q2, q3, q4, q5, q6, q7⟩ := HP.out x2 HN2.out
                  obtain ⟨y0, y1, y2, y3, u0, u1, u2, u3⟩ := HBS.out.four
                  have hT := HT3.out
                  cases s3
                  · have e5 : (py == hy) = t3 := hT
                    clear hT
                    go_wp2_with fail
                    go_region
                    go_wp2_with fail
                    go_meet
                    case rel => exact ⟨rfl, by repeat (first | exact HN2.out | refine Kp.drew ?_ | refine Kp.new ?_ HSS.out _ _), by first | exact (HBS.out.set_ 3 _).drew | exact HBS.out.drew.set_ 3 _⟩
                  · obtain rfl : true = t3 := hT
                    go_wp2_with fail
                    go_region
                    go_wp2_with fail
                    go_meet
                    case rel => exact ⟨rfl, by repeat (first | exact HN2.out | refine Kp.drew ?_ | refine Kp.new ?_ HSS.out _ _), by first | exact (HBS.out.set_ 3 _).drew | exact HBS.out.drew.set_ 3 _⟩
                case rest =>
                  obtain ⟨rfl, k1, k2⟩ := hcut
                  obtain ⟨x3, hx3⟩ : ∃ x, wc = x := ⟨_, rfl⟩
                  rw [hx3] at k1 k2 ⊢
                  clear hx3 wc
                  have HN3 := Lib.hid k1
                  have HBS := Lib.hid k2
                  clear k1 k2
                  have hQ := fun (n : Nat) (os : Array Obj) => HP.out (Sort.grow (x3.drewN n) os) (HN3.out.tr (nw_grown ⟨n, os, rfl⟩))
                  have q0 := fun (n : Nat) (os : Array Obj) => (hQ n os).1
                  have q1 := fun (n : Nat) (os : Array Obj) => (hQ n os).2.1
                  have q2 := fun (n : Nat) (os : Array Obj) => (hQ n os).2.2.1
                  have q3 := fun (n : Nat) (os : Array Obj) => (hQ n os).2.2.2.1
                  have q4 := fun (n : Nat) (os : Array Obj) => (hQ n os).2.2.2.2.1
                  have q5 := fun (n : Nat) (os : Array Obj) => (hQ n os).2.2.2.2.2.1
                  have q6 := fun (n : Nat) (os : Array Obj) => (hQ n os).2.2.2.2.2.2.1
                  have q7 := fun (n : Nat) (os : Array Obj) => (hQ n os).2.2.2.2.2.2.2
                  clear hQ
                  have hmix := mixed
                  go_wp2_with fail
                  go_quiet_grown (first
                      | (go_at_call 24; with_reducible exact Calls.grown_of (cn _))
                      | (go_at_call 24; with_reducible exact Calls.grown_of (cq _)))
                  obtain ⟨w8, hw8⟩ : ∃ x, Sort.grow (x3.drewN nq) osq = x := ⟨_, rfl⟩
                  rw [hw8]
                  have hn : Nw x3 w8 := by rw [← hw8]; exact nw_grown ⟨nq, osq, rfl⟩
                  have HM8 := Lib.hid (HN3.out.tr hn)
                  have HBS := Lib.hid (HBS.out.kp hn id)
                  clear hn hw8 hmix q0 q1 q2 q3 q4 q5 q6 q7
                  obtain ⟨f4, g1, g2, g3, hγ, hsp, cz⟩ := HF.out
                  have f7 : wrap64 (N + K) = N + K := by have h := f4; rw [i64_w] at h; exact h
                  have HSP := Lib.hid hsp
                  clear hsp
                  have hQ := fun (n : Nat) (os : Array Obj) => HP.out (Sort.grow (w8.drewN n) os) (HM8.out.tr (nw_grown ⟨n, os, rfl⟩))
                  have q0 := fun (n : Nat) (os : Array Obj) => (hQ n os).1
                  have q1 := fun (n : Nat) (os : Array Obj) => (hQ n os).2.1
                  have q2 := fun (n : Nat) (os : Array Obj) => (hQ n os).2.2.1
                  have q3 := fun (n : Nat) (os : Array Obj) => (hQ n os).2.2.2.1
                  have q4 := fun (n : Nat) (os : Array Obj) => (hQ n os).2.2.2.2.1
                  have q5 := fun (n : Nat) (os : Array Obj) => (hQ n os).2.2.2.2.2.1
                  have q6 := fun (n : Nat) (os : Array Obj) => (hQ n os).2.2.2.2.2.2.1
                  have q7 := fun (n : Nat) (os : Array Obj) => (hQ n os).2.2.2.2.2.2.2
                  clear hQ
                  have hmix := mixed
                  go_wp2_with fail
                  go_quiet_grown (first
                      | (go_at_call 16; with_reducible exact Calls.grown_of (cg _))
                      | (go_at_call 24; with_reducible exact Calls.grown_of (cm _))
                      | (go_at_call 12; with_reducible exact Calls.grown_of (ca _))
                      | (go_at_call 24; with_reducible exact Calls.grown_of (cs _))
                      | (go_at_call 32; with_reducible exact Calls.grown_of (ch _)))
                  obtain ⟨w9, hw9⟩ : ∃ x, Sort.grow (w8.drewN nq) osq = x := ⟨_, rfl⟩
                  rw [hw9]
                  have hn : Nw w8 w9 := by rw [← hw9]; exact nw_grown ⟨nq, osq, rfl⟩
                  have HM9 := Lib.hid (HM8.out.tr hn)
                  have HBS := Lib.hid (HBS.out.kp hn id)
                  clear hn hw9 hmix q0 q1 q2 q3 q4 q5 q6 q7
                  clear f4 g1 g2 g3 hγ cz
                  go_wp2_with fail
                  go_roundw
                  case rel =>
                    refine ⟨k + 1, t0, t1, t2, t3, by go_num, by omega, ?_, ⟨?_, ?_, ?_, ?_⟩, HM9.out, HBS.out⟩
                    · rw [List.take_add_one, HPX.out, Option.toList_some]
                      intro p hp
                      rcases List.mem_append.1 hp with h | h
                      · exact HSM.out p h
                      · rw [List.mem_singleton] at h
                        rw [h]
                        exact HSP.out
                    · rw [onX_step HPX.out, ← HSB.out.1]; exact HT0.out.symm
                    · rw [onX_step HPX.out, ← HSB.out.2.1]; exact HT1.out.symm
                    · rw [onY_step HPX.out, ← HSB.out.2.2.1]; exact HT2.out.symm
                    · rw [onY_step HPX.out, ← HSB.out.2.2.2]; exact HT3.out.symm
                  case measure => simp [intOf]; omega
      · obtain rfl : k = n := by omega
        have hsb := HSB.out
        rw [List.take_of_length_le (by rw [HN.out]; exact Nat.le_refl _)] at hsb
        obtain ⟨z0, z1, z2, z3⟩ := HS.out
        obtain rfl : s0 = true := hsb.1.trans z0
        obtain rfl : s1 = true := hsb.2.1.trans z1
        obtain rfl : s2 = true := hsb.2.2.1.trans z2
        obtain rfl : s3 = true := hsb.2.2.2.trans z3
        clear hsb z0 z1 z2 z3
        obtain ⟨y0, y1, y2, y3, u0, u1, u2, u3⟩ := HBS.out.four
        have hES := fun w1 => eql_sides w1
        go_wp2
        go_ret
        exact ⟨rfl, HK.out.tr HM.out⟩
end Go.Proofs.Ytmmoanclmngnjaa.W
