/-
  RatioSums: the call returns true. Condition: the parts are ints.
-/
import Derived.Test.YthefkomalakfeaaQSp
namespace Go.Proofs.Ythefkomalakfeaa.W
open Go.RowKit Go.Proofs.Ythefkomalakfeaa.Q

set_option maxRecDepth 100000 in
set_option maxHeartbeats 6400000 in
theorem ratioSums_any (l : List (Int × Int)) (v : Value) (w : World) (hv : SrcR w v l) (hi : Ints l) : Calls Try.prog 5 #[v] w fun e w' => e = .returned (.bool true) ∧ Nw w w' := by
  have c0 := fun w1 => awake_any w1
  have hmx : l.length ≤ maxLen := by obtain ⟨_, _, _, _, h1, h2, _⟩ := hv; omega
  unfold maxLen at hmx
  obtain ⟨A, c, rfl⟩ := hv.shape
  by_cases hbig : 20 < l.length
  · have e1 : decide ((l.length : Int) > 20) = true := decide_eq_true (by omega)
    clear hv hi
    generalize l.length = n at *
    go_enter Try.func5, Try.ntmps5
    go_wp2_with fail
    with_reducible refine (c0 _).mono ?_
    rintro e w1 ⟨rfl, hk⟩
    go_wp2
    go_ret
    exact ⟨rfl, hk⟩
  · have HV := Lib.hid hv
    have HI := Lib.hid hi
    have e1 : decide ((l.length : Int) > 20) = false := decide_eq_false (by omega)
    obtain ⟨n, hn⟩ : ∃ n, l.length = n := ⟨_, rfl⟩
    have c1 := fun w1 h => sum_any l (.slice A l.length c) w1 h hi (by omega)
    have c2 := fun w1 h => refSum_any l (.slice A l.length c) w1 h hi (by omega)
    have HR := Lib.hid (show ∀ (g : Nat) (w1 : World), RowR w1 g l.reverse → Calls Try.prog 33 #[.slice (some ⟨g, 0, none⟩) n n] w1 fun e w' => e = .returned (resV (sumR l)) ∧ Nw w1 w' from fun g w1 h => by
      have hl : l.reverse.length = n := by rw [List.length_reverse, hn]
      have k := sum_any l.reverse (.slice (some ⟨g, 0, none⟩) l.reverse.length l.reverse.length) w1 (src_blk h (by omega)) (fun p hp => hi p (List.mem_reverse.1 hp)) (by omega)
      rw [sum_rev, hl] at k
      exact k)
    have HE := Lib.hid (show ∀ x y, Inv l n x y → sumR l = (x, y, 0) from fun x y h => inv_end (by rw [hn]; exact h) (by omega))
    have HN := Lib.hid hn
    have hmk := make_rats n (by omega)
    have HL := Lib.hid (show n ≤ 20 by omega)
    rw [hn] at e1 c1 c2 HV ⊢
    clear hv hi hn hbig hmx
    generalize hsr : sumR l = r at *
    obtain ⟨x1, x2, x3⟩ := r
    clear hsr
    go_enter Try.func5, Try.ntmps5
    go_wp2_with fail
    with_reducible refine (c0 _).mono ?_
    rintro e w1 ⟨rfl, hk⟩
    have HK := Lib.hid hk
    clear hk
    go_wp2_with fail
    with_reducible refine (c1 _ ?_).mono ?_
    · rw [← HN.out] at HV ⊢
      exact HV.out.nw HK.out
    rintro e w2 ⟨rfl, hk⟩
    have hk := hk.tr (nw_alloc w2 (.cells #[.int .i64 x1, .int .i64 x2] 23))
    have HK := Lib.hid (HK.out.tr hk)
    have HX := Lib.hid (Blk.new w2 23 #[.int .i64 x1, .int .i64 x2])
    clear hk
    go_wp2_with fail
    with_reducible refine (c2 _ ?_).mono ?_
    · rw [← HN.out] at HV ⊢
      exact HV.out.nw HK.out
    rintro e w3 ⟨rfl, hk⟩
    have hk := hk.tr (nw_alloc w3 (.cells #[.int .i64 x1, .int .i64 x2] 23))
    have HK := Lib.hid (HK.out.tr hk)
    have HX := Lib.hid (Blk.kp HX.out hk id)
    have HY := Lib.hid (Blk.new w3 23 #[.int .i64 x1, .int .i64 x2])
    obtain ⟨w4, hw4⟩ : ∃ w4, w3.alloc (.cells #[.int .i64 x1, .int .i64 x2] 23) = w4 := ⟨_, rfl⟩
    rw [hw4] at HK HX HY
    have hsz : w4.heap.size = w3.heap.size + 1 := by rw [← hw4]; simp
    have HS := Lib.hid hsz
    have HW := Lib.hid hw4
    clear hk hw4 hsz c0 c1 c2
    have hB := Blk.new w4 23 (((List.replicate n ((0, 0) : Int × Int)).flatMap rtC).toArray)
    have hK := nw_alloc w4 (.cells (((List.replicate n ((0, 0) : Int × Int)).flatMap rtC).toArray) 23)
    have HB0 := Lib.hid hB
    have HK0 := Lib.hid hK
    clear hB hK
    go_wp2_with fail
    clear hmk
    rw [HW.out]
    obtain ⟨B, hBB⟩ : ∃ B, w4.heap.size = B := ⟨_, rfl⟩
    rw [← HS.out, hBB]
    rw [hBB] at HB0
    have HBB := Lib.hid hBB
    clear hBB
    go_loopw [35] (fun i wr => ∃ k : Nat, i = .int .i64 k ∧ k ≤ n ∧ Nw w4 wr ∧ RowR wr B (List.replicate (n - k) (0, 0) ++ (l.take k).reverse)) (fun i _ => n - (intOf i).toNat)
    case atStart => exact ⟨0, rfl, Nat.zero_le _, HK0.out, by simpa using HB0.out⟩
    case round =>
      obtain ⟨k, rfl, hk, hnw, hrow⟩ := hrel
      have HM := Lib.hid hnw
      have HO := Lib.hid hrow
      clear hnw hrow
      by_cases hkn : k < n
      · obtain ⟨m, hm⟩ : ∃ m, n - k = m + 1 := ⟨n - k - 1, by omega⟩
        have i0 : (0 : Int) ≤ (k : Int) := by omega
        have i1 : (k : Int) < (n : Int) := by omega
        have i2 : (0 : Int) ≤ (m : Int) := by omega
        have i3 : (m : Int) < (n : Int) := by omega
        have e2 : IntKind.i64.wrap ((n : Int) - 1) = (n : Int) - 1 := by rw [IntKind.wrap_i64]; have := HL.out; omega
        have e3 : IntKind.i64.wrap ((n : Int) - 1 - (k : Int)) = (m : Int) := by rw [IntKind.wrap_i64]; have := HL.out; omega
        have e4 : IntKind.i64.wrap ((k : Int) + 1) = (k : Int) + 1 := by rw [IntKind.wrap_i64]; have := HL.out; omega
        obtain ⟨⟨a, b⟩, hx⟩ : ∃ x, l[k]? = some x := ⟨l[k]'(by rw [HN.out]; omega), List.getElem?_eq_getElem _⟩
        obtain ⟨f1, f2⟩ := flatR_at l k (a, b) hx
        obtain ⟨_, A', c', hA, _, _, hc⟩ := HV.out
        injection hA with hA1 hA2 hA3
        subst hA1 hA3
        clear hA2
        obtain ⟨g, o, rfl, hg, hc⟩ := hc (by rw [HN.out]; omega)
        have q0 : wr.cell? ⟨g, o + k * 2, none⟩ = some (.int .i64 a) := ((HK.out.tr HM.out).cell (p := ⟨g, o + k * 2, none⟩) hg id).trans (hc _ _ f1)
        have q1 : wr.cell? ⟨g, o + k * 2 + 1, none⟩ = some (.int .i64 b) := ((HK.out.tr HM.out).cell (p := ⟨g, o + (k * 2 + 1), none⟩) hg id).trans (hc _ _ f2)
        have ho := HO.out
        rw [hm] at ho
        have hz : (List.replicate (m + 1) ((0, 0) : Int × Int) ++ (l.take k).reverse)[m]? = some (0, 0) := by rw [List.getElem?_append_left (by simp)]; simp
        obtain ⟨f3, f4⟩ := flatR_at _ m (0, 0) hz
        have p0 : wr.cell? ⟨B, m * 2, none⟩ = some (.int .i64 0) := (ho.cell (m * 2)).trans (by rw [List.getElem?_toArray]; exact f3)
        have p1 : wr.cell? ⟨B, m * 2 + 1, none⟩ = some (.int .i64 0) := (ho.cell (m * 2 + 1)).trans (by rw [List.getElem?_toArray]; exact f4)
        have p2 := ho.frozen (m * 2)
        have p3 := ho.frozen (m * 2 + 1)
        have HO2 := Lib.hid ho
        have HX1 := Lib.hid hx
        have HMM := Lib.hid hm
        clear f1 f2 f3 f4 hc ho hx hz hm
        go_wp2_with fail
        go_roundw
        case rel =>
          refine ⟨k + 1, by go_num, by omega, (HM.out.new (Nat.le_of_eq HBB.out) _ _).new (Nat.le_of_eq HBB.out) _ _, ?_⟩
          have h := HO2.out.set_ m a b
          rw [set_back] at h
          rw [show n - (k + 1) = m by have := HMM.out; omega, List.take_add_one, HX1.out, Option.toList_some, List.reverse_append]
          exact h
        case measure => simp [intOf]; omega
      · obtain rfl : k = n := by omega
        have hb := HO.out
        rw [Nat.sub_self, List.replicate_zero, List.nil_append, List.take_of_length_le (by rw [HN.out]; exact Nat.le_refl _)] at hb
        go_wp2_with fail
        with_reducible refine (HR.out B _ hb).mono ?_
        rintro e w5 ⟨rfl, hk⟩
        have hk5 := HM.out.tr hk
        have hk6 := hk5.alloc (.cells #[.int .i64 x1, .int .i64 x2] 23)
        have HX := Lib.hid (HX.out.kp hk6 id)
        have HY := Lib.hid (HY.out.kp hk6 id)
        have HU := Lib.hid (Blk.new w5 23 #[.int .i64 x1, .int .i64 x2])
        have HK := Lib.hid (HK.out.tr hk6)
        obtain ⟨a0, a1, a2, a3⟩ := HX.out.two
        obtain ⟨b0, b1, b2, b3⟩ := HY.out.two
        obtain ⟨d0, d1, d2, d3⟩ := HU.out.two
        clear hk hk5 hk6 hb
        go_wp2_with fail
        clear a0 a1 a2 a3 b0 b1 b2 b3 d0 d1 d2 d3
        obtain ⟨w6, hw6⟩ : ∃ w6, w5.alloc (.cells #[.int .i64 x1, .int .i64 x2] 23) = w6 := ⟨_, rfl⟩
        have hsz : w6.heap.size = w5.heap.size + 1 := by rw [← hw6]; simp
        rw [hw6] at HX HY HU HK ⊢
        have HB0 := Lib.hid (Blk.new w6 23 #[.int .i64 0, .int .i64 1])
        have HK0 := Lib.hid (nw_alloc w6 (.cells #[.int .i64 0, .int .i64 1] 23))
        obtain ⟨S, hS⟩ : ∃ S, w6.heap.size = S := ⟨_, rfl⟩
        rw [← hsz, hS]
        rw [hS] at HB0
        have HSS := Lib.hid hS
        clear hw6 hsz hS
        go_loopw [76] (fun i wr => ∃ (q : Nat) (sn sd : Int), i = .int .i64 q ∧ q ≤ k ∧ Inv l q sn sd ∧ Nw w6 wr ∧ Blk wr S 23 #[.int .i64 sn, .int .i64 sd]) (fun i _ => k - (intOf i).toNat)
        case atStart => exact ⟨0, 0, 1, rfl, Nat.zero_le _, inv_zero l, HK0.out, HB0.out⟩
        case round =>
          obtain ⟨q, sn, sd, rfl, hq, hinv, hnw, hbs⟩ := hrel
          have HM := Lib.hid hnw
          have HI2 := Lib.hid hinv
          have HBS := Lib.hid hbs
          clear hnw hinv hbs
          by_cases hqn : q < k
          · have i0 : (0 : Int) ≤ (q : Int) := by omega
            have i1 : (q : Int) < (k : Int) := by omega
            have e4 : IntKind.i64.wrap ((q : Int) + 1) = (q : Int) + 1 := by rw [IntKind.wrap_i64]; have := HL.out; omega
            obtain ⟨⟨a, b⟩, hx⟩ : ∃ x, l[q]? = some x := ⟨l[q]'(by rw [HN.out]; omega), List.getElem?_eq_getElem _⟩
            obtain ⟨f1, f2⟩ := flatR_at l q (a, b) hx
            have hab := HI.out (a, b) (List.mem_of_getElem? hx)
            obtain ⟨_, A', c', hA, _, _, hc⟩ := HV.out
            injection hA with hA1 hA2 hA3
            subst hA1 hA3
            clear hA2
            obtain ⟨g, o, rfl, hg, hc⟩ := hc (by rw [HN.out]; omega)
            have hl0 := HK.out.size
            have hP : ∀ w' : World, Nw wr w' → w'.cell? (⟨S, 0, none⟩ : Addr) = some (.int .i64 sn) ∧ w'.cell? (⟨S, 1, none⟩ : Addr) = some (.int .i64 sd) ∧ w'.cell? (⟨g, o + q * 2, none⟩ : Addr) = some (.int .i64 a) ∧ w'.cell? (⟨g, o + q * 2 + 1, none⟩ : Addr) = some (.int .i64 b) := fun w' h => by
              obtain ⟨y0, y1, _, _⟩ := (HBS.out.kp h id).two
              exact ⟨y0, y1, ((HK.out.tr (HM.out.tr h)).cell (p := ⟨g, o + q * 2, none⟩) hg id).trans (hc _ _ f1), ((HK.out.tr (HM.out.tr h)).cell (p := ⟨g, o + (q * 2 + 1), none⟩) hg id).trans (hc _ _ f2)⟩
            have HP := Lib.hid hP
            have ca := fun w1 => add_any sn sd a b HI2.out.2.1 HI2.out.2.2.1 hab.1 hab.2 w1
            have hst := fun ho => inv_step HI2.out hx ho
            clear hP hc f1 f2 hx hab hl0
            generalize addR sn sd a b = r at *
            obtain ⟨y1, y2, y3⟩ := r
            have HST := Lib.hid hst
            clear hst
            have hsr := HBS.out.lt
            go_upto_region 20 with fail
            go_cut [13, 14] from 79 to 87 (fun p e wx => ∃ N, p = .pointer (some ⟨N, 0, none⟩) ∧ e = .int .i64 y3 ∧ Blk wx N 23 #[.int .i64 y1, .int .i64 y2] ∧ Nw wr wx)
            case first =>
              go_wp2_with fail
              go_region_held3 (fun w' : World => w'.cell? (⟨S, 0, none⟩ : Addr) = some (.int .i64 sn) ∧ w'.cell? (⟨S, 1, none⟩ : Addr) = some (.int .i64 sd) ∧ w'.cell? (⟨g, o + q * 2, none⟩ : Addr) = some (.int .i64 a) ∧ w'.cell? (⟨g, o + q * 2 + 1, none⟩ : Addr) = some (.int .i64 b))
                (first | exact HP.out _ (Kp.refl _ _) | exact HP.out _ (Kp.drew (Kp.refl _ _)) | exact HP.out _ (Kp.alloc (Kp.drew (Kp.refl _ _)) _) | exact HP.out _ hb | exact HP.out _ (Kp.alloc hb _) | exact HP.out _ (Kp.new (Kp.new hb (Nat.le_refl _) _ _) (Nat.le_refl _) _ _) | exact HP.out _ (Kp.drew (Kp.new (Kp.new hb (Nat.le_refl _) _ _) (Nat.le_refl _) _ _)) | fail)
                (first
                  | (go_at_call 10; ((with_reducible refine (ca _).mono ?_); rintro e x0 ⟨rfl, hk⟩; (first | (have hb : Nw wr x0 := (Kp.drew (Kp.refl _ _)).tr hk) | (have hb : Nw wr x0 := ((nw_alloc _ _).drew).tr hk; have zt := (Blk.drew (Blk.new wr 23 #[.int .i64 0, .int .i64 0])).kp hk id; obtain ⟨t0, t1, t2, t3⟩ := zt.two)))))
              all_goals (go_wp2_with fail; go_meet; case rel => (first | exact ⟨_, rfl, rfl, Blk.new _ _ _, hb.alloc _⟩ | exact ⟨_, rfl, rfl, zt.lay2 _ _, (hb.new (Nat.le_refl _) _ _).new (Nat.le_refl _) _ _⟩ | trace_state))
            case rest =>
              obtain ⟨N, rfl, rfl, hbn, hk⟩ := hcut
              have HKC := Lib.hid (HM.out.tr hk)
              have hbs := HBS.out.kp hk id
              obtain ⟨s0, s1, s2, s3⟩ := hbs.two
              obtain ⟨n0, n1, n2, n3⟩ := hbn.two
              have HBS2 := Lib.hid hbs
              clear hk hbn hbs hsr
              by_cases hy : y3 = 0
              · subst hy
                go_wp2_with fail
                go_roundw
                case rel =>
                  exact ⟨q + 1, y1, y2, by go_num, by omega, HST.out rfl, (HKC.out.new (Nat.le_of_eq HSS.out) _ _).new (Nat.le_of_eq HSS.out) _ _, HBS2.out.lay2 _ _⟩
                case measure => simp [intOf]; omega
              · have e5 : (y3 != 0) = true := by simp [hy]
                go_wp2
                go_ret
                exact ⟨rfl, HK.out.tr HKC.out⟩
          · obtain rfl : q = k := by omega
            have he := HE.out sn sd HI2.out
            injection he with h1 h2
            injection h2 with h2 h3
            subst h1 h2 h3
            obtain ⟨s0, s1, s2, s3⟩ := HBS.out.two
            obtain ⟨y0, y1, y2, y3⟩ := (HX.out.kp HM.out id).two
            go_wp2
            go_ret
            exact ⟨rfl, HK.out.tr HM.out⟩
end Go.Proofs.Ythefkomalakfeaa.W
