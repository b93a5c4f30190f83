/-
  The reference's Sum: what it returns. Condition: the parts are ints.
-/
import Derived.Test.YthefkomalakfeaaRNo
import Derived.Test.YthefkomalakfeaaQS
namespace Go.Proofs.Ythefkomalakfeaa.W
open Go.RowKit Go.Proofs.Ythefkomalakfeaa.Q

theorem few_sum {q : Rat} {a b : Int} {k : Nat} (h : Vld a b) (hb : q.num.natAbs + q.den ≤ 9223372036854775808 ^ k) (hk : k ≤ 2000) : FewD (3 * (q.num.natAbs * (Rat.divInt a b).den + (Rat.divInt a b).num.natAbs * q.den + q.den * (Rat.divInt a b).den) + 2) := by
  obtain ⟨f1, f2⟩ := (good_div h).2.2
  rw [top_eq] at f1 f2
  have t1 := Nat.mul_le_mul_left q.num.natAbs f2
  have t2 := Nat.mul_le_mul_right q.den f1
  have t3 := Nat.mul_le_mul_left q.den f2
  have h1 : (9223372036854775808 : Nat) ^ k ≤ B15 ^ (5 * k) := by rw [Nat.pow_mul]; exact Nat.pow_le_pow_left (by rw [b15_eq]; omega) k
  have h2 : B15 ^ (5 * k) * B15 ^ 5 = B15 ^ (5 * k + 5) := (Nat.pow_add _ _ _).symm
  have h3 := b15_pos (5 * k)
  have h4 := Nat.mul_le_mul_right (B15 ^ 5) (Nat.le_refl (B15 ^ (5 * k)))
  refine dfew_of (m := 5 * k + 5) ?_ (by omega)
  rw [← h2]
  have h5 : B15 ^ 5 = 37778931862957161709568 := by rw [b15_eq]
  rw [h5]
  generalize B15 ^ (5 * k) = X at *
  omega

theorem few_end {N k : Nat} (hb : N ≤ 9223372036854775808 ^ k) (hk : k ≤ 2000) : FewD (3 * N + 2) := by
  have h1 : (9223372036854775808 : Nat) ^ k ≤ B15 ^ (5 * k) := by rw [Nat.pow_mul]; exact Nat.pow_le_pow_left (by rw [b15_eq]; omega) k
  have h2 : B15 ^ (5 * k) * B15 ^ 5 = B15 ^ (5 * k + 5) := (Nat.pow_add _ _ _).symm
  have h3 := b15_pos (5 * k)
  refine dfew_of (m := 5 * k + 5) ?_ (by omega)
  rw [← h2]
  have h5 : B15 ^ 5 = 37778931862957161709568 := by rw [b15_eq]
  rw [h5]
  generalize B15 ^ (5 * k) = X at *
  omega

set_option maxRecDepth 100000 in
set_option maxHeartbeats 3200000 in
theorem refSum_any (l : List (Int × Int)) (v : Value) (w : World) (hv : SrcR w v l) (hi : Ints l) (hlen : l.length ≤ 1099511627776) :
    Calls Try.prog 34 #[v] w fun e w' => e = .returned (resV (sumR l)) ∧ Nw w w' := by
  obtain ⟨hl, A, c, rfl, hnc, hcm, hcell⟩ := hv
  obtain ⟨n, hn⟩ : ∃ n, l.length = n := ⟨_, rfl⟩
  rw [hn] at hlen hnc hcell hl ⊢
  have hr : sumR l = if ∀ p ∈ l, Vld p.1 p.2 then if 1000 < n then (0, 0, 9) else out (total (l.map fun p => Rat.divInt p.1 p.2)) else (0, 0, 1) := by rw [← hn]; rfl
  have HN := Lib.hid hn
  have HR := Lib.hid hr
  have HC := Lib.hid hcell
  have HI := Lib.hid hi
  have HL := Lib.hid hlen
  have HB := Lib.hid (blk1 w 23 #[.int .i64 0, .int .i64 0])
  have HK := Lib.hid (nw_alloc w (.cells #[.int .i64 0, .int .i64 0] 23))
  clear hl hn hr hcell hi hlen hcm hnc
  go_enter Try.func34, Try.ntmps34
  go_wp2
  go_loopw [4] (fun i wr => ∃ k : Nat, i = .int .i64 k ∧ k ≤ n ∧ (∀ p ∈ l.take k, Vld p.1 p.2) ∧ Nw (w.alloc (.cells #[.int .i64 0, .int .i64 0] 23)) wr) (fun i _ => n - (intOf i).toNat)
  case atStart => exact ⟨0, rfl, Nat.zero_le _, by simp, Kp.refl _ _⟩
  case round =>
    obtain ⟨k, rfl, hk, hval, hnw⟩ := hrel
    have HV := Lib.hid hval
    have HK1 := Lib.hid hnw
    clear hval hnw
    have i3 : (0 : Int) ≤ (k : Int) := by omega
    by_cases hkn : k < n
    · have i4 : (k : Int) < (n : Int) := by omega
      have e2 : IntKind.i64.wrap ((k : Int) + 1) = (k : Int) + 1 := by rw [IntKind.wrap_i64]; have := HL.out; omega
      obtain ⟨g, o, rfl, hb, hc⟩ := HC.out (by omega)
      obtain ⟨⟨a, b⟩, hx⟩ : ∃ x, l[k]? = some x := ⟨l[k]'(by rw [HN.out]; omega), List.getElem?_eq_getElem _⟩
      obtain ⟨f1, f2⟩ := flatR_at l k (a, b) hx
      have q0 := ((HK.out.tr HK1.out).cell (p := ⟨g, o + k * 2, none⟩) hb id).trans (hc _ _ f1)
      have q1 := ((HK.out.tr HK1.out).cell (p := ⟨g, o + (k * 2 + 1), none⟩) hb id).trans (hc _ _ f2)
      have q1 : wr.cell? ⟨g, o + k * 2 + 1, none⟩ = some (.int .i64 b) := q1
      have hab := HI.out (a, b) (List.mem_of_getElem? hx)
      have hva := fun w1 => refValid_any a b hab.1 hab.2 w1
      have HX := Lib.hid hx
      clear hc f1 f2 hab hx
      by_cases hv : Vld a b
      · rw [decide_eq_true hv] at hva
        have HVV := Lib.hid hv
        clear hv
        go_wp2_with fail
        refine (hva _).mono ?_
        rintro e w1 ⟨rfl, hk1⟩
        go_wp2_with fail
        go_roundw
        case rel =>
          refine ⟨k + 1, by go_num, by omega, ?_, HK1.out.tr hk1⟩
          rw [List.take_add_one, HX.out]
          intro p hp
          rcases List.mem_append.1 hp with h | h
          · exact HV.out p h
          · rw [Option.toList_some, List.mem_singleton] at h
            rw [h]
            exact HVV.out
        case measure => simp [intOf]; omega
      · rw [decide_eq_false hv] at hva
        have hr : sumR l = (0, 0, 1) := by rw [HR.out, if_neg]; exact fun h => hv (h (a, b) (List.mem_of_getElem? HX.out))
        have HR2 := Lib.hid hr
        clear hv hr
        go_wp2_with fail
        refine (hva _).mono ?_
        rintro e w1 ⟨rfl, hk1⟩
        obtain ⟨t0, t1, t2, t3⟩ := (HB.out.kp (HK1.out.tr hk1) id).two
        go_wp2
        exact bodyPost_ret (v := resV (0, 0, 1)) (by simp [results, Try.results34, go_sem, t0, t1]) rfl ⟨by rw [HR2.out], ((HK.out.tr (HK1.out.tr hk1)).new (Nat.le_refl _) _ _).new (Nat.le_refl _) _ _⟩
    · obtain rfl : k = n := by omega
      have hall : ∀ p ∈ l, Vld p.1 p.2 := by
        have h := HV.out
        rw [List.take_of_length_le (by rw [HN.out]; exact Nat.le_refl _)] at h
        exact h
      have hr := HR.out
      rw [if_pos hall] at hr
      have HALL := Lib.hid hall
      clear hall
      obtain ⟨t0, t1, t2, t3⟩ := (HB.out.kp HK1.out id).two
      by_cases hbig : 1000 < k
      · rw [if_pos hbig] at hr
        have HR2 := Lib.hid hr
        have e3 : decide ((k : Int) > 1000) = true := decide_eq_true (by omega)
        clear hr
        go_wp2_with fail
        exact bodyPost_ret (v := resV (0, 0, 9)) (by simp [results, Try.results34, go_sem, t0, t1]) rfl ⟨by rw [HR2.out], ((HK.out.tr HK1.out).new (Nat.le_refl _) _ _).new (Nat.le_refl _) _ _⟩
      · rw [if_neg hbig] at hr
        have HR2 := Lib.hid hr
        have e3 : decide ((k : Int) > 1000) = false := decide_eq_false (by omega)
        clear hr
        have hk1 := HK1.out
        have hk1 := HK1.out
        obtain ⟨S, hS⟩ : ∃ S, wr.heap.size + 1 = S := ⟨_, rfl⟩
        obtain ⟨W2, hW2⟩ : ∃ W2, (wr.alloc (.cells #[.int .i64 1] 3)).alloc (.cells #[.bool false, .slice none 0 0, .slice (some ⟨wr.heap.size, 0, none⟩) 1 1] 45) = W2 := ⟨_, rfl⟩
        have hb1 : Blk W2 S 45 #[.bool false, .slice none 0 0, .slice (some ⟨wr.heap.size, 0, none⟩) 1 1] := by
          rw [← hW2, ← hS]
          exact Blk.new_at _ _ _ (by simp)
        have hone : RowD W2 wr.heap.size [1] := by
          rw [← hW2]
          exact (Blk.new wr _ _).alloc _
        have hq0 : BR W2 (.agg #[.bool false, .slice none 0 0, .slice (some ⟨wr.heap.size, 0, none⟩) 1 1]) (total ((l.map fun p => Rat.divInt p.1 p.2).take 0)) :=
          ⟨none, 0, 0, _, 1, 1, rfl, (ownD_nil W2 0).js dwds_nil (by unfold Trm; simp), js_one hone⟩
        have hkw : Nw (w.alloc (.cells #[.int .i64 0, .int .i64 0] 23)) W2 := by
          rw [← hW2]
          exact (hk1.alloc _).alloc _
        have hSw : w.heap.size < S := by have := hk1.size; simp at this; omega
        have H1 := Lib.hid hb1
        have H2 := Lib.hid hq0
        have HKW := Lib.hid hkw
        have HSW := Lib.hid hSw
        have HS := Lib.hid hS
        have HW2 := Lib.hid hW2
        clear hb1 hone hq0 hkw hk1 hSw t0 t1 t2 t3
        go_wp2_with fail
        clear hS hW2
        go_loopw [6] (fun i wx => ∃ (k1 : Nat) (s : Bool) (A1 : Option Addr) (n1 c1 : Nat) (A2 : Option Addr) (n2 c2 : Nat), i = .int .i64 k1 ∧ k1 ≤ k ∧ Blk wx S 45 #[.bool s, .slice A1 n1 c1, .slice A2 n2 c2] ∧ BR wx (.agg #[.bool s, .slice A1 n1 c1, .slice A2 n2 c2]) (total ((l.map fun p => Rat.divInt p.1 p.2).take k1)) ∧ (total ((l.map fun p => Rat.divInt p.1 p.2).take k1)).num.natAbs + (total ((l.map fun p => Rat.divInt p.1 p.2).take k1)).den ≤ 9223372036854775808 ^ k1 ∧ Kp (fun b => b = S) W2 wx) (fun i _ => k - (intOf i).toNat)
        case atStart => exact ⟨0, _, _, _, _, _, _, _, rfl, Nat.zero_le _, H1.out, H2.out, by simp [total], Kp.refl _ _⟩
        case round =>
          obtain ⟨k1, s, A1, n1, c1, A2, n2, c2, rfl, hk1, hb, hq, hbd, hkx⟩ := hrel
          have HBX := Lib.hid hb
          have HQ := Lib.hid hq
          have HBD := Lib.hid hbd
          have HKX := Lib.hid hkx
          obtain ⟨p0, p1, p2, _⟩ := Blk.three hb
          clear hb hq hbd hkx
          have i3 : (0 : Int) ≤ (k1 : Int) := by omega
          by_cases hkn : k1 < k
          · have i4 : (k1 : Int) < (k : Int) := by omega
            have e2 : IntKind.i64.wrap ((k1 : Int) + 1) = (k1 : Int) + 1 := by rw [IntKind.wrap_i64]; have := HL.out; omega
            obtain ⟨g, o, rfl, hb, hc⟩ := HC.out (by omega)
            obtain ⟨⟨a, b⟩, hx⟩ : ∃ x, l[k1]? = some x := ⟨l[k1]'(by rw [HN.out]; omega), List.getElem?_eq_getElem _⟩
            obtain ⟨f1, f2⟩ := flatR_at l k1 (a, b) hx
            have hg2 : g < W2.heap.size := Nat.lt_of_lt_of_le hb (HK.out.tr HKW.out).size
            have hgS : ¬ g = S := Nat.ne_of_lt (Nat.lt_trans hb HSW.out)
            have hgw : g < wr.heap.size := Nat.lt_of_lt_of_le hg2 HKX.out.size
            have q0 := ((HKX.out.cell (p := ⟨g, o + k1 * 2, none⟩) hg2 hgS).trans ((HK.out.tr HKW.out).cell (p := ⟨g, o + k1 * 2, none⟩) hb id)).trans (hc _ _ f1)
            have q1 := ((HKX.out.cell (p := ⟨g, o + (k1 * 2 + 1), none⟩) hg2 hgS).trans ((HK.out.tr HKW.out).cell (p := ⟨g, o + (k1 * 2 + 1), none⟩) hb id)).trans (hc _ _ f2)
            have q1 : wr.cell? ⟨g, o + k1 * 2 + 1, none⟩ = some (.int .i64 b) := q1
            have hvab : Vld a b := HALL.out (a, b) (List.mem_of_getElem? hx)
            have htk : total ((l.map fun p => Rat.divInt p.1 p.2).take (k1 + 1)) = total ((l.map fun p => Rat.divInt p.1 p.2).take k1) + Rat.divInt a b := total_take _ _ _ (by rw [List.getElem?_map, hx]; rfl)
            obtain ⟨q, hqq⟩ : ∃ q, total ((l.map fun p => Rat.divInt p.1 p.2).take k1) = q := ⟨_, rfl⟩
            have hq := HQ.out
            have hbd := HBD.out
            rw [hqq] at hq hbd htk
            have hwd := fun w1 => wide_rat a b hvab w1
            have hfp := fun u w1 h1 h2 => plus_rat q (Rat.divInt a b) (.agg #[.bool s, .slice A1 n1 c1, .slice A2 n2 c2]) u w1 h1 h2 (few_sum hvab hbd (by omega))
            have hsb := sum_bound q a b hvab
            have hbd2 : (q + Rat.divInt a b).num.natAbs + (q + Rat.divInt a b).den ≤ 9223372036854775808 ^ (k1 + 1) := Nat.le_trans hsb (by rw [Nat.pow_succ]; exact Nat.mul_le_mul_right _ hbd)
            have HT := Lib.hid (And.intro htk hbd2)
            have HQ2 := Lib.hid hq
            have hP : ∀ w' : World, Nw wr w' → w'.cell? (⟨S, 0, none⟩ : Addr) = some (.bool s) ∧ w'.cell? (⟨S, 1, none⟩ : Addr) = some (.slice A1 n1 c1) ∧ w'.cell? (⟨S, 2, none⟩ : Addr) = some (.slice A2 n2 c2) ∧ w'.cell? (⟨g, o + k1 * 2, none⟩ : Addr) = some (.int .i64 a) ∧ w'.cell? (⟨g, o + k1 * 2 + 1, none⟩ : Addr) = some (.int .i64 b) := fun w' h => by
              obtain ⟨x0, x1, x2, _⟩ := Blk.three (HBX.out.kp h id)
              exact ⟨x0, x1, x2, (h.cell (p := ⟨g, o + k1 * 2, none⟩) hgw id).trans q0, (h.cell (p := ⟨g, o + k1 * 2 + 1, none⟩) hgw id).trans q1⟩
            have HP := Lib.hid hP
            clear hc f1 f2 hg2 hgS hgw hvab htk hqq hq hbd hsb hbd2 hx hP
            go_wp2_with fail
            go_region_law (first
              | (go_simp; go_at_call 40; ((with_reducible refine (hwd _).mono ?_); rintro e w6 ⟨v6, rfl, hj6, hk6⟩; have hk : Nw wr w6 := (Kp.drew (Kp.refl _ _)).tr hk6; obtain ⟨s0, s1, s2, s3, s4⟩ := HP.out w6 hk))
              | (go_simp; go_at_call 39; ((with_reducible refine (hfp _ _ (HQ2.out.nw hk) hj6).mono ?_); rintro e w7 ⟨v7, rfl, ⟨A1', n1', c1', A2', n2', c2', rfl, hX', hD'⟩, hk7⟩; have hk : Nw wr w7 := hk.tr hk7; obtain ⟨y0, y1, y2, y3, y4, y5⟩ := Blk.three (HBX.out.kp hk id))))
            all_goals
              have HB7 := Lib.hid (HBX.out.kp hk id)
              go_wp2_with fail
              go_roundw
              case rel =>
                refine ⟨k1 + 1, decide ((q + Rat.divInt a b).num < 0), A1', n1', c1', A2', n2', c2', by go_num, by omega, ?_, ?_, ?_, ?_⟩
                · exact ((HB7.out.set_ 0 (.bool (decide ((q + Rat.divInt a b).num < 0)))).set_ 1 (.slice A1' n1' c1')).set_ 2 (.slice A2' n2' c2')
                · rw [HT.out.1]
                  exact ⟨A1', n1', c1', A2', n2', c2', rfl, hX'.three_ HB7.out (Kp.refl _ _) _ _ _ (by decide), hD'.three_ HB7.out (Kp.refl _ _) _ _ _ (by decide)⟩
                · rw [HT.out.1]
                  exact HT.out.2
                · exact (HKX.out.trans hk (fun _ _ e => e.elim)).tr (kp_three w7 S _ _ _)
              case measure => simp [intOf]; omega
          · obtain rfl : k1 = k := by omega
            have hq := HQ.out
            have hbd := HBD.out
            rw [List.take_of_length_le (by rw [List.length_map, HN.out]; exact Nat.le_refl _)] at hq hbd
            have hfr := narrow_rat _ _ _ hq (few_end hbd (by omega))
            rw [← HR2.out] at hfr
            have hbr : Blk wr w.heap.size 23 #[.int .i64 0, .int .i64 0] := (HB.out.kp HKW.out id).kp HKX.out (Nat.ne_of_lt HSW.out)
            have HFR := Lib.hid hfr
            have HBR := Lib.hid hbr
            clear hq hfr hbr hbd
            go_wp2_with fail
            refine HFR.out.mono ?_
            rintro e w7 ⟨rfl, hk7⟩
            obtain ⟨t0, t1, t2, t3⟩ := (HBR.out.kp hk7 id).two
            go_wp2
            refine bodyPost_ret (v := resV (sumR l)) (by simp [results, Try.results34, go_sem, t0, t1]) rfl ⟨rfl, ?_⟩
            have h1 : Nw w wr := (HK.out.tr HKW.out).trans HKX.out (fun i hi e => by have := HSW.out; omega)
            exact ((h1.tr hk7).new (Nat.le_refl _) _ _).new (Nat.le_refl _) _ _
end Go.Proofs.Ythefkomalakfeaa.W
