/-
  ratio: a fraction as a ratio, Sum, Add, Sub: what they return. Condition: the parts are ints.
-/
import Derived.Test.YthefkomalakfeaaQF
namespace Go.Proofs.Ythefkomalakfeaa.W
open Go.RowKit Go.Proofs.Ythefkomalakfeaa.Q

set_option maxRecDepth 100000 in
set_option maxHeartbeats 3200000 in
theorem fratio_any (q : Rat) (v : Value) (w : World) (hq : FQ w v q) :
    Calls Try.prog 51 #[v] w fun e w' => e = .returned (resV (out q)) ∧ Nw w w' := by
  obtain ⟨s, A, k, c, A2, k2, c2, rfl, hX, hs, hD⟩ := hq
  have hw1 := fun w1 h1 => word_any q.num.natAbs (.slice A k c) w1 h1
  have hw2 := fun w1 h1 => word_any q.den (.slice A2 k2 c2) w1 h1
  have ho := out_low q s q.num.natAbs q.den rfl rfl (fun h => hs (by omega))
  have hl := fun N D w1 h1 h2 => lowest_any s N D h1 h2 w1
  have hB := blk2' w 62 23 #[.bool s, .slice A k c, .slice A2 k2 c2] #[.int .i64 0, .int .i64 0]
  generalize q.num.natAbs = N at *
  generalize q.den = D at *
  obtain ⟨b0, b1, b2, _⟩ := Blk.three hB.1
  have HB := Lib.hid hB
  have HO := Lib.hid ho
  have HK := Lib.hid (((nw_alloc w (.cells #[.bool s, .slice A k c, .slice A2 k2 c2] 62)).alloc (.cells #[.int .i64 0, .int .i64 0] 23)))
  have HX := Lib.hid (hX.nw HK.out)
  have HD := Lib.hid (hD.nw HK.out)
  clear hB ho hX hD hs b0 b1 b2
  by_cases h1 : N < 18446744073709551616
  · have e1 : decide (N < 18446744073709551616) = true := decide_eq_true h1
    rw [if_pos h1, e1] at hw1
    by_cases h2 : D < 18446744073709551616
    · have e2 : decide (D < 18446744073709551616) = true := decide_eq_true h2
      rw [if_pos h2, e2] at hw2
      have hl := fun w1 => hl N D w1 h1 h2
      clear h1 h2 e1 e2
      go_enter Try.func51, Try.ntmps51
      go_wp2_with fail
      refine (hw1 _ HX.out).mono ?_
      rintro e w1 ⟨rfl, rfl⟩
      go_wp2_with fail
      refine (hw2 _ HD.out).mono ?_
      rintro e w1 ⟨rfl, rfl⟩
      go_wp2_with fail
      refine (hl _).mono ?_
      rintro e w1 ⟨rfl, hk1⟩
      obtain ⟨t0, t1, t2, t3⟩ := (HB.out.2.kp hk1 id).two
      go_wp2
      exact bodyPost_ret (v := resV (lowR s N D)) (by simp [results, Try.results51, go_sem, t0, t1]) rfl ⟨by rw [HO.out], ((HK.out.tr hk1).new (by omega) _ _).new (by omega) _ _⟩
    · have e2 : decide (D < 18446744073709551616) = false := decide_eq_false h2
      rw [if_neg h2, e2] at hw2
      rw [show out q = (0, 0, 2) by rw [HO.out]; exact low_big _ _ _ (.inr (by omega))]
      clear h1 h2 e1 e2 hl
      go_enter Try.func51, Try.ntmps51
      go_wp2_with fail
      refine (hw1 _ HX.out).mono ?_
      rintro e w1 ⟨rfl, rfl⟩
      go_wp2_with fail
      refine (hw2 _ HD.out).mono ?_
      rintro e w1 ⟨rfl, rfl⟩
      go_wp2
      exact bodyPost_ret (v := resV (0, 0, 2)) (by simp [results, Try.results51, go_sem]) rfl ⟨rfl, HK.out⟩
  · have e1 : decide (N < 18446744073709551616) = false := decide_eq_false h1
    rw [if_neg h1, e1] at hw1
    rw [show out q = (0, 0, 2) by rw [HO.out]; exact low_big _ _ _ (.inl (by omega))]
    clear h1 e1 hl
    obtain ⟨x2, hx2⟩ : ∃ x, (if D < 18446744073709551616 then D else 0) = x := ⟨_, rfl⟩
    obtain ⟨y2, hy2⟩ : ∃ x, decide (D < 18446744073709551616) = x := ⟨_, rfl⟩
    rw [hx2, hy2] at hw2
    clear hx2 hy2
    go_enter Try.func51, Try.ntmps51
    go_wp2_with fail
    refine (hw1 _ HX.out).mono ?_
    rintro e w1 ⟨rfl, rfl⟩
    go_wp2_with fail
    refine (hw2 _ HD.out).mono ?_
    rintro e w1 ⟨rfl, rfl⟩
    go_wp2
    exact bodyPost_ret (v := resV (0, 0, 2)) (by simp [results, Try.results51, go_sem]) rfl ⟨rfl, HK.out⟩

/-- the cells of a list of ratios -/
def rtC (p : Int × Int) : List Value := [.int .i64 p.1, .int .i64 p.2]
/-- the list reads as these ratios -/
abbrev SrcR (w : World) (v : Value) (l : List (Int × Int)) : Prop := Src w 2 v l.length (l.flatMap rtC)
theorem flatR_at (l : List (Int × Int)) (k : Nat) (p : Int × Int) (h : l[k]? = some p) : (l.flatMap rtC)[k * 2]? = some (.int .i64 p.1) ∧ (l.flatMap rtC)[k * 2 + 1]? = some (.int .i64 p.2) := by
  induction l generalizing k with
  | nil => cases h
  | cons x r ih =>
    cases k with
    | zero =>
      rw [List.getElem?_cons_zero] at h
      obtain rfl := Option.some.inj h
      exact ⟨rfl, rfl⟩
    | succ k =>
      rw [List.getElem?_cons_succ] at h
      have := ih k h
      rw [List.flatMap_cons]
      have e : rtC x = [.int .i64 x.1, .int .i64 x.2] := rfl
      rw [e]
      refine ⟨?_, ?_⟩
      · rw [show (k + 1) * 2 = k * 2 + 1 + 1 by omega]
        exact this.1
      · rw [show (k + 1) * 2 + 1 = k * 2 + 1 + 1 + 1 by omega]
        exact this.2
/-- ints, all of them -/
def Ints (l : List (Int × Int)) : Prop := ∀ p ∈ l, I64 p.1 ∧ I64 p.2
theorem total_take (l : List Rat) (k : Nat) (x : Rat) (h : l[k]? = some x) : total (l.take (k + 1)) = total (l.take k) + x := by
  obtain ⟨h1, h2⟩ := List.getElem?_eq_some_iff.1 h
  unfold total
  rw [List.take_add_one, h, Option.toList_some, List.foldl_append]
  rfl
/-- sums are bounded -/
theorem sum_bound (q : Rat) (n d : Int) (h : Vld n d) : (q + Rat.divInt n d).num.natAbs + (q + Rat.divInt n d).den ≤ (q.num.natAbs + q.den) * 9223372036854775808 := by
  obtain ⟨D1, D2, g1, g2, f1, c1, c2, wn, ws, wd⟩ := plus_way q n d h
  obtain ⟨n1, n2⟩ := vld_n h
  rw [wn, wd]
  have hf : q.den / Nat.gcd q.den d.natAbs ≤ q.den := Nat.div_le_self _ _
  have hu : d.natAbs / Nat.gcd q.den d.natAbs ≤ 4611686018427387904 := Nat.le_trans (Nat.div_le_self _ _) D2
  have hm := Int.natAbs_add_le (q.num * (d.natAbs / Nat.gcd q.den d.natAbs : Nat)) (n * (q.den / Nat.gcd q.den d.natAbs : Nat))
  rw [Int.natAbs_mul, Int.natAbs_mul, Int.natAbs_natCast, Int.natAbs_natCast] at hm
  have t1 := Nat.mul_le_mul_left q.num.natAbs hu
  have t2 := Nat.mul_le_mul (show n.natAbs ≤ 4611686018427387904 by omega) hf
  generalize (q.num * (d.natAbs / Nat.gcd q.den d.natAbs : Nat) + n * (q.den / Nat.gcd q.den d.natAbs : Nat)).natAbs = m at *
  have t3 : m / Nat.gcd m (Nat.gcd q.den d.natAbs) ≤ m := Nat.div_le_self _ _
  have t4 : d.natAbs / Nat.gcd m (Nat.gcd q.den d.natAbs) ≤ 4611686018427387904 := Nat.le_trans (Nat.div_le_self _ _) D2
  have t5 := Nat.mul_le_mul hf t4
  generalize q.num.natAbs * (d.natAbs / Nat.gcd q.den d.natAbs) = p1 at *
  generalize n.natAbs * (q.den / Nat.gcd q.den d.natAbs) = p2 at *
  generalize q.den / Nat.gcd q.den d.natAbs * (d.natAbs / Nat.gcd m (Nat.gcd q.den d.natAbs)) = p3 at *
  generalize m / Nat.gcd m (Nat.gcd q.den d.natAbs) = p4 at *
  omega
theorem few_pow {N k : Nat} (h : N ≤ 9223372036854775808 ^ k) (hk : k ≤ 2000) : Few (N * 4611686018427387904) := by
  have h1 : (9223372036854775808 : Nat) ^ k ≤ B64 ^ k := Nat.pow_le_pow_left (by rw [b64_eq]; omega) k
  have h2 : B64 ^ k * 4611686018427387904 < B64 ^ (k + 1) := by
    rw [Nat.pow_succ]
    exact (Nat.mul_lt_mul_left (b64_pos k)).2 (by rw [b64_eq]; omega)
  exact few_of (Nat.lt_of_le_of_lt (Nat.mul_le_mul_right _ (Nat.le_trans h h1)) h2) (by omega)

set_option maxRecDepth 100000 in
set_option maxHeartbeats 3200000 in
theorem sum_any (l : List (Int × Int)) (v : Value) (w : World) (hv : SrcR w v l) (hi : Ints l) (hlen : l.length ≤ 1099511627776) :
    Calls Try.prog 33 #[v] w fun e w' => e = .returned (resV (sumR l)) ∧ Nw w w' := by
  obtain ⟨hl, A, c, rfl, hnc, hcm, hcell⟩ := hv
  obtain ⟨n, hn⟩ : ∃ n, l.length = n := ⟨_, rfl⟩
  rw [hn] at hlen hnc hcell hl ⊢
  have hr : sumR l = if ∀ p ∈ l, Vld p.1 p.2 then if 1000 < n then (0, 0, 9) else out (total (l.map fun p => Rat.divInt p.1 p.2)) else (0, 0, 1) := by rw [← hn]; rfl
  have HN := Lib.hid hn
  have HR := Lib.hid hr
  have HC := Lib.hid hcell
  have HI := Lib.hid hi
  have HL := Lib.hid hlen
  have HB := Lib.hid (blk1 w 23 #[.int .i64 0, .int .i64 0])
  have HK := Lib.hid (nw_alloc w (.cells #[.int .i64 0, .int .i64 0] 23))
  clear hl hn hr hcell hi hlen hcm hnc
  go_enter Try.func33, Try.ntmps33
  go_wp2
  go_loopw [11] (fun i wr => ∃ k : Nat, i = .int .i64 k ∧ k ≤ n ∧ (∀ p ∈ l.take k, Vld p.1 p.2) ∧ Nw (w.alloc (.cells #[.int .i64 0, .int .i64 0] 23)) wr) (fun i _ => n - (intOf i).toNat)
  case atStart => exact ⟨0, rfl, Nat.zero_le _, by simp, Kp.refl _ _⟩
  case round =>
    obtain ⟨k, rfl, hk, hval, hnw⟩ := hrel
    have HV := Lib.hid hval
    have HK1 := Lib.hid hnw
    clear hval hnw
    have i3 : (0 : Int) ≤ (k : Int) := by omega
    by_cases hkn : k < n
    · have i4 : (k : Int) < (n : Int) := by omega
      have e2 : IntKind.i64.wrap ((k : Int) + 1) = (k : Int) + 1 := by rw [IntKind.wrap_i64]; have := HL.out; omega
      obtain ⟨g, o, rfl, hb, hc⟩ := HC.out (by omega)
      obtain ⟨⟨a, b⟩, hx⟩ : ∃ x, l[k]? = some x := ⟨l[k]'(by rw [HN.out]; omega), List.getElem?_eq_getElem _⟩
      obtain ⟨f1, f2⟩ := flatR_at l k (a, b) hx
      have q0 := ((HK.out.tr HK1.out).cell (p := ⟨g, o + k * 2, none⟩) hb id).trans (hc _ _ f1)
      have q1 := ((HK.out.tr HK1.out).cell (p := ⟨g, o + (k * 2 + 1), none⟩) hb id).trans (hc _ _ f2)
      have q1 : wr.cell? ⟨g, o + k * 2 + 1, none⟩ = some (.int .i64 b) := q1
      have hab := HI.out (a, b) (List.mem_of_getElem? hx)
      have hva := fun w1 => valid_any a b hab.1 hab.2 w1
      have HX := Lib.hid hx
      clear hc f1 f2 hab hx
      by_cases hv : Vld a b
      · rw [decide_eq_true hv] at hva
        have HVV := Lib.hid hv
        clear hv
        go_wp2_with fail
        refine (hva _).mono ?_
        rintro e w1 ⟨rfl, hk1⟩
        go_wp2_with fail
        go_roundw
        case rel =>
          refine ⟨k + 1, by go_num, by omega, ?_, (HK1.out.alloc _).tr hk1⟩
          rw [List.take_add_one, HX.out]
          intro p hp
          rcases List.mem_append.1 hp with h | h
          · exact HV.out p h
          · rw [Option.toList_some, List.mem_singleton] at h
            rw [h]
            exact HVV.out
        case measure => simp [intOf]; omega
      · rw [decide_eq_false hv] at hva
        have hr : sumR l = (0, 0, 1) := by rw [HR.out, if_neg]; exact fun h => hv (h (a, b) (List.mem_of_getElem? HX.out))
        have HR2 := Lib.hid hr
        clear hv hr
        go_wp2_with fail
        refine (hva _).mono ?_
        rintro e w1 ⟨rfl, hk1⟩
        obtain ⟨t0, t1, t2, t3⟩ := (HB.out.kp ((HK1.out.alloc _).tr hk1) id).two
        go_wp2
        exact bodyPost_ret (v := resV (0, 0, 1)) (by simp [results, Try.results33, go_sem, t0, t1]) rfl ⟨by rw [HR2.out], ((HK.out.tr ((HK1.out.alloc _).tr hk1)).new (Nat.le_refl _) _ _).new (Nat.le_refl _) _ _⟩
    · obtain rfl : k = n := by omega
      have hall : ∀ p ∈ l, Vld p.1 p.2 := by
        have h := HV.out
        rw [List.take_of_length_le (by rw [HN.out]; exact Nat.le_refl _)] at h
        exact h
      have hr := HR.out
      rw [if_pos hall] at hr
      have HALL := Lib.hid hall
      clear hall
      obtain ⟨t0, t1, t2, t3⟩ := (HB.out.kp HK1.out id).two
      by_cases hbig : 1000 < k
      · rw [if_pos hbig] at hr
        have HR2 := Lib.hid hr
        have e3 : decide ((k : Int) > 1000) = true := decide_eq_true (by omega)
        clear hr
        go_wp2_with fail
        exact bodyPost_ret (v := resV (0, 0, 9)) (by simp [results, Try.results33, go_sem, t0, t1]) rfl ⟨by rw [HR2.out], ((HK.out.tr HK1.out).new (Nat.le_refl _) _ _).new (Nat.le_refl _) _ _⟩
      · rw [if_neg hbig] at hr
        have HR2 := Lib.hid hr
        have e3 : decide ((k : Int) > 1000) = false := decide_eq_false (by omega)
        clear hr
        have hk1 := HK1.out
        obtain ⟨S, hS⟩ : ∃ S, wr.heap.size + 1 = S := ⟨_, rfl⟩
        obtain ⟨W2, hW2⟩ : ∃ W2, (wr.alloc (.cells #[.int .u64 1] 48)).alloc (.cells #[.bool false, .slice none 0 0, .slice (some ⟨wr.heap.size, 0, none⟩) 1 1] 62) = W2 := ⟨_, rfl⟩
        have hb1 : Blk W2 S 62 #[.bool false, .slice none 0 0, .slice (some ⟨wr.heap.size, 0, none⟩) 1 1] := by
          rw [← hW2, ← hS]
          exact Blk.new_at _ _ _ (by simp)
        have hone : RowN W2 wr.heap.size [1] := by
          rw [← hW2]
          exact (Blk.new wr _ _).alloc _
        have hq0 : FQ W2 (.agg #[.bool false, .slice none 0 0, .slice (some ⟨wr.heap.size, 0, none⟩) 1 1]) (total ((l.map fun p => Rat.divInt p.1 p.2).take 0)) := by
          refine ⟨false, none, 0, 0, _, 1, 1, rfl, ⟨[], natV_nil _ _ _ (Nat.zero_le _), wds_nil, cut_nil, rfl, ?_⟩, fun h => absurd rfl h, ⟨[1], RowN.natV hone (by simp), Wds.one (by rw [b64_eq]; omega), by unfold Cut; simp, ?_, RowN.tyW hone 1 1⟩⟩
          · intro g hg
            cases hg
          · simp [num, total]
        have hkw : Nw (w.alloc (.cells #[.int .i64 0, .int .i64 0] 23)) W2 := by
          rw [← hW2]
          exact (hk1.alloc _).alloc _
        have hSw : w.heap.size < S := by have := hk1.size; simp at this; omega
        have H1 := Lib.hid hb1
        have H2 := Lib.hid hq0
        have HKW := Lib.hid hkw
        have HSW := Lib.hid hSw
        have HS := Lib.hid hS
        have HW2 := Lib.hid hW2
        clear hb1 hone hq0 hkw hk1 hSw t0 t1 t2 t3
        go_wp2_with fail
        clear hS hW2
        go_loopw [28] (fun i wx => ∃ (k1 : Nat) (s : Bool) (A1 : Option Addr) (n1 c1 : Nat) (A2 : Option Addr) (n2 c2 : Nat), i = .int .i64 k1 ∧ k1 ≤ k ∧ Blk wx S 62 #[.bool s, .slice A1 n1 c1, .slice A2 n2 c2] ∧ FQ wx (.agg #[.bool s, .slice A1 n1 c1, .slice A2 n2 c2]) (total ((l.map fun p => Rat.divInt p.1 p.2).take k1)) ∧ (total ((l.map fun p => Rat.divInt p.1 p.2).take k1)).num.natAbs + (total ((l.map fun p => Rat.divInt p.1 p.2).take k1)).den ≤ 9223372036854775808 ^ k1 ∧ Kp (fun b => b = S) W2 wx) (fun i _ => k - (intOf i).toNat)
        case atStart => exact ⟨0, _, _, _, _, _, _, _, rfl, Nat.zero_le _, H1.out, H2.out, by simp [total], Kp.refl _ _⟩
        case round =>
          obtain ⟨k1, s, A1, n1, c1, A2, n2, c2, rfl, hk1, hb, hq, hbd, hkx⟩ := hrel
          have HBX := Lib.hid hb
          have HQ := Lib.hid hq
          have HBD := Lib.hid hbd
          have HKX := Lib.hid hkx
          obtain ⟨p0, p1, p2, _⟩ := Blk.three hb
          clear hb hq hbd hkx
          have i3 : (0 : Int) ≤ (k1 : Int) := by omega
          by_cases hkn : k1 < k
          · have i4 : (k1 : Int) < (k : Int) := by omega
            have e2 : IntKind.i64.wrap ((k1 : Int) + 1) = (k1 : Int) + 1 := by rw [IntKind.wrap_i64]; have := HL.out; omega
            obtain ⟨g, o, rfl, hb, hc⟩ := HC.out (by omega)
            obtain ⟨⟨a, b⟩, hx⟩ : ∃ x, l[k1]? = some x := ⟨l[k1]'(by rw [HN.out]; omega), List.getElem?_eq_getElem _⟩
            obtain ⟨f1, f2⟩ := flatR_at l k1 (a, b) hx
            have hg2 : g < W2.heap.size := Nat.lt_of_lt_of_le hb (HK.out.tr HKW.out).size
            have hgS : ¬ g = S := Nat.ne_of_lt (Nat.lt_trans hb HSW.out)
            have q0 := ((HKX.out.cell (p := ⟨g, o + k1 * 2, none⟩) hg2 hgS).trans ((HK.out.tr HKW.out).cell (p := ⟨g, o + k1 * 2, none⟩) hb id)).trans (hc _ _ f1)
            have q1 := ((HKX.out.cell (p := ⟨g, o + (k1 * 2 + 1), none⟩) hg2 hgS).trans ((HK.out.tr HKW.out).cell (p := ⟨g, o + (k1 * 2 + 1), none⟩) hb id)).trans (hc _ _ f2)
            have q1 : wr.cell? ⟨g, o + k1 * 2 + 1, none⟩ = some (.int .i64 b) := q1
            have hvab : Vld a b := HALL.out (a, b) (List.mem_of_getElem? hx)
            have htk : total ((l.map fun p => Rat.divInt p.1 p.2).take (k1 + 1)) = total ((l.map fun p => Rat.divInt p.1 p.2).take k1) + Rat.divInt a b := total_take _ _ _ (by rw [List.getElem?_map, hx]; rfl)
            obtain ⟨q, hqq⟩ : ∃ q, total ((l.map fun p => Rat.divInt p.1 p.2).take k1) = q := ⟨_, rfl⟩
            have hq := HQ.out
            have hbd := HBD.out
            rw [hqq] at hq hbd htk
            have hfp := fplus_any q a b (.agg #[.bool s, .slice A1 n1 c1, .slice A2 n2 c2]) _ hvab (hq.nw (nw_alloc wr (.cells #[.int .i64 a, .int .i64 b] 23))) (few_pow hbd (by omega))
            have hsb := sum_bound q a b hvab
            have hbd2 : (q + Rat.divInt a b).num.natAbs + (q + Rat.divInt a b).den ≤ 9223372036854775808 ^ (k1 + 1) := Nat.le_trans hsb (by rw [Nat.pow_succ]; exact Nat.mul_le_mul_right _ hbd)
            have HFP := Lib.hid hfp
            have HT := Lib.hid (And.intro htk hbd2)
            obtain ⟨p0, p1, p2, _⟩ := Blk.three (HBX.out.alloc (.cells #[.int .i64 a, .int .i64 b] 23))
            clear hc f1 f2 hg2 hgS hvab htk hqq hq hbd hfp hsb hbd2 hx
            go_wp2_with fail
            refine HFP.out.mono ?_
            rintro e w7 ⟨v7, rfl, ⟨s', A1', n1', c1', A2', n2', c2', rfl, hX', hs', hD'⟩, hk7⟩
            have hb7 := (HBX.out.alloc (.cells #[.int .i64 a, .int .i64 b] 23)).kp hk7 id
            obtain ⟨p0, p1, p2, p3, p4, p5⟩ := Blk.three hb7
            have HB7 := Lib.hid hb7
            clear hb7
            go_wp2_with fail
            go_roundw
            case rel =>
              refine ⟨k1 + 1, s', A1', n1', c1', A2', n2', c2', by go_num, by omega, ?_, ?_, ?_, ?_⟩
              · exact ((HB7.out.set_ 0 (.bool s')).set_ 1 (.slice A1' n1' c1')).set_ 2 (.slice A2' n2' c2')
              · rw [HT.out.1]
                exact ⟨s', A1', n1', c1', A2', n2', c2', rfl, hX'.three_ HB7.out (Kp.refl _ _) _ _ _ (by decide), hs', hD'.three_ HB7.out (Kp.refl _ _) _ _ _ (by decide)⟩
              · rw [HT.out.1]
                exact HT.out.2
              · exact ((HKX.out.alloc _).trans hk7 (fun _ _ e => e.elim)).tr (kp_three w7 S _ _ _)
            case measure => simp [intOf]; omega
          · obtain rfl : k1 = k := by omega
            have hq := HQ.out
            rw [List.take_of_length_le (by rw [List.length_map, HN.out]; exact Nat.le_refl _)] at hq
            have hfr := fratio_any _ _ _ hq
            rw [← HR2.out] at hfr
            have hbr : Blk wr w.heap.size 23 #[.int .i64 0, .int .i64 0] := (HB.out.kp HKW.out id).kp HKX.out (Nat.ne_of_lt HSW.out)
            have HFR := Lib.hid hfr
            have HBR := Lib.hid hbr
            clear hq hfr hbr
            go_wp2_with fail
            refine HFR.out.mono ?_
            rintro e w7 ⟨rfl, hk7⟩
            obtain ⟨t0, t1, t2, t3⟩ := (HBR.out.kp hk7 id).two
            go_wp2
            refine bodyPost_ret (v := resV (sumR l)) (by simp [results, Try.results33, go_sem, t0, t1]) rfl ⟨rfl, ?_⟩
            have h1 : Nw w wr := (HK.out.tr HKW.out).trans HKX.out (fun i hi e => by have := HSW.out; omega)
            exact ((h1.tr hk7).new (Nat.le_refl _) _ _).new (Nat.le_refl _) _ _
end Go.Proofs.Ythefkomalakfeaa.W
