/-
  The reference's natAdd, natSub: what they return. Condition: at most 100000 digits; what is taken away is not greater.
-/
import Derived.Test.YthefkomalakfeaaRNb
namespace Go.Proofs.Ythefkomalakfeaa.W
open Go.RowKit Go.Proofs.Ythefkomalakfeaa.Q

theorem dnum_getD {l : List Nat} (k : Nat) : dnum (l.take (k + 1)) = dnum (l.take k) + B15 ^ k * l.getD k 0 := by
  rcases Nat.lt_or_ge k l.length with h | h
  · have hx : l[k]? = some (l[k]'h) := List.getElem?_eq_getElem h
    rw [dnum_take hx, List.getD_eq_getElem?_getD, hx]
    rfl
  · rw [List.take_of_length_le (by omega), List.take_of_length_le h, List.getD_eq_getElem?_getD, List.getElem?_eq_none h]
    simp
theorem getD_lt {l : List Nat} (h : Dgs l) (k : Nat) : l.getD k 0 < 32768 := by
  rw [List.getD_eq_getElem?_getD]
  cases hx : l[k]? with
  | none => simp
  | some x =>
    have := h.at hx
    rw [b15_eq] at this
    exact this
theorem getD_at {l : List Nat} {k : Nat} (h : k < l.length) : (dgV l)[k]? = some (.int .i64 (l.getD k 0 : Nat)) := by
  rw [dgV_at, List.getD_eq_getElem?_getD, List.getElem?_eq_getElem h]
  rfl
theorem getD_none {l : List Nat} {k : Nat} (h : ¬ k < l.length) : l.getD k 0 = 0 := by
  rw [List.getD_eq_getElem?_getD, List.getElem?_eq_none (by omega)]
  rfl
theorem wrapI (n : Nat) (h : n ≤ 9223372036854775807) : IntKind.i64.wrap (n : Int) = n := by rw [IntKind.wrap_i64]; omega
/-- a digit and what is carried, as the walk writes them -/
theorem digit_forms (t : Nat) (h : t ≤ 9223372036854775807) : IntKind.i64.wrap ((t : Int).tmod 32768) = ((t % 32768 : Nat) : Int) ∧ (t : Int).tmod 32768 = ((t % 32768 : Nat) : Int) ∧ (t : Int) % 32768 = ((t % 32768 : Nat) : Int) ∧ IntKind.i64.wrap ((t : Int).tdiv 32768) = ((t / 32768 : Nat) : Int) ∧ (t : Int).tdiv 32768 = ((t / 32768 : Nat) : Int) ∧ (t : Int) / 32768 = ((t / 32768 : Nat) : Int) := by
  have e1 : (t : Int).tmod 32768 = ((t % 32768 : Nat) : Int) := by rw [Int.tmod_eq_emod_of_nonneg (by omega)]; omega
  have e2 : (t : Int).tdiv 32768 = ((t / 32768 : Nat) : Int) := by rw [Int.tdiv_eq_ediv_of_nonneg (by omega)]; omega
  exact ⟨by rw [e1]; exact wrapI _ (by omega), e1, by omega, by rw [e2]; exact wrapI _ (by omega), e2, by omega⟩
theorem dadd_step {m a b c x y s c' i : Nat} (h : m + B15 ^ i * c = a + b) (e : c + x + y = s + B15 * c') : m + B15 ^ i * s + B15 ^ (i + 1) * c' = a + B15 ^ i * x + (b + B15 ^ i * y) := by
  have e2 : B15 ^ i * s + B15 ^ (i + 1) * c' = B15 ^ i * c + B15 ^ i * x + B15 ^ i * y := by
    rw [Nat.pow_succ, Nat.mul_assoc, ← Nat.mul_add, ← Nat.mul_add, ← Nat.mul_add, e]
  generalize B15 ^ i * s = a1 at *
  generalize B15 ^ i * c = a2 at *
  generalize B15 ^ i * x = a3 at *
  generalize B15 ^ i * y = a4 at *
  generalize B15 ^ (i + 1) * c' = a5 at *
  omega
theorem dsub_step {m a b c x y s c' i : Nat} (h : m + b = a + B15 ^ i * c) (e : s + y + c = x + B15 * c') : m + B15 ^ i * s + (b + B15 ^ i * y) = a + B15 ^ i * x + B15 ^ (i + 1) * c' := by
  have e2 : B15 ^ i * s + B15 ^ i * y + B15 ^ i * c = B15 ^ i * x + B15 ^ (i + 1) * c' := by
    rw [Nat.pow_succ, Nat.mul_assoc, ← Nat.mul_add, ← Nat.mul_add, ← Nat.mul_add, e]
  generalize B15 ^ i * s = a1 at *
  generalize B15 ^ i * c = a2 at *
  generalize B15 ^ i * x = a3 at *
  generalize B15 ^ i * y = a4 at *
  generalize B15 ^ (i + 1) * c' = a5 at *
  omega

set_option maxRecDepth 100000 in
set_option maxHeartbeats 6400000 in
theorem natAdd_any (N M : Nat) (x y : Value) (w : World) (hx : Js w x N) (hy : Js w y M) (hN : FewD N) (hM : FewD M) :
    Calls Try.prog 54 #[x, y] w fun e w' => ∃ v', e = .returned v' ∧ Js w' v' (N + M) ∧ Nw w w' := by
  obtain ⟨la, ⟨hla, A1, c1, rfl, hn1, hc1, hcell1⟩, hw1, hcut1, rfl, _⟩ := hx
  obtain ⟨lb, ⟨hlb, A2, c2, rfl, hn2, hc2, hcell2⟩, hw2, hcut2, rfl, _⟩ := hy
  have hlen1 := dfew_len hcut1 hN
  have hlen2 := dfew_len hcut2 hM
  obtain ⟨na, hna⟩ : ∃ n, la.length = n := ⟨_, rfl⟩
  obtain ⟨nb, hnb⟩ : ∃ n, lb.length = n := ⟨_, rfl⟩
  rw [hna] at hlen1 hcell1 ⊢
  rw [hnb] at hlen2 hcell2 ⊢
  have HA := Lib.hid (And.intro hcell1 (And.intro hw1 (And.intro hna hlen1)))
  have HB := Lib.hid (And.intro hcell2 (And.intro hw2 (And.intro hnb hlen2)))
  clear hcell1 hcell2 hw1 hw2 hna hnb hlen1 hlen2 hcut1 hcut2 hla hlb hN hM hn1 hn2 hc1 hc2
  go_enter Try.func54, Try.ntmps54
  go_wp2
  go_loopw [5, 6, 7] (fun v c i wr => ∃ (k q : Nat) (m : List Nat), i = .int .i64 k ∧ c = .int .i64 q ∧ (k ≤ na ∨ k ≤ nb) ∧ m.length = k ∧ Dgs m ∧ q ≤ 1 ∧ OwnD wr w.heap.size v m ∧ dnum m + B15 ^ k * q = dnum (la.take k) + dnum (lb.take k) ∧ Nw w wr) (fun _ _ i _ => na + nb - (intOf i).toNat)
  case atStart => exact ⟨0, 0, [], rfl, rfl, .inl (Nat.zero_le _), rfl, dwds_nil, by omega, ownD_nil _ _, by simp [dnum], Kp.refl _ _⟩
  case round =>
    obtain ⟨k, q, m, rfl, rfl, hk, hml, hm, hqb, hown, hq, hnw⟩ := hrel
    have HO := Lib.hid hown
    have HM := Lib.hid (And.intro hml (And.intro hm (And.intro hqb (And.intro hq hk))))
    have HK := Lib.hid hnw
    have hkb : k ≤ 100000 := by have := HA.out.2.2.2; have := HB.out.2.2.2; omega
    clear hml hm hown hq hnw hk
    have i0 : (0 : Int) ≤ (k : Int) := by omega
    have e9 : IntKind.i64.wrap ((k : Int) + 1) = (k : Int) + 1 := by rw [IntKind.wrap_i64]; omega
    obtain ⟨x, hx⟩ : ∃ x, la.getD k 0 = x := ⟨_, rfl⟩
    obtain ⟨y, hy⟩ : ∃ y, lb.getD k 0 = y := ⟨_, rfl⟩
    have hxb : x < 32768 := by rw [← hx]; exact getD_lt HA.out.2.1 k
    have hyb : y < 32768 := by rw [← hy]; exact getD_lt HB.out.2.1 k
    obtain ⟨t, ht⟩ : ∃ t, q + x + y = t := ⟨_, rfl⟩
    obtain ⟨f1, f2, f3, f4, f5, f6⟩ := digit_forms t (by omega)
    obtain ⟨s, hs⟩ : ∃ s, t % 32768 = s := ⟨_, rfl⟩
    obtain ⟨c', hc'⟩ : ∃ c', t / 32768 = c' := ⟨_, rfl⟩
    rw [hs] at f1 f2 f3
    rw [hc'] at f4 f5 f6
    have w1 := wrapI s (by omega)
    have w2 := wrapI c' (by omega)
    have HD := Lib.hid (show s < 32768 ∧ c' ≤ 1 ∧ q + x + y = s + B15 * c' by rw [b15_eq]; omega)
    have HXY := Lib.hid (And.intro hx hy)
    clear hs hc' hqb
    by_cases ha : k < na
    · have ia : (k : Int) < (na : Int) := by omega
      have da : decide ((k : Int) < na) = true := decide_eq_true (by omega)
      have da' : decide (k < na) = true := decide_eq_true (by omega)
      obtain ⟨ga, oa, rfl, hba, hcla⟩ := HA.out.1 (by omega)
      have qa := (HK.out.cell (p := ⟨ga, oa + k, none⟩) hba id).trans (hcla k _ (getD_at (by rw [HA.out.2.2.1]; omega)))
      rw [hx] at qa
      clear hcla
      by_cases hb : k < nb
      · have ib : (k : Int) < (nb : Int) := by omega
        have db : decide ((k : Int) < nb) = true := decide_eq_true (by omega)
        have db' : decide (k < nb) = true := decide_eq_true (by omega)
        obtain ⟨gb, ob, rfl, hbb, hclb⟩ := HB.out.1 (by omega)
        have qb := (HK.out.cell (p := ⟨gb, ob + k, none⟩) hbb id).trans (hclb k _ (getD_at (by rw [HB.out.2.2.1]; omega)))
        rw [hy] at qb
        clear hclb
        have p1 : IntKind.i64.wrap ((q : Int) + x) = ((q + x : Nat) : Int) := by rw [← Int.natCast_add]; exact wrapI _ (by have := HM.out.2.2.1; omega)
        obtain ⟨u, hu⟩ : ∃ u, q + x = u := ⟨_, rfl⟩
        rw [hu] at p1 ht
        have p2 : IntKind.i64.wrap ((u : Int) + y) = (t : Int) := by rw [← Int.natCast_add, ht]; exact wrapI _ (by have := HM.out.2.2.1; omega)
        clear hu ht
        go_wp2_with (at_builtin; refine wp_pushG rfl (.tmp 40) (.tmp 43) 43 3 1 8 (.int .i64 0) rfl Try.underlying43 infoI rfl (by omega) w.heap.size m.length _ (dgV m) [.int .i64 (s : Int)] rfl HO.out rfl (by intro u hu; rw [List.mem_singleton.1 hu]; rfl) rfl (by rw [HM.out.1]; omega) (by rw [HM.out.1]; omega) HK.out.size ?_; intro v5 w5 own5 gr5)
        go_roundw
        case rel =>
          refine ⟨k + 1, c', m ++ [s], by go_num, rfl, by omega, by rw [List.length_append, HM.out.1]; rfl, HM.out.2.1.append (Dgs.one (by rw [b15_eq]; exact HD.out.1)), HD.out.2.1, ?_, ?_, gr5.nw HK.out (own_from HO.out)⟩
          · rw [dg_snoc] at own5
            unfold OwnD
            rw [List.length_append]
            exact own5
          · rw [dnum_snoc, HM.out.1, dnum_getD, dnum_getD, HXY.out.1, HXY.out.2]
            exact dadd_step HM.out.2.2.2.1 HD.out.2.2
        case measure => simp [intOf]; omega
      · have db : decide ((k : Int) < nb) = false := decide_eq_false (by omega)
        have db' : decide (k < nb) = false := decide_eq_false (by omega)
        have y0 : y = 0 := by rw [← hy]; exact getD_none (by rw [HB.out.2.2.1]; exact hb)
        have p1 : IntKind.i64.wrap ((q : Int) + x) = (t : Int) := by rw [← Int.natCast_add, show q + x = t by omega]; exact wrapI _ (by have := HM.out.2.2.1; omega)
        clear ht y0
        go_wp2_with (at_builtin; refine wp_pushG rfl (.tmp 40) (.tmp 43) 43 3 1 8 (.int .i64 0) rfl Try.underlying43 infoI rfl (by omega) w.heap.size m.length _ (dgV m) [.int .i64 (s : Int)] rfl HO.out rfl (by intro u hu; rw [List.mem_singleton.1 hu]; rfl) rfl (by rw [HM.out.1]; omega) (by rw [HM.out.1]; omega) HK.out.size ?_; intro v5 w5 own5 gr5)
        go_roundw
        case rel =>
          refine ⟨k + 1, c', m ++ [s], by go_num, rfl, by omega, by rw [List.length_append, HM.out.1]; rfl, HM.out.2.1.append (Dgs.one (by rw [b15_eq]; exact HD.out.1)), HD.out.2.1, ?_, ?_, gr5.nw HK.out (own_from HO.out)⟩
          · rw [dg_snoc] at own5
            unfold OwnD
            rw [List.length_append]
            exact own5
          · rw [dnum_snoc, HM.out.1, dnum_getD, dnum_getD, HXY.out.1, HXY.out.2]
            exact dadd_step HM.out.2.2.2.1 HD.out.2.2
        case measure => simp [intOf]; omega
    · have da : decide ((k : Int) < na) = false := decide_eq_false (by omega)
      have da' : decide (k < na) = false := decide_eq_false (by omega)
      by_cases hb : k < nb
      · have ib : (k : Int) < (nb : Int) := by omega
        have db : decide ((k : Int) < nb) = true := decide_eq_true (by omega)
        have db' : decide (k < nb) = true := decide_eq_true (by omega)
        obtain ⟨gb, ob, rfl, hbb, hclb⟩ := HB.out.1 (by omega)
        have qb := (HK.out.cell (p := ⟨gb, ob + k, none⟩) hbb id).trans (hclb k _ (getD_at (by rw [HB.out.2.2.1]; omega)))
        rw [hy] at qb
        clear hclb
        have x0 : x = 0 := by rw [← hx]; exact getD_none (by rw [HA.out.2.2.1]; exact ha)
        have p1 : IntKind.i64.wrap ((q : Int) + y) = (t : Int) := by rw [← Int.natCast_add, show q + y = t by omega]; exact wrapI _ (by have := HM.out.2.2.1; omega)
        clear ht x0
        go_wp2_with (at_builtin; refine wp_pushG rfl (.tmp 40) (.tmp 43) 43 3 1 8 (.int .i64 0) rfl Try.underlying43 infoI rfl (by omega) w.heap.size m.length _ (dgV m) [.int .i64 (s : Int)] rfl HO.out rfl (by intro u hu; rw [List.mem_singleton.1 hu]; rfl) rfl (by rw [HM.out.1]; omega) (by rw [HM.out.1]; omega) HK.out.size ?_; intro v5 w5 own5 gr5)
        go_roundw
        case rel =>
          refine ⟨k + 1, c', m ++ [s], by go_num, rfl, by omega, by rw [List.length_append, HM.out.1]; rfl, HM.out.2.1.append (Dgs.one (by rw [b15_eq]; exact HD.out.1)), HD.out.2.1, ?_, ?_, gr5.nw HK.out (own_from HO.out)⟩
          · rw [dg_snoc] at own5
            unfold OwnD
            rw [List.length_append]
            exact own5
          · rw [dnum_snoc, HM.out.1, dnum_getD, dnum_getD, HXY.out.1, HXY.out.2]
            exact dadd_step HM.out.2.2.2.1 HD.out.2.2
        case measure => simp [intOf]; omega
      · have db : decide ((k : Int) < nb) = false := decide_eq_false (by omega)
        have db' : decide (k < nb) = false := decide_eq_false (by omega)
        clear f1 f2 f3 f4 f5 f6 w1 w2
        go_wp2_with (at_builtin; refine wp_pushG rfl (.tmp 47) (.tmp 49) 43 3 1 8 (.int .i64 0) rfl Try.underlying43 infoI rfl (by omega) w.heap.size m.length _ (dgV m) [.int .i64 (q : Int)] rfl HO.out rfl (by intro u hu; rw [List.mem_singleton.1 hu]; rfl) rfl (by rw [HM.out.1]; omega) (by rw [HM.out.1]; omega) HK.out.size ?_; intro v5 w5 own5 gr5)
        have hlen : (m ++ [q]).length = m.length + 1 := by rw [List.length_append]; rfl
        rw [dg_snoc, ← hlen] at own5
        have own6 : OwnD w5 w.heap.size v5 (m ++ [q]) := own5
        have ht := trim_any (m ++ [q]) v5 w5 own6.dgV (HM.out.2.1.append (Dgs.one (by rw [b15_eq]; have := HM.out.2.2.1; omega))) (by rw [hlen, HM.out.1]; omega) own6.tyD
        have e1 : dnum (m ++ [q]) = dnum la + dnum lb := by
          have h := HM.out.2.2.2.1
          rw [List.take_of_length_le (by rw [HA.out.2.2.1]; omega), List.take_of_length_le (by rw [HB.out.2.2.1]; omega)] at h
          rw [dnum_snoc, HM.out.1, h]
        rw [e1] at ht
        have HT := Lib.hid ht
        clear ht own5 own6 hlen e1
        go_wp2_with fail
        refine HT.out.mono ?_
        rintro e w6 ⟨rfl, v6, rfl, hjs⟩
        go_wp2
        go_ret
        exact ⟨v6, rfl, hjs, gr5.nw HK.out (own_from HO.out)⟩
set_option maxRecDepth 100000 in
set_option maxHeartbeats 6400000 in
theorem natSub_any (N M : Nat) (x y : Value) (w : World) (hx : Js w x N) (hy : Js w y M) (hN : FewD N) (hle : M ≤ N) :
    Calls Try.prog 56 #[x, y] w fun e w' => ∃ v', e = .returned v' ∧ Js w' v' (N - M) ∧ Nw w w' := by
  obtain ⟨la, ⟨hla, A1, c1, rfl, hn1, hc1, hcell1⟩, hw1, hcut1, rfl, _⟩ := hx
  obtain ⟨lb, ⟨hlb, A2, c2, rfl, hn2, hc2, hcell2⟩, hw2, hcut2, rfl, _⟩ := hy
  have hlen1 := dfew_len hcut1 hN
  have hleL : lb.length ≤ la.length := Nat.le_of_not_lt fun h => Nat.not_lt.2 hle (dless_len hw1 hcut2 h)
  obtain ⟨na, hna⟩ : ∃ n, la.length = n := ⟨_, rfl⟩
  obtain ⟨nb, hnb⟩ : ∃ n, lb.length = n := ⟨_, rfl⟩
  rw [hna] at hlen1 hcell1 hleL ⊢
  rw [hnb] at hcell2 hleL ⊢
  have HA := Lib.hid (And.intro hcell1 (And.intro hw1 (And.intro hna hlen1)))
  have HB := Lib.hid (And.intro hcell2 (And.intro hw2 (And.intro hnb (And.intro hleL hle))))
  clear hcell1 hcell2 hw1 hw2 hna hnb hlen1 hcut1 hcut2 hla hlb hN hn1 hn2 hc1 hc2 hleL hle
  go_enter Try.func56, Try.ntmps56
  go_wp2
  go_loopw [5, 6, 7] (fun v c i wr => ∃ (k q : Nat) (m : List Nat), i = .int .i64 k ∧ c = .int .i64 q ∧ k ≤ na ∧ m.length = k ∧ Dgs m ∧ q ≤ 1 ∧ OwnD wr w.heap.size v m ∧ dnum m + dnum (lb.take k) = dnum (la.take k) + B15 ^ k * q ∧ Nw w wr) (fun _ _ i _ => na - (intOf i).toNat)
  case atStart => exact ⟨0, 0, [], rfl, rfl, Nat.zero_le _, rfl, dwds_nil, by omega, ownD_nil _ _, by simp [dnum], Kp.refl _ _⟩
  case round =>
    obtain ⟨k, q, m, rfl, rfl, hk, hml, hm, hqb, hown, hq, hnw⟩ := hrel
    have HO := Lib.hid hown
    have HM := Lib.hid (And.intro hml (And.intro hm (And.intro hqb (And.intro hq hk))))
    have HK := Lib.hid hnw
    have hkb : k ≤ 100000 := by have := HA.out.2.2.2; omega
    clear hml hm hown hq hnw hk
    have i0 : (0 : Int) ≤ (k : Int) := by omega
    have e9 : IntKind.i64.wrap ((k : Int) + 1) = (k : Int) + 1 := by rw [IntKind.wrap_i64]; omega
    by_cases ha : k < na
    · have ia : (k : Int) < (na : Int) := by omega
      obtain ⟨x, hx⟩ : ∃ x, la.getD k 0 = x := ⟨_, rfl⟩
      obtain ⟨y, hy⟩ : ∃ y, lb.getD k 0 = y := ⟨_, rfl⟩
      have hxb : x < 32768 := by rw [← hx]; exact getD_lt HA.out.2.1 k
      have hyb : y < 32768 := by rw [← hy]; exact getD_lt HB.out.2.1 k
      obtain ⟨d1, hd1⟩ : ∃ d1 : Int, (x : Int) - q = d1 := ⟨_, rfl⟩
      obtain ⟨d2, hd2⟩ : ∃ d2 : Int, d1 - y = d2 := ⟨_, rfl⟩
      have p1 : IntKind.i64.wrap ((x : Int) - q) = d1 := by rw [hd1, IntKind.wrap_i64]; omega
      have HXY := Lib.hid (And.intro hx hy)
      have da : decide ((k : Int) < na) = true := decide_eq_true (by omega)
      have da' : decide (k < na) = true := decide_eq_true (by omega)
      obtain ⟨ga, oa, rfl, hba, hcla⟩ := HA.out.1 (by omega)
      have qa := (HK.out.cell (p := ⟨ga, oa + k, none⟩) hba id).trans (hcla k _ (getD_at (by rw [HA.out.2.2.1]; omega)))
      rw [hx] at qa
      clear hcla
      by_cases hb : k < nb
      · have ib : (k : Int) < (nb : Int) := by omega
        have db : decide ((k : Int) < nb) = true := decide_eq_true (by omega)
        have db' : decide (k < nb) = true := decide_eq_true (by omega)
        obtain ⟨gb, ob, rfl, hbb, hclb⟩ := HB.out.1 (by omega)
        have qb := (HK.out.cell (p := ⟨gb, ob + k, none⟩) hbb id).trans (hclb k _ (getD_at (by rw [HB.out.2.2.1]; omega)))
        rw [hy] at qb
        clear hclb
        have p2 : IntKind.i64.wrap (d1 - y) = d2 := by rw [hd2, IntKind.wrap_i64]; omega
        clear hx hy
        by_cases hneg : d2 < 0
        · have e1 : decide (d2 < 0) = true := decide_eq_true hneg
          obtain ⟨s, hs⟩ : ∃ s : Nat, d2 + 32768 = (s : Int) := ⟨(d2 + 32768).toNat, by omega⟩
          have p3 : IntKind.i64.wrap (d2 + 32768) = (s : Int) := by rw [hs]; exact wrapI s (by omega)
          have HD := Lib.hid (show s < 32768 ∧ s + y + q = x + B15 * 1 by rw [b15_eq]; omega)
          clear hs hd1 hd2 hqb hneg
          go_wp2_with (at_builtin; refine wp_pushG rfl (.tmp 35) (.tmp 37) 43 3 1 8 (.int .i64 0) rfl Try.underlying43 infoI rfl (by omega) w.heap.size m.length _ (dgV m) [.int .i64 (s : Int)] rfl HO.out rfl (by intro u hu; rw [List.mem_singleton.1 hu]; rfl) rfl (by rw [HM.out.1]; omega) (by rw [HM.out.1]; omega) HK.out.size ?_; intro v5 w5 own5 gr5)
          go_roundw
          case rel =>
            refine ⟨k + 1, 1, m ++ [s], by go_num, rfl, by omega, by rw [List.length_append, HM.out.1]; rfl, HM.out.2.1.append (Dgs.one (by rw [b15_eq]; exact HD.out.1)), by omega, ?_, ?_, gr5.nw HK.out (own_from HO.out)⟩
            · rw [dg_snoc] at own5
              unfold OwnD
              rw [List.length_append]
              exact own5
            · rw [dnum_snoc, HM.out.1, dnum_getD, dnum_getD, HXY.out.1, HXY.out.2]
              exact dsub_step HM.out.2.2.2.1 HD.out.2
          case measure => simp [intOf]; omega
        · have e1 : decide (d2 < 0) = false := decide_eq_false hneg
          obtain ⟨s, hs⟩ : ∃ s : Nat, d2 = (s : Int) := ⟨d2.toNat, by omega⟩
          have HD := Lib.hid (show s < 32768 ∧ s + y + q = x + B15 * 0 by omega)
          clear hd1 hd2 hqb hneg
          subst hs
          go_wp2_with (at_builtin; refine wp_pushG rfl (.tmp 35) (.tmp 37) 43 3 1 8 (.int .i64 0) rfl Try.underlying43 infoI rfl (by omega) w.heap.size m.length _ (dgV m) [.int .i64 (s : Int)] rfl HO.out rfl (by intro u hu; rw [List.mem_singleton.1 hu]; rfl) rfl (by rw [HM.out.1]; omega) (by rw [HM.out.1]; omega) HK.out.size ?_; intro v5 w5 own5 gr5)
          go_roundw
          case rel =>
            refine ⟨k + 1, 0, m ++ [s], by go_num, rfl, by omega, by rw [List.length_append, HM.out.1]; rfl, HM.out.2.1.append (Dgs.one (by rw [b15_eq]; exact HD.out.1)), by omega, ?_, ?_, gr5.nw HK.out (own_from HO.out)⟩
            · rw [dg_snoc] at own5
              unfold OwnD
              rw [List.length_append]
              exact own5
            · rw [dnum_snoc, HM.out.1, dnum_getD, dnum_getD, HXY.out.1, HXY.out.2]
              exact dsub_step HM.out.2.2.2.1 HD.out.2
          case measure => simp [intOf]; omega
      · have db : decide ((k : Int) < nb) = false := decide_eq_false (by omega)
        have db' : decide (k < nb) = false := decide_eq_false (by omega)
        have y0 : y = 0 := by rw [← hy]; exact getD_none (by rw [HB.out.2.2.1]; exact hb)
        have hd3 : d1 = d2 := by omega
        clear hd2
        subst hd3
        have hd2 : d1 = d1 := rfl
        clear hx hy
        by_cases hneg : d1 < 0
        · have e1 : decide (d1 < 0) = true := decide_eq_true hneg
          obtain ⟨s, hs⟩ : ∃ s : Nat, d1 + 32768 = (s : Int) := ⟨(d1 + 32768).toNat, by omega⟩
          have p3 : IntKind.i64.wrap (d1 + 32768) = (s : Int) := by rw [hs]; exact wrapI s (by omega)
          have HD := Lib.hid (show s < 32768 ∧ s + y + q = x + B15 * 1 by rw [b15_eq]; omega)
          clear hs hd1 hd2 hqb hneg
          go_wp2_with (at_builtin; refine wp_pushG rfl (.tmp 35) (.tmp 37) 43 3 1 8 (.int .i64 0) rfl Try.underlying43 infoI rfl (by omega) w.heap.size m.length _ (dgV m) [.int .i64 (s : Int)] rfl HO.out rfl (by intro u hu; rw [List.mem_singleton.1 hu]; rfl) rfl (by rw [HM.out.1]; omega) (by rw [HM.out.1]; omega) HK.out.size ?_; intro v5 w5 own5 gr5)
          go_roundw
          case rel =>
            refine ⟨k + 1, 1, m ++ [s], by go_num, rfl, by omega, by rw [List.length_append, HM.out.1]; rfl, HM.out.2.1.append (Dgs.one (by rw [b15_eq]; exact HD.out.1)), by omega, ?_, ?_, gr5.nw HK.out (own_from HO.out)⟩
            · rw [dg_snoc] at own5
              unfold OwnD
              rw [List.length_append]
              exact own5
            · rw [dnum_snoc, HM.out.1, dnum_getD, dnum_getD, HXY.out.1, HXY.out.2]
              exact dsub_step HM.out.2.2.2.1 HD.out.2
          case measure => simp [intOf]; omega
        · have e1 : decide (d1 < 0) = false := decide_eq_false hneg
          obtain ⟨s, hs⟩ : ∃ s : Nat, d1 = (s : Int) := ⟨d1.toNat, by omega⟩
          have HD := Lib.hid (show s < 32768 ∧ s + y + q = x + B15 * 0 by omega)
          clear hd1 hd2 hqb hneg
          subst hs
          go_wp2_with (at_builtin; refine wp_pushG rfl (.tmp 35) (.tmp 37) 43 3 1 8 (.int .i64 0) rfl Try.underlying43 infoI rfl (by omega) w.heap.size m.length _ (dgV m) [.int .i64 (s : Int)] rfl HO.out rfl (by intro u hu; rw [List.mem_singleton.1 hu]; rfl) rfl (by rw [HM.out.1]; omega) (by rw [HM.out.1]; omega) HK.out.size ?_; intro v5 w5 own5 gr5)
          go_roundw
          case rel =>
            refine ⟨k + 1, 0, m ++ [s], by go_num, rfl, by omega, by rw [List.length_append, HM.out.1]; rfl, HM.out.2.1.append (Dgs.one (by rw [b15_eq]; exact HD.out.1)), by omega, ?_, ?_, gr5.nw HK.out (own_from HO.out)⟩
            · rw [dg_snoc] at own5
              unfold OwnD
              rw [List.length_append]
              exact own5
            · rw [dnum_snoc, HM.out.1, dnum_getD, dnum_getD, HXY.out.1, HXY.out.2]
              exact dsub_step HM.out.2.2.2.1 HD.out.2
          case measure => simp [intOf]; omega
    · have da : decide ((k : Int) < na) = false := decide_eq_false (by omega)
      have da' : decide (k < na) = false := decide_eq_false (by omega)
      obtain rfl : k = na := by have := HM.out.2.2.2.2; omega
      have own6 := HO.out
      have ht := trim_any m _ wr own6.dgV HM.out.2.1 (by rw [HM.out.1]; omega) own6.tyD
      have e1 : dnum m = dnum la - dnum lb := by
        have h := HM.out.2.2.2.1
        rw [List.take_of_length_le (by rw [HB.out.2.2.1]; exact HB.out.2.2.2.1), List.take_of_length_le (by rw [HA.out.2.2.1]; exact Nat.le_refl _)] at h
        have h1 := dnum_lt HM.out.2.1
        rw [HM.out.1] at h1
        have h2 := HB.out.2.2.2.2
        obtain rfl | rfl : q = 0 ∨ q = 1 := by omega
        · rw [Nat.mul_zero] at h; omega
        · rw [Nat.mul_one] at h; omega
      rw [e1] at ht
      have HT := Lib.hid ht
      clear ht own6 e1
      go_wp2_with fail
      refine HT.out.mono ?_
      rintro e w6 ⟨rfl, v6, rfl, hjs⟩
      go_wp2
      go_ret
      exact ⟨v6, rfl, hjs, HK.out⟩
end Go.Proofs.Ythefkomalakfeaa.W
