/-
  ratio.nat: isLess, plus, minus: what they return. Condition: at most 100000 words.
-/
import Derived.Test.YthefkomalakfeaaQNb
import Derived.Deep.CutRange
namespace Go.Proofs.Ythefkomalakfeaa.W
open Go.RowKit Go.Proofs.Ythefkomalakfeaa.Q

theorem num_eq_top {l m : List Nat} (hd : l.drop 0 = m.drop 0) : num l = num m := by rw [List.drop_zero, List.drop_zero] at hd; rw [hd]

set_option maxRecDepth 100000 in
set_option maxHeartbeats 1600000 in
theorem isLess_any (N M : Nat) (x y : Value) (w : World) (hx : Is w x N) (hy : Is w y M) (hN : Few N) (hM : Few M) :
    Calls Try.prog 76 #[x, y] w fun e w' => e = .returned (.bool (decide (N < M))) ∧ Nw w w' := by
  obtain ⟨l, ⟨hl, A, c, rfl, hnc, hcm, hcell⟩, hw, hcut, rfl, _⟩ := hx
  obtain ⟨l2, ⟨hl2, A2, c2, rfl, hnc2, hcm2, hcell2⟩, hw2, hcut2, rfl, _⟩ := hy
  have hlen := few_len hcut hN
  have hlen2 := few_len hcut2 hM
  obtain ⟨n, hn⟩ : ∃ n, l.length = n := ⟨_, rfl⟩
  obtain ⟨n2, hn2⟩ : ∃ n, l2.length = n := ⟨_, rfl⟩
  by_cases hne : n = n2
  · subst hne
    rw [hn] at hlen hcell ⊢
    rw [hn2] at hcell2 ⊢
    have e0 : IntKind.i64.wrap ((n : Int) - 1) = (n : Int) - 1 := by rw [IntKind.wrap_i64]; omega
    have HN := Lib.hid hn
    have HN2 := Lib.hid hn2
    have HC := Lib.hid hcell
    have HC2 := Lib.hid hcell2
    have HW := Lib.hid hw
    have HW2 := Lib.hid hw2
    have HL := Lib.hid hlen
    clear hl hl2 hcell hcell2 hw hw2 hcut hcut2 hcm hcm2 hnc hnc2 hn hn2 hlen hlen2 hN hM
    go_enter Try.func76, Try.ntmps76
    go_wp2
    clear e0
    go_loopw [5] (fun s wr => ∃ k : Nat, s = .int .i64 ((k : Int) - 1) ∧ k ≤ n ∧ l.drop k = l2.drop k ∧ Nw w wr) (fun s _ => (intOf s + 1).toNat)
    case atStart => exact ⟨n, rfl, Nat.le_refl n, by rw [List.drop_eq_nil_of_le (by rw [HN.out]; exact Nat.le_refl _), List.drop_eq_nil_of_le (by rw [HN2.out]; exact Nat.le_refl _)], Kp.refl _ _⟩
    case round =>
      obtain ⟨k, rfl, hk, hd, hnw⟩ := hrel
      have HD := Lib.hid hd
      have HK := Lib.hid hnw
      clear hd hnw
      rcases Nat.eq_zero_or_pos k with h0 | h0
      · subst h0
        go_wp2
        go_ret
        refine ⟨?_, HK.out⟩
        rw [decide_eq_false (by rw [num_eq_top HD.out]; exact Nat.lt_irrefl _)]
        rfl
      · obtain ⟨j, hj⟩ : ∃ j, k = j + 1 := ⟨k - 1, by omega⟩
        have hkj : (k : Int) - 1 = j := by omega
        rw [hkj]
        have e1 : decide ((j : Int) ≥ 0) = true := decide_eq_true (by omega)
        have i3 : (0 : Int) ≤ (j : Int) := by omega
        have i4 : (j : Int) < (n : Int) := by omega
        have e2 : IntKind.i64.wrap ((j : Int) - 1) = (j : Int) - 1 := by rw [IntKind.wrap_i64]; have := HL.out; omega
        obtain ⟨g, o, rfl, hb, hc⟩ := HC.out (by omega)
        obtain ⟨g2, o2, rfl, hb2, hc2⟩ := HC2.out (by omega)
        obtain ⟨x, hx⟩ : ∃ x, l[j]? = some x := ⟨l[j]'(by rw [HN.out]; omega), List.getElem?_eq_getElem _⟩
        obtain ⟨y, hy⟩ : ∃ x, l2[j]? = some x := ⟨l2[j]'(by rw [HN2.out]; omega), List.getElem?_eq_getElem _⟩
        have q0 := (HK.out.cell (p := ⟨g, o + j, none⟩) hb id).trans (hc j (.int .u64 x) (by rw [wdV_at, hx]; rfl))
        have r0 := (HK.out.cell (p := ⟨g2, o2 + j, none⟩) hb2 id).trans (hc2 j (.int .u64 y) (by rw [wdV_at, hy]; rfl))
        clear hc hc2
        have HX := Lib.hid hx
        have HY := Lib.hid hy
        have HJ := Lib.hid hj
        clear hx hy hj hkj
        by_cases hxy : x = y
        · subst hxy
          have e3 : ((x : Int) != x) = false := by simp
          go_wp2_with fail
          go_quiet (fail)
          go_wp2_with fail
          go_roundw
          case rel =>
            refine ⟨j, rfl, by omega, ?_, HK.out.tr (nw_drewN _ _)⟩
            rw [drop_cons HX.out, drop_cons HY.out, ← HJ.out, HD.out]
          case measure => simp [intOf]
        · have e3 : ((x : Int) != y) = true := by simp; omega
          have hlt : decide (num l < num l2) = decide (x < y) := by
            have hd := HD.out
            rw [HJ.out] at hd
            by_cases h : x < y
            · rw [decide_eq_true h, decide_eq_true (less_at HW.out HX.out HY.out hd h)]
            · rw [decide_eq_false h, decide_eq_false (Nat.not_lt.2 (Nat.le_of_lt (less_at HW2.out HY.out HX.out hd.symm (by omega))))]
          have HLT := Lib.hid hlt
          clear hlt hxy
          go_wp2_with fail
          go_quiet (fail)
          go_wp2_with fail
          generalize hw3 : World.drewN wr _ = w3
          have hk3 : Nw wr w3 := by rw [← hw3]; exact nw_drewN _ _
          have HK3 := Lib.hid (HK.out.tr hk3)
          have q0 := (hk3.cell (p := ⟨g, o + j, none⟩) (Nat.lt_of_lt_of_le hb HK.out.size) id).trans q0
          have r0 := (hk3.cell (p := ⟨g2, o2 + j, none⟩) (Nat.lt_of_lt_of_le hb2 HK.out.size) id).trans r0
          obtain ⟨b, eb⟩ : ∃ b, decide ((x : Int) < y) = b := ⟨_, rfl⟩
          have eb' : decide (x < y) = b := by rw [← eb, decide_eq_decide]; omega
          have HB := Lib.hid (HLT.out.trans eb')
          clear hw3 hk3
          go_wp2_with fail
          go_quiet (fail)
          go_wp2
          go_ret
          exact ⟨by rw [HB.out]; rfl, HK3.out.tr (nw_drewN _ _)⟩
  · have e1 : ((n : Int) != n2) = true := by simp; omega
    have hd : decide (num l < num l2) = decide ((n : Int) < n2) := by
      by_cases h : n < n2
      · rw [decide_eq_true (less_len hw hcut2 (by omega)), decide_eq_true (by omega)]
      · rw [decide_eq_false (Nat.not_lt.2 (Nat.le_of_lt (less_len hw2 hcut (by omega)))), decide_eq_false (by omega)]
    rw [hd, hn, hn2]
    obtain ⟨b, eb⟩ : ∃ b, decide ((n : Int) < n2) = b := ⟨_, rfl⟩
    have eb' : decide (n < n2) = b := by rw [← eb, decide_eq_decide]; omega
    rw [eb]
    clear hl hl2 hcell hcell2 hw hw2 hcut hcut2 hcm hcm2 hnc hnc2 hn hn2 hlen hlen2 hN hM hd hne
    go_enter Try.func76, Try.ntmps76
    go_wp2
    go_ret
    exact ⟨rfl, Kp.refl _ _⟩

/-- a copy of words into a row of zeros -/
theorem splice_words (n : Nat) (l : List Nat) : splice (wdV (List.replicate n 0)) 0 (wdV l) = wdV (l ++ List.replicate (n - l.length) 0) := by
  unfold splice
  rw [List.take_zero, List.nil_append, Nat.zero_add, wdV_app, wdV_len]
  congr 1
  unfold wdV
  rw [← List.map_drop, List.drop_replicate]
theorem wdV_one (l : List Nat) : ∀ v ∈ wdV l, v.oneCell' = true := by
  intro v hv
  obtain ⟨x, _, rfl⟩ := List.mem_map.1 hv
  rfl

theorem sizeW : (Try.prog.info? 48).map (·.size) = some 1 := by kernel_rfl
/-- the source of a copy: words that read -/
theorem cp_src {w : World} {A : Option Addr} {l : List Nat} (h : 0 < l.length → ∃ g o, A = some ⟨g, o, none⟩ ∧ g < w.heap.size ∧ ∀ j u, (wdV l)[j]? = some u → w.cell? ⟨g, o + j, none⟩ = some u) {o : Obj} (hl : 0 < (wdV l).length) :
    ∃ ad, A = some ad ∧ ∀ j v, (wdV l)[j]? = some v → (w.alloc o).cell? (ad.add j) = some v := by
  rw [wdV_len] at hl
  obtain ⟨g, k, rfl, hg, hc⟩ := h hl
  refine ⟨_, rfl, fun j v hv => ?_⟩
  have hadd : (⟨g, k, none⟩ : Addr).add j = ⟨g, k + j, none⟩ := by
    unfold Addr.add
    split <;> simp_all
  rw [hadd]
  exact ((nw_alloc w o).cell (p := ⟨g, k + j, none⟩) hg id).trans (hc j v hv)

set_option maxRecDepth 100000 in
set_option maxHeartbeats 3200000 in
theorem plus_any (N M : Nat) (x y : Value) (w : World) (hx : Is w x N) (hy : Is w y M) (hN : Few N) (hM : Few M) :
    Calls Try.prog 75 #[x, y] w fun e w' => ∃ v', e = .returned v' ∧ Is w' v' (N + M) ∧ Nw w w' := by
  have hless := fun w1 h1 h2 => isLess_any M N y x w1 h1 h2 hM hN
  obtain ⟨A, c, hxA, hx2⟩ : ∃ A c, (∃ n, x = .slice A n c) ∧ True := by
    obtain ⟨l, ⟨hl, A, c, rfl, _⟩, _⟩ := hx
    exact ⟨A, c, ⟨_, rfl⟩, trivial⟩
  clear hxA hx2
  have HX := Lib.hid hx
  have HY := Lib.hid hy
  have HN := Lib.hid hN
  have HM := Lib.hid hM
  clear hx hy hN hM
  go_enter Try.func75, Try.ntmps75
  go_wp2_with fail
  refine (hless _ HY.out HX.out).mono ?_
  rintro e w1 ⟨rfl, hk1⟩
  have HK1 := Lib.hid hk1
  clear hk1 hless
  go_upto_if 15 with fail
  go_cut [5, 6] from 16 to 17 (fun a b wc => ∃ P Q : Nat, Is wc a P ∧ Is wc b Q ∧ P ≤ Q ∧ P + Q = N + M ∧ Few Q ∧ Nw w wc)
  case first =>
    by_cases h : M < N
    · have e1 : decide (M < N) = true := decide_eq_true h
      go_wp2
      go_meet
      case rel => exact ⟨M, N, HY.out.nw HK1.out, HX.out.nw HK1.out, Nat.le_of_lt h, Nat.add_comm M N, HN.out, HK1.out⟩
    · have e1 : decide (M < N) = false := decide_eq_false h
      go_wp2
      go_meet
      case rel => exact ⟨N, M, HX.out.nw HK1.out, HY.out.nw HK1.out, Nat.le_of_not_lt h, rfl, HM.out, HK1.out⟩
  case rest =>
    obtain ⟨P, Q, hp, hq, hpq, hsum, hQ, hkc⟩ := hcut
    obtain ⟨la, ⟨hla, A1, c1, rfl, hn1, hc1, hcell1⟩, hw1, hcut1, rfl, _⟩ := hp
    obtain ⟨lb, ⟨hlb, A2, c2, rfl, hn2, hc2, hcell2⟩, hw2, hcut2, rfl, _⟩ := hq
    have hlen2 := few_len hcut2 hQ
    have hle : la.length ≤ lb.length := Nat.le_of_not_lt fun h => Nat.not_lt.2 hpq (less_len hw2 hcut1 h)
    obtain ⟨n, hn⟩ : ∃ n, lb.length = n := ⟨_, rfl⟩
    rw [hn] at hlen2 hcell2 hn2 hle hlb ⊢
    obtain ⟨n1, hn1⟩ : ∃ n1, n + 1 = n1 := ⟨_, rfl⟩
    have hmk := make_words n1 (by omega)
    have HR := Lib.hid (show RowN (wc.alloc (.cells (wdV (List.replicate n1 0)).toArray 48)) wc.heap.size (List.replicate n1 0) from Blk.new wc _ _)
    have e0 : IntKind.i64.wrap ((n : Int) + 1) = (n1 : Int) := by rw [IntKind.wrap_i64]; omega
    have HA := Lib.hid (And.intro hcell1 (And.intro hw1 hle))
    have HB := Lib.hid (And.intro hcell2 (And.intro hw2 (And.intro hn (And.intro hn1 (And.intro hlen2 hsum)))))
    have HKC := Lib.hid hkc
    clear hcell1 hw1 hle hcell2 hw2 hlen2 hsum hcut1 hcut2 hla hlb hpq hQ hc1 hc2 hn1 hn2 hn hkc
    go_wp2_with (refine wpList_copy_splice rfl (.tmp 22) (.tmp 23) 58 58 (by rfl) 48 Try.underlying58 sizeW (some ⟨wc.heap.size, 0, none⟩) A1 n1 n1 la.length c1 (by rfl) (by rfl) wc.heap.size 0 (wdV (List.replicate n1 0)) 48 HR.out (wdV la) (by rw [wdV_len]; exact (Nat.min_eq_left (by have := HA.out.2.2; have := HB.out.2.2.2.1; omega)).symm) (fun h => ⟨rfl, cp_src HA.out.1 h⟩) (by rw [wdV_len, wdV_len, List.length_replicate]; have := HA.out.2.2; have := HB.out.2.2.2.1; omega) (wdV_one la) wc.heap.size _ ((Below.refl _ _).alloc (Nat.le_refl _) _) (Nat.le_refl _) ?_; intro w2 hg2 hb2)
    obtain ⟨pad, hpad⟩ : ∃ pad, la ++ List.replicate (n1 - la.length) 0 = pad := ⟨_, rfl⟩
    have hpl : pad.length = n1 := by rw [← hpad, List.length_append, List.length_replicate]; have := HA.out.2.2; have := HB.out.2.2.2.1; omega
    have hpw : Wds pad := by rw [← hpad]; exact HA.out.2.1.append fun x hx => by rw [List.eq_of_mem_replicate hx, b64_eq]; omega
    have hpn : num (pad.take n) = num la := by
      rw [← hpad, List.take_append, num_append, List.take_of_length_le HA.out.2.2, List.take_replicate, num_zeros, Nat.mul_zero, Nat.add_zero]
    have hrow : RowN w2 wc.heap.size pad := by
      have h := hg2.out
      rw [splice_words, hpad] at h
      exact h
    have HP := Lib.hid (And.intro hpl (And.intro hpw hpn))
    have HO2 := Lib.hid hrow
    have HK2 := Lib.hid (Kp.of_below hb2 : Nw wc w2)
    clear hpl hpw hpn hrow hg2 hb2 hpad hmk e0 HR
    go_loopw [8, 27] (fun r s wr => ∃ (q k : Nat) (m : List Nat), r = .int .u64 q ∧ s = .int .i64 (k : Int) ∧ k ≤ n ∧ m.length = k ∧ Wds m ∧ q ≤ 1 ∧ num m + B64 ^ k * q = num (lb.take k) + num (pad.take k) ∧ RowN wr wc.heap.size (m ++ pad.drop k) ∧ Nw wc wr) (fun _ s _ => n - (intOf s).toNat)
    case atStart => exact ⟨0, 0, [], rfl, rfl, Nat.zero_le _, rfl, wds_nil, by omega, by simp [num], by simpa using HO2.out, HK2.out⟩
    case round =>
      obtain ⟨q, k, m, rfl, rfl, hk, hml, hm, hqb, hq, hrow, hnw⟩ := hrel
      have HQ := Lib.hid hq
      have HK := Lib.hid hnw
      have HO := Lib.hid hrow
      have HM := Lib.hid hm
      have HQB := Lib.hid hqb
      have HML := Lib.hid hml
      clear hq hnw hrow hm hml hqb
      obtain ⟨y, hy⟩ : ∃ x, pad[k]? = some x := ⟨pad[k]'(by rw [HP.out.1]; have := HB.out.2.2.2.1; omega), List.getElem?_eq_getElem _⟩
      have i3 : (0 : Int) ≤ (k : Int) := by omega
      have i5 : (k : Int) < (n1 : Int) := by have := HB.out.2.2.2.1; omega
      have hyk : (m ++ pad.drop k)[k]? = some y := by
        rw [List.getElem?_append_right (by rw [HML.out]; exact Nat.le_refl _), HML.out, Nat.sub_self, drop_cons hy]
        rfl
      have r0 := RowN.cell HO.out hyk
      have r1 := Blk.frozen HO.out k
      have hset : ∀ z, (m ++ pad.drop k).set k z = m ++ [z] ++ pad.drop (k + 1) := fun z => by
        rw [drop_cons hy, set_word m _ z y k HML.out, List.append_assoc]
        rfl
      have HS := Lib.hid hset
      have HY := Lib.hid hy
      clear hset hyk hy
      by_cases hkn : k < n
      · have i4 : (k : Int) < (n : Int) := by omega
        have e2 : IntKind.i64.wrap ((k : Int) + 1) = (k : Int) + 1 := by rw [IntKind.wrap_i64]; have := HB.out.2.2.2.2.1; omega
        obtain ⟨g, o, rfl, hb, hc⟩ := HB.out.1 (by omega)
        obtain ⟨x, hx⟩ : ∃ x, lb[k]? = some x := ⟨lb[k]'(by rw [HB.out.2.2.1]; omega), List.getElem?_eq_getElem _⟩
        have q0 := (HK.out.cell (p := ⟨g, o + k, none⟩) hb id).trans (hc k (.int .u64 x) (by rw [wdV_at, hx]; rfl))
        have had := fun w1 => add64_any x y q HQB.out w1
        have hxb := HB.out.2.1.at hx
        have hyb := HP.out.2.1.at HY.out
        rw [b64_eq] at hxb hyb
        obtain ⟨sm, hsm⟩ : ∃ z, (x + y + q) % 18446744073709551616 = z := ⟨_, rfl⟩
        obtain ⟨ov, hov⟩ : ∃ z, (x + y + q) / 18446744073709551616 = z := ⟨_, rfl⟩
        have hsmb : sm < B64 := by rw [← hsm, b64_eq]; exact Nat.mod_lt _ (by omega)
        have hovb : ov ≤ 1 := by have := HQB.out; omega
        have hst := times_step (p := num m) (c := q) (i := k) (s := sm) (c' := ov) (x + y) HQ.out (by rw [b64_eq]; omega)
        rw [hsm, hov] at had
        have HT := Lib.hid (And.intro hsmb (And.intro hovb hst))
        have HX := Lib.hid hx
        clear hc hxb hyb hsm hov hsmb hovb hst hx
        go_wp2_with fail
        go_roundw
        case rel =>
          refine ⟨ov, k + 1, m ++ [sm], rfl, by go_num, by omega, by rw [List.length_append, HML.out]; rfl, HM.out.append (Wds.one HT.out.1), HT.out.2.1, ?_, ?_, ?_⟩
          · rw [num_snoc, HML.out, HT.out.2.2, num_take HX.out, num_take HY.out, Nat.mul_add]
            omega
          · rw [← HS.out sm]
            exact RowN.set_ HO.out k sm
          · exact HK.out.new (Nat.le_refl _) _ _
        case measure => simp [intOf]; omega
      · obtain rfl : k = n := by omega
        have hrow := RowN.set_ HO.out k q
        rw [HS.out q, List.drop_eq_nil_of_le (by rw [HP.out.1, ← HB.out.2.2.2.1]; exact Nat.le_refl _), List.append_nil] at hrow
        have hlen : (m ++ [q]).length = n1 := by rw [List.length_append, HML.out]; exact HB.out.2.2.2.1
        have hv : NatV _ (.slice (some ⟨wc.heap.size, 0, none⟩) (m ++ [q]).length (m ++ [q]).length) (m ++ [q]) := RowN.natV hrow (by have := HB.out.2.2.2.2.1; have := HB.out.2.2.2.1; omega)
        have ht := trimmed_any (m ++ [q]) _ _ hv (HM.out.append (Wds.one (by rw [b64_eq]; have := HQB.out; omega))) (by have := HB.out.2.2.2.2.1; have := HB.out.2.2.2.1; omega) (RowN.tyW hrow _ _)
        have e1 : num (m ++ [q]) = N + M := by
          have h := HQ.out
          rw [List.take_of_length_le (by rw [HB.out.2.2.1]; exact Nat.le_refl _), HP.out.2.2] at h
          rw [num_snoc, HML.out, h, Nat.add_comm]
          exact HB.out.2.2.2.2.2
        rw [e1, hlen] at ht
        have HT := Lib.hid ht
        clear hv ht hrow hlen e1
        go_wp2_with fail
        refine (HT.out).mono ?_
        rintro e w1 ⟨rfl, v', rfl, his⟩
        go_wp2
        go_ret
        exact ⟨v', rfl, his, (HKC.out.tr HK.out).new (HKC.out.size) _ _⟩
end Go.Proofs.Ythefkomalakfeaa.W
