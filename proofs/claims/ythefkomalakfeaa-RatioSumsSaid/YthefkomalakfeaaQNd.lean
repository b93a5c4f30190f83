/-
  ratio.nat: minus: what it returns. Condition: at most 100000 words, and what is taken away is not greater.
-/
import Derived.Test.YthefkomalakfeaaQNc
namespace Go.Proofs.Ythefkomalakfeaa.W
open Go.RowKit Go.Proofs.Ythefkomalakfeaa.Q

theorem minus_round (x y b : Nat) (hx : x < B64) (hy : y < B64) (hb : b ≤ 1) :
    (x + 18446744073709551616 - y - b) % 18446744073709551616 < B64 ∧ bor x y b ≤ 1 ∧ (x + 18446744073709551616 - y - b) % 18446744073709551616 + y + b = x + B64 * bor x y b := by
  rw [b64_eq] at *
  unfold bor
  split <;> omega
theorem minus_step {m p l y x s q b i : Nat} (h : m + p = l + B64 ^ i * q) (e : s + y + q = x + B64 * b) : m + B64 ^ i * s + (p + B64 ^ i * y) = l + B64 ^ i * x + B64 ^ (i + 1) * b := by
  have e2 : B64 ^ i * s + B64 ^ i * y + B64 ^ i * q = B64 ^ i * x + B64 ^ (i + 1) * b := by
    rw [Nat.pow_succ, Nat.mul_assoc, ← Nat.mul_add, ← Nat.mul_add, ← Nat.mul_add, e]
  generalize B64 ^ i * s = a1 at *
  generalize B64 ^ i * y = a2 at *
  generalize B64 ^ i * q = a3 at *
  generalize B64 ^ i * x = a4 at *
  generalize B64 ^ (i + 1) * b = a5 at *
  omega

set_option maxRecDepth 100000 in
set_option maxHeartbeats 3200000 in
theorem minus_any (N M : Nat) (x y : Value) (w : World) (hx : Is w x N) (hy : Is w y M) (hN : Few N) (hle : M ≤ N) :
    Calls Try.prog 77 #[x, y] w fun e w' => ∃ v', e = .returned v' ∧ Is w' v' (N - M) ∧ Nw w w' := by
  obtain ⟨lb, ⟨hlb, A2, c2, rfl, hn2, hc2, hcell2⟩, hw2, hcut2, rfl, _⟩ := hx
  obtain ⟨la, ⟨hla, A1, c1, rfl, hn1, hc1, hcell1⟩, hw1, hcut1, rfl, _⟩ := hy
  have hlen2 := few_len hcut2 hN
  have hleL : la.length ≤ lb.length := Nat.le_of_not_lt fun h => Nat.not_lt.2 hle (less_len hw2 hcut1 h)
  obtain ⟨n, hn⟩ : ∃ n, lb.length = n := ⟨_, rfl⟩
  rw [hn] at hlen2 hcell2 hn2 hleL hlb ⊢
  have hmk := make_words n (by omega)
  have HR := Lib.hid (show RowN (w.alloc (.cells (wdV (List.replicate n 0)).toArray 48)) w.heap.size (List.replicate n 0) from Blk.new w _ _)
  have HA := Lib.hid (And.intro hcell1 (And.intro hw1 hleL))
  have HB := Lib.hid (And.intro hcell2 (And.intro hw2 (And.intro hn (And.intro hlen2 hle))))
  clear hcell1 hw1 hleL hcell2 hw2 hlen2 hcut1 hcut2 hla hlb hle hN hc1 hc2 hn1 hn2 hn
  go_enter Try.func77, Try.ntmps77
  go_wp2_with (refine wpList_copy_splice rfl (.tmp 12) (.tmp 13) 58 58 (by rfl) 48 Try.underlying58 sizeW (some ⟨w.heap.size, 0, none⟩) A1 n n la.length c1 (by rfl) (by rfl) w.heap.size 0 (wdV (List.replicate n 0)) 48 HR.out (wdV la) (by rw [wdV_len]; exact (Nat.min_eq_left HA.out.2.2).symm) (fun h => ⟨rfl, cp_src HA.out.1 h⟩) (by rw [wdV_len, wdV_len, List.length_replicate]; have := HA.out.2.2; omega) (wdV_one la) w.heap.size _ ((Below.refl _ _).alloc (Nat.le_refl _) _) (Nat.le_refl _) ?_; intro w2 hg2 hb2)
  obtain ⟨pad, hpad⟩ : ∃ pad, la ++ List.replicate (n - la.length) 0 = pad := ⟨_, rfl⟩
  have hpl : pad.length = n := by rw [← hpad, List.length_append, List.length_replicate]; have := HA.out.2.2; omega
  have hpw : Wds pad := by rw [← hpad]; exact HA.out.2.1.append fun x hx => by rw [List.eq_of_mem_replicate hx, b64_eq]; omega
  have hpn : num (pad.take n) = num la := by
    rw [← hpad, List.take_append, num_append, List.take_of_length_le HA.out.2.2, List.take_replicate, num_zeros, Nat.mul_zero, Nat.add_zero]
  have hrow : RowN w2 w.heap.size pad := by
    have h := hg2.out
    rw [splice_words, hpad] at h
    exact h
  have HP := Lib.hid (And.intro hpl (And.intro hpw hpn))
  have HO2 := Lib.hid hrow
  have HK2 := Lib.hid (Kp.of_below hb2 : Nw w w2)
  clear hpl hpw hpn hrow hg2 hb2 hpad hmk HR
  go_loopw [6, 17] (fun r s wr => ∃ (q k : Nat) (m : List Nat), r = .int .u64 q ∧ s = .int .i64 (k : Int) ∧ k ≤ n ∧ m.length = k ∧ Wds m ∧ q ≤ 1 ∧ num m + num (pad.take k) = num (lb.take k) + B64 ^ k * q ∧ RowN wr w.heap.size (m ++ pad.drop k) ∧ Nw w wr) (fun _ s _ => n - (intOf s).toNat)
  case atStart => exact ⟨0, 0, [], rfl, rfl, Nat.zero_le _, rfl, wds_nil, by omega, by simp [num], by simpa using HO2.out, HK2.out⟩
  case round =>
    obtain ⟨q, k, m, rfl, rfl, hk, hml, hm, hqb, hq, hrow, hnw⟩ := hrel
    have HQ := Lib.hid hq
    have HK := Lib.hid hnw
    have HO := Lib.hid hrow
    have HM := Lib.hid hm
    have HQB := Lib.hid hqb
    have HML := Lib.hid hml
    clear hq hnw hrow hm hml hqb
    by_cases hkn : k < n
    · obtain ⟨y, hy⟩ : ∃ x, pad[k]? = some x := ⟨pad[k]'(by rw [HP.out.1]; omega), List.getElem?_eq_getElem _⟩
      have i3 : (0 : Int) ≤ (k : Int) := by omega
      have i4 : (k : Int) < (n : Int) := by omega
      have hyk : (m ++ pad.drop k)[k]? = some y := by
        rw [List.getElem?_append_right (by rw [HML.out]; exact Nat.le_refl _), HML.out, Nat.sub_self, drop_cons hy]
        rfl
      have r0 := RowN.cell HO.out hyk
      have r1 := Blk.frozen HO.out k
      have hset : ∀ z, (m ++ pad.drop k).set k z = m ++ [z] ++ pad.drop (k + 1) := fun z => by
        rw [drop_cons hy, set_word m _ z y k HML.out, List.append_assoc]
        rfl
      have HS := Lib.hid hset
      have HY := Lib.hid hy
      clear hset hyk hy
      have e2 : IntKind.i64.wrap ((k : Int) + 1) = (k : Int) + 1 := by rw [IntKind.wrap_i64]; have := HB.out.2.2.2.1; omega
      obtain ⟨g, o, rfl, hb, hc⟩ := HB.out.1 (by omega)
      obtain ⟨x, hx⟩ : ∃ x, lb[k]? = some x := ⟨lb[k]'(by rw [HB.out.2.2.1]; omega), List.getElem?_eq_getElem _⟩
      have q0 := (HK.out.cell (p := ⟨g, o + k, none⟩) hb id).trans (hc k (.int .u64 x) (by rw [wdV_at, hx]; rfl))
      have had := fun w1 => sub64_any x y q HQB.out w1
      have hmr := minus_round x y q (HB.out.2.1.at hx) (HP.out.2.1.at HY.out) HQB.out
      obtain ⟨sm, hsm⟩ : ∃ z, (x + 18446744073709551616 - y - q) % 18446744073709551616 = z := ⟨_, rfl⟩
      obtain ⟨ov, hov⟩ : ∃ z, bor x y q = z := ⟨_, rfl⟩
      rw [hsm, hov] at had hmr
      have hst := minus_step HQ.out hmr.2.2
      have HT := Lib.hid (And.intro hmr.1 (And.intro hmr.2.1 hst))
      have HX := Lib.hid hx
      clear hc hsm hov hst hx hmr
      go_wp2_with fail
      go_roundw
      case rel =>
        refine ⟨ov, k + 1, m ++ [sm], rfl, by go_num, by omega, by rw [List.length_append, HML.out]; rfl, HM.out.append (Wds.one HT.out.1), HT.out.2.1, ?_, ?_, ?_⟩
        · rw [num_snoc, HML.out, num_take HX.out, num_take HY.out]
          exact HT.out.2.2
        · rw [← HS.out sm]
          exact RowN.set_ HO.out k sm
        · exact HK.out.new (Nat.le_refl _) _ _
      case measure => simp [intOf]; omega
    · obtain rfl : k = n := by omega
      have hrow := HO.out
      rw [List.drop_eq_nil_of_le (by rw [HP.out.1]; exact Nat.le_refl _), List.append_nil] at hrow
      have hv : NatV _ (.slice (some ⟨w.heap.size, 0, none⟩) m.length m.length) m := RowN.natV hrow (by rw [HML.out]; have := HB.out.2.2.2.1; omega)
      have ht := trimmed_any m _ _ hv HM.out (by rw [HML.out]; have := HB.out.2.2.2.1; omega) (RowN.tyW hrow _ _)
      have e1 : num m = num lb - num la := by
        have h := HQ.out
        rw [HP.out.2.2, List.take_of_length_le (by rw [HB.out.2.2.1]; exact Nat.le_refl _)] at h
        have h1 := num_lt HM.out
        rw [HML.out] at h1
        have h2 := HB.out.2.2.2.2
        have h3 := HQB.out
        obtain rfl | rfl : q = 0 ∨ q = 1 := by omega
        · rw [Nat.mul_zero] at h; omega
        · rw [Nat.mul_one] at h; omega
      rw [e1, HML.out] at ht
      have HT := Lib.hid ht
      clear hv ht hrow e1
      go_wp2_with fail
      refine (HT.out).mono ?_
      rintro e w1 ⟨rfl, v', rfl, his⟩
      go_wp2
      go_ret
      exact ⟨v', rfl, his, HK.out⟩
end Go.Proofs.Ythefkomalakfeaa.W
