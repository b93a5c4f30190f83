/-
  The reference's bits, double, half: what they return. Condition: at most 100000 digits.
-/
import Derived.Test.YthefkomalakfeaaRNd
namespace Go.Proofs.Ythefkomalakfeaa.W
open Go.RowKit Go.Proofs.Ythefkomalakfeaa.Q

theorem b15_pow (k : Nat) : B15 ^ k = 2 ^ (15 * k) := by rw [b15_eq, show (32768 : Nat) = 2 ^ 15 from rfl, ← Nat.pow_mul]
theorem top_split {l : List Nat} {k : Nat} (hl : l.length = k + 1) : dnum l = dnum (l.take k) + B15 ^ k * l.getD k 0 := by
  have h := dnum_getD (l := l) k
  rw [List.take_of_length_le (by omega)] at h
  exact h
theorem js_zero {l : List Nat} (hc : Trm l) : dnum l = 0 ↔ l = [] := by
  constructor
  · intro h
    rcases l with _ | ⟨x, r⟩
    · rfl
    · have h1 := dcut_ge hc (by simp)
      have h2 := b15_pos ((x :: r).length - 1)
      omega
  · rintro rfl; rfl

set_option maxRecDepth 100000 in
set_option maxHeartbeats 3200000 in
theorem bits_any (N : Nat) (x : Value) (w : World) (hx : Js w x N) (hN : FewD N) :
    Calls Try.prog 78 #[x] w fun e w' => w = w' ∧ ∃ k : Nat, e = .returned (.int .i64 k) ∧ N < 2 ^ k ∧ (0 < N → 0 < k ∧ 2 ^ (k - 1) ≤ N) ∧ (N = 0 → k = 0) ∧ k ≤ 2000000 := by
  obtain ⟨la, ⟨hla, A1, c1, rfl, hn1, hc1, hcell1⟩, hw1, hcut1, rfl, _⟩ := hx
  have hlen1 := dfew_len hcut1 hN
  obtain ⟨na, hna⟩ : ∃ n, la.length = n := ⟨_, rfl⟩
  rw [hna] at hlen1 hcell1 ⊢
  rcases Nat.eq_zero_or_pos na with h0 | h0
  · subst h0
    obtain rfl : la = [] := List.eq_nil_of_length_eq_zero hna
    clear hcell1 hla hcut1 hN hw1 hn1 hc1 hna hlen1
    go_enter Try.func78, Try.ntmps78
    go_wp2
    go_ret
    exact ⟨rfl, 0, rfl, by simp [dnum], fun h => by simp [dnum] at h, fun _ => rfl, by omega⟩
  · obtain ⟨n, hn⟩ : ∃ n, na = n + 1 := ⟨na - 1, by omega⟩
    obtain ⟨g, o, rfl, hb, hcl⟩ := hcell1 h0
    obtain ⟨d, hd⟩ : ∃ d, la.getD n 0 = d := ⟨_, rfl⟩
    have q0 := hcl n _ (getD_at (by omega))
    rw [hd] at q0
    have hdb : d < 32768 := by rw [← hd]; exact getD_lt hw1 n
    have hs := top_split (l := la) (k := n) (by omega)
    rw [hd] at hs
    have hlo := dnum_lt (hw1.take n)
    rw [dlen_take (by omega)] at hlo
    have hdp : 0 < d := by
      rcases Nat.eq_zero_or_pos d with h | h
      · exfalso
        apply hcut1
        rw [List.getLast?_eq_getElem?, hna, hn, Nat.add_sub_cancel, List.getElem?_eq_getElem (by omega)]
        rw [List.getD_eq_getElem?_getD, List.getElem?_eq_getElem (by omega)] at hd
        simp at hd
        rw [hd, h]
      · exact h
    have HS := Lib.hid (And.intro hs (And.intro hlo (And.intro hdp (And.intro hdb (And.intro hn hlen1)))))
    have ne0 : ((na : Int) == 0) = false := by simp; omega
    have e1 : IntKind.i64.wrap ((na : Int) - 1) = (n : Int) := by rw [show (na : Int) - 1 = n by omega]; exact wrapI n (by omega)
    obtain ⟨n15, hn15⟩ : ∃ z, 15 * n = z := ⟨_, rfl⟩
    have e2 : IntKind.i64.wrap (15 * (n : Int)) = (n15 : Int) := by rw [show 15 * (n : Int) = (n15 : Int) by omega]; exact wrapI n15 (by omega)
    have i0 : (0 : Int) ≤ (n : Int) := by omega
    have i1 : (n : Int) < (na : Int) := by omega
    have HN15 := Lib.hid hn15
    clear hla hn1 hc1 hcl hw1 hcut1 hN hna hlen1 hs hlo hdp hdb hd hn hn15
    go_enter Try.func78, Try.ntmps78
    go_wp2
    clear ne0 e1 e2 q0
    go_loopw [3, 4] (fun a b wr => ∃ (c z : Nat), a = .int .i64 ((n15 + c : Nat) : Int) ∧ b = .int .i64 z ∧ z = d / 2 ^ c ∧ (0 < c → 2 ^ (c - 1) ≤ d) ∧ w = wr) (fun _ b _ => (intOf b).toNat)
    case atStart => exact ⟨0, d, rfl, rfl, by simp, by omega, rfl⟩
    case round =>
      obtain ⟨c, z, rfl, rfl, hz, hc, rfl⟩ := hrel
      have hc15 : c ≤ 15 := by
        rcases Nat.lt_or_ge 15 c with h | h
        · have h1 := hc (by omega)
          have h2 := Nat.pow_le_pow_right (n := 2) (by omega) (show 15 ≤ c - 1 by omega)
          have := HS.out.2.2.2.1
          omega
        · exact h
      have hn6 : n15 ≤ 1500000 := by have := HN15.out; have := HS.out.2.2.2.2; omega
      have HZ := Lib.hid (And.intro hz (And.intro hc hc15))
      clear hz hc
      rcases Nat.eq_zero_or_pos z with h0 | h0
      · subst h0
        go_wp2
        go_ret
        obtain ⟨hz, hc, _⟩ := HZ.out
        obtain ⟨hs, hlo, hdp, hdb, _⟩ := HS.out
        have hlt : d < 2 ^ c := by
          rcases Nat.lt_or_ge d (2 ^ c) with h | h
          · exact h
          · have := Nat.div_pos h (Nat.pow_pos (by omega)); omega
        have hc0 : 0 < c := by
          rcases Nat.eq_zero_or_pos c with h | h
          · subst h; simp at hlt; omega
          · exact h
        have h1 := hc hc0
        refine ⟨rfl, n15 + c, rfl, ?_, fun _ => ⟨by omega, ?_⟩, fun h => ?_, by omega⟩
        · rw [Nat.pow_add, ← HN15.out, ← b15_pow, hs]
          have := Nat.mul_le_mul_left (B15 ^ n) (show d + 1 ≤ 2 ^ c by omega)
          rw [Nat.mul_add, Nat.mul_one] at this
          omega
        · rw [show n15 + c - 1 = n15 + (c - 1) by omega, Nat.pow_add, ← HN15.out, ← b15_pow, hs]
          have := Nat.mul_le_mul_left (B15 ^ n) h1
          omega
        · have := Nat.mul_le_mul_left (B15 ^ n) (show 1 ≤ d from hdp)
          have := b15_pos n
          omega
      · have e3 : decide ((z : Int) > 0) = true := decide_eq_true (by omega)
        obtain ⟨m, hm⟩ : ∃ m, n15 + c = m := ⟨_, rfl⟩
        rw [hm]
        have e4 : IntKind.i64.wrap ((m : Int) + 1) = ((m + 1 : Nat) : Int) := by rw [show (m : Int) + 1 = ((m + 1 : Nat) : Int) from rfl]; exact wrapI _ (by omega)
        have hzb : z ≤ 9223372036854775807 := by
          have h := HZ.out.1
          have h2 := Nat.div_le_self d (2 ^ c)
          have := HS.out.2.2.2.1
          omega
        have f2 : (z : Int).tdiv 2 = ((z / 2 : Nat) : Int) := by rw [Int.tdiv_eq_ediv_of_nonneg (by omega)]; omega
        have f1 : IntKind.i64.wrap ((z : Int).tdiv 2) = ((z / 2 : Nat) : Int) := by rw [f2]; exact wrapI _ (by omega)
        have f3 : (z : Int) / 2 = ((z / 2 : Nat) : Int) := by omega
        obtain ⟨z2, hz2⟩ : ∃ z2, z / 2 = z2 := ⟨_, rfl⟩
        rw [hz2] at f1 f2 f3
        have f4 := wrapI z2 (by omega)
        have HZ2 := Lib.hid (And.intro hz2 hm)
        clear hz2 hm
        go_wp2_with fail
        go_roundw
        case rel =>
          obtain ⟨hz, hc, _⟩ := HZ.out
          obtain ⟨hz2, hm⟩ := HZ2.out
          refine ⟨c + 1, z2, ?_, rfl, ?_, fun _ => ?_, trivial⟩
          · rw [← Nat.add_assoc, hm]; rfl
          · rw [← hz2, hz, Nat.div_div_eq_div_mul, Nat.pow_succ]
          · rw [Nat.add_sub_cancel]
            rcases Nat.lt_or_ge d (2 ^ c) with h | h
            · rw [Nat.div_eq_of_lt h] at hz; omega
            · exact h
        case measure => have := HZ2.out.1; simp [intOf]; omega

set_option maxHeartbeats 800000 in
theorem double_any (N : Nat) (x : Value) (w : World) (hx : Js w x N) (hN : FewD N) :
    Calls Try.prog 79 #[x] w fun e w' => ∃ v', e = .returned v' ∧ Js w' v' (N + N) ∧ Nw w w' := by
  have ha := natAdd_any N N x x w hx hx hN hN
  go_enter Try.func79, Try.ntmps79
  go_wp2_with fail
  refine ha.mono ?_
  rintro e w1 ⟨v1, rfl, h1, hk⟩
  go_wp2
  go_ret
  exact ⟨v1, rfl, h1, hk⟩
end Go.Proofs.Ythefkomalakfeaa.W
