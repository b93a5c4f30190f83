/-
  fretsawref01.width: the number of bytes of the two's complement. Condition: the integer has 64 bits.
-/
import Derived.Test.YtfphdpcffjpbjaaSize
namespace Go.Proofs.Ytfphdpcffjpbjaa.W
open Go.RowKit Go.Proofs.Ytfphdpcffjpbjaa.Pl

theorem fit_iff (n : Int) (k : Nat) : fit n k = true ↔ -(2 ^ (8 * k - 1) : Int) ≤ n ∧ n < 2 ^ (8 * k - 1) := by
  unfold fit
  have hp : (0 : Int) < 2 ^ (8 * k - 1) := Int.pow_pos (by decide)
  generalize (2 : Int) ^ (8 * k - 1) = p at hp
  rw [Bool.or_eq_true, beq_iff_eq, beq_iff_eq]
  constructor
  · rintro (h | h)
    · have h1 := Int.emod_def n p
      have h2 := Int.emod_nonneg n (Int.ne_of_gt hp)
      have h3 := Int.emod_lt_of_pos n hp
      rw [h, Int.mul_zero] at h1
      omega
    · have h1 := Int.emod_def n p
      have h2 := Int.emod_nonneg n (Int.ne_of_gt hp)
      have h3 := Int.emod_lt_of_pos n hp
      rw [h] at h1
      omega
  · rintro ⟨h1, h2⟩
    by_cases h0 : 0 ≤ n
    · exact .inl (Int.ediv_eq_zero_of_lt h0 h2)
    · refine .inr ?_
      have h3 : (n + p) / p = 0 := Int.ediv_eq_zero_of_lt (by omega) (by omega)
      have h4 : (n + p) / p = n / p + 1 := by
        have := Int.add_mul_ediv_right n 1 (c := p) (Int.ne_of_gt hp)
        rwa [Int.one_mul] at this
      omega
theorem two_pow_le {j m : Nat} (h : j ≤ m) : (2 : Int) ^ j ≤ 2 ^ m := by
  have h1 := Nat.pow_le_pow_right (n := 2) (by decide) h
  have h2 : ((2 ^ j : Nat) : Int) ≤ ((2 ^ m : Nat) : Int) := by omega
  simpa using h2

set_option maxRecDepth 100000 in
set_option maxHeartbeats 800000 in
theorem width_any (n : Int) (w : World) (h : I64 n) :
    Calls Try.prog 79 #[.int .i64 n] w fun e w' => e = .returned (.int .i64 (sz n)) ∧ w = w' := by
  by_cases h0 : n = 0
  · subst h0
    go_enter Try.func79, Try.ntmps79
    go_wp2
    go_ret
    exact ⟨rfl, rfl⟩
  · have hb : (n == 0) = false := by simpa using h0
    have hs : Hid (sz n = szFrom n 7 1) := by show sz n = _; unfold sz; rw [if_neg h0]
    obtain ⟨hn1, hn2⟩ := h
    clear h0
    go_enter Try.func79, Try.ntmps79
    go_wp2
    go_loop [3] (fun s => ∃ k : Nat, 1 ≤ k ∧ k ≤ 8 ∧ sz n = szFrom n (8 - k) k ∧ s = .int .i64 k) (fun s => (8 - intOf s).toNat)
    case atStart => exact ⟨1, by omega, by omega, hs.out, rfl⟩
    case round =>
      obtain ⟨k, hk1, hk8, hz, rfl⟩ := hrel
      have HZ := Lib.hid hz
      clear hz
      by_cases hlt : k < 8
      · go_wp2
        go_loop [4, 5] (fun lim i => ∃ (j : Nat) (p : Int), j ≤ 8 * k - 1 ∧ i = .int .i64 j ∧ lim = .int .i64 p ∧ Hid (p = 2 ^ j)) (fun _ i => 8 * k - 1 - (intOf i).toNat)
        case atStart => exact ⟨0, 1, by omega, rfl, rfl, Lib.hid rfl⟩
        case round =>
          obtain ⟨j, p, hj, rfl, rfl, hp⟩ := hrel
          have hp1 : 1 ≤ p := by rw [hp.out]; exact two_pow_le (j := 0) (Nat.zero_le _)
          have hp2 : p ≤ 36028797018963968 := by rw [hp.out]; exact two_pow_le (m := 55) (by omega)
          by_cases hjl : j < 8 * k - 1
          · have hx := Lib.hid (show 2 * p = 2 ^ (j + 1) by rw [hp.out, Int.pow_succ, Int.mul_comm])
            go_wp2
            exact ⟨⟨j + 1, 2 * p, by omega, by go_num, rfl, hx⟩, by simp [intOf]; omega⟩
          · obtain rfl : j = 8 * k - 1 := by omega
            by_cases hA : -p ≤ n
            · by_cases hB : n < p
              · have hx := Lib.hid (show szFrom n (8 - k) k = k by
                  obtain ⟨f, hf⟩ : ∃ f, 8 - k = f + 1 := ⟨7 - k, by omega⟩
                  rw [hf]
                  unfold szFrom
                  rw [if_pos ((fit_iff n k).2 (by rw [← hp.out]; exact ⟨hA, hB⟩))])
                have hA2 : decide (-p ≤ n) = true := decide_eq_true hA
                have hB2 : decide (n < p) = true := decide_eq_true hB
                go_wp2
                go_ret
                exact ⟨ret_int (by rw [HZ.out, hx.out]), rfl⟩
              · have hx := Lib.hid (show szFrom n (8 - k) k = szFrom n (8 - (k + 1)) (k + 1) by
                  obtain ⟨f, hf⟩ : ∃ f, 8 - k = f + 1 := ⟨7 - k, by omega⟩
                  have hf2 : 8 - (k + 1) = f := by omega
                  rw [hf, hf2]
                  show (if fit n k = true then k else _) = _
                  rw [if_neg (fun hc => hB (by rw [hp.out]; exact ((fit_iff n k).1 hc).2))])
                have hA2 : decide (-p ≤ n) = true := decide_eq_true hA
                have hB2 : decide (n < p) = false := decide_eq_false hB
                go_wp2
                exact ⟨⟨k + 1, by omega, by omega, by rw [HZ.out, hx.out], by go_num⟩, by simp [intOf]; omega⟩
            · have hx := Lib.hid (show szFrom n (8 - k) k = szFrom n (8 - (k + 1)) (k + 1) by
                obtain ⟨f, hf⟩ : ∃ f, 8 - k = f + 1 := ⟨7 - k, by omega⟩
                have hf2 : 8 - (k + 1) = f := by omega
                rw [hf, hf2]
                show (if fit n k = true then k else _) = _
                rw [if_neg (fun hc => hA (by rw [hp.out]; exact ((fit_iff n k).1 hc).1))])
              have hA2 : decide (-p ≤ n) = false := decide_eq_false hA
              go_wp2
              exact ⟨⟨k + 1, by omega, by omega, by rw [HZ.out, hx.out], by go_num⟩, by simp [intOf]; omega⟩
      · obtain rfl : k = 8 := by omega
        go_wp2
        go_ret
        exact ⟨ret_int (by rw [HZ.out]; rfl), rfl⟩
end Go.Proofs.Ytfphdpcffjpbjaa.W
