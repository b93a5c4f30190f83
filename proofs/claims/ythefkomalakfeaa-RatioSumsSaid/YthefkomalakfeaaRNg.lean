/-
  The reference's natDiv, natGcd: what they return. Condition: at most 100000 digits; the divisor is not 0.
-/
import Derived.Test.YthefkomalakfeaaRNf
namespace Go.Proofs.Ythefkomalakfeaa.W
open Go.RowKit Go.Proofs.Ythefkomalakfeaa.Q

theorem FewD.mono {N M : Nat} (h : Q.FewD N) (hM : M ≤ N) : Q.FewD M := ⟨Nat.lt_of_le_of_lt hM h.lt⟩
theorem js_nil (w : World) : Js w (.slice none 0 0) 0 := ⟨[], dgV_nil _ _ _ (Nat.zero_le _), dwds_nil, dcut_nil, rfl, fun g hg => by cases hg⟩
theorem js_one {w : World} {g : Nat} (h : RowD w g [1]) : Js w (.slice (some ⟨g, 0, none⟩) 1 1) 1 := ⟨[1], RowD.dgV h (by simp), Dgs.one (by rw [b15_eq]; omega), by unfold Trm; simp, by simp [dnum], RowD.tyD h 1 1⟩
/-- a round of the division: a bit of the quotient -/
theorem ddiv_yes {N q a T : Nat} (h : N = q * (T + T) + a) (ht : T ≤ a) (ha : a < T + T) : N = (q + q + 1) * T + (a - T) ∧ a - T < T := by
  refine ⟨?_, by omega⟩
  rw [h, Nat.add_mul, Nat.add_mul, Nat.mul_add, Nat.one_mul]
  omega
theorem ddiv_no {N q a T : Nat} (h : N = q * (T + T) + a) (ht : ¬ T ≤ a) : N = (q + q) * T + a ∧ a < T := by
  refine ⟨?_, by omega⟩
  rw [h, Nat.add_mul, Nat.mul_add]
theorem pow_half (M e : Nat) (he : 0 < e) : M * 2 ^ e = M * 2 ^ (e - 1) + M * 2 ^ (e - 1) := by
  obtain ⟨k, rfl⟩ : ∃ k, e = k + 1 := ⟨e - 1, by omega⟩
  rw [Nat.add_sub_cancel, Nat.pow_succ, ← Nat.mul_assoc]
  omega

set_option maxRecDepth 100000 in
set_option maxHeartbeats 6400000 in
theorem natDiv_any (N M : Nat) (x y : Value) (w : World) (hx : Js w x N) (hy : Js w y M) (hF : FewD (2 * N + M + 2)) (hM : 0 < M) :
    Calls Try.prog 69 #[x, y] w fun e w' => ∃ vq vr, e = .returned (.tuple #[vq, vr]) ∧ Js w' vq (N / M) ∧ Js w' vr (N % M) ∧ Nw w w' := by
  have b1 := bits_any N x w hx (FewD.mono hF (by omega))
  have b2 := bits_any M y w hy (FewD.mono hF (by omega))
  have HX := Lib.hid hx
  have HY := Lib.hid hy
  have HF := Lib.hid hF
  have HM := Lib.hid hM
  clear hx hy hF hM
  go_enter Try.func69, Try.ntmps69
  go_wp2_with fail
  refine b1.mono ?_
  rintro e w1 ⟨rfl, ka, rfl, k1, k2, k3, k4⟩
  clear b1
  go_wp2_with fail
  refine b2.mono ?_
  rintro e w1 ⟨rfl, kb, rfl, k5, k6, k7, k8⟩
  clear b2
  have hM := HM.out
  obtain ⟨k9, k10⟩ := k6 hM
  rcases Nat.lt_or_ge ka kb with hlt | hge
  · obtain ⟨d, hd⟩ : ∃ d : Int, (ka : Int) - kb = d := ⟨_, rfl⟩
    have e0 : IntKind.i64.wrap ((ka : Int) - kb) = d := by rw [hd, IntKind.wrap_i64]; omega
    have e1 : decide ((0 : Int) < d) = false := decide_eq_false (by omega)
    have e2 : decide ((0 : Int) ≤ d) = false := decide_eq_false (by omega)
    have hNM : N < M := Nat.lt_of_lt_of_le k1 (Nat.le_trans (Nat.pow_le_pow_right (by omega) (by omega)) k10)
    have HNM := Lib.hid hNM
    clear hd hNM k1 k2 k3 k4 k5 k6 k7 k8 k9 k10 hlt hM
    go_wp2
    go_loopw [7, 8] (fun t i wr => y = t ∧ i = .int .i64 0 ∧ w = wr) (fun _ _ _ => 0)
    case atStart => exact ⟨rfl, rfl, rfl⟩
    case round =>
      obtain ⟨rfl, rfl, rfl⟩ := hrel
      go_wp2
      go_loopw [0, 7, 9, 10] (fun a t q i wr => x = a ∧ y = t ∧ q = .slice none 0 0 ∧ i = .int .i64 0 ∧ w = wr) (fun _ _ _ _ _ => 0)
      case atStart => exact ⟨rfl, rfl, rfl, rfl, rfl⟩
      case round =>
        obtain ⟨rfl, rfl, rfl, rfl, rfl⟩ := hrel
        go_wp2
        go_ret2
        refine ⟨_, _, rfl, ?_, ?_, Kp.refl _ _⟩
        · rw [Nat.div_eq_of_lt HNM.out]; exact js_nil _
        · rw [Nat.mod_eq_of_lt HNM.out]; exact HX.out
  · obtain ⟨n, hn⟩ : ∃ n, ka - kb = n := ⟨_, rfl⟩
    have e0 : IntKind.i64.wrap ((ka : Int) - kb) = (n : Int) := by rw [show (ka : Int) - kb = n by omega]; exact wrapI n (by omega)
    have hN0 : 0 < N := by
      rcases Nat.eq_zero_or_pos N with h | h
      · have := k3 h; omega
      · exact h
    obtain ⟨_, k11⟩ := k2 hN0
    have hlo : N < M * 2 ^ (n + 1) := by
      refine Nat.lt_of_lt_of_le k1 ?_
      rw [show ka = (kb - 1) + (n + 1) by omega, Nat.pow_add]
      exact Nat.mul_le_mul_right _ k10
    have hhi : M * 2 ^ n ≤ 2 * N := by
      have h1 : M * 2 ^ n < 2 ^ kb * 2 ^ n := (Nat.mul_lt_mul_right (Nat.pow_pos (by omega))).2 k5
      rw [← Nat.pow_add, show kb + n = (ka - 1) + 1 by omega, Nat.pow_succ] at h1
      omega
    have hnb : n ≤ 2000000 := by omega
    have HD := Lib.hid (And.intro hlo (And.intro hhi hnb))
    clear k1 k2 k3 k4 k5 k6 k7 k8 k9 k10 k11 hN0 hlo hhi hn hge hM
    go_wp2
    clear e0
    go_loopw [7, 8] (fun t i wr => ∃ k : Nat, i = .int .i64 k ∧ k ≤ n ∧ Js wr t (M * 2 ^ k) ∧ Nw w wr) (fun _ i _ => n - (intOf i).toNat)
    case atStart => exact ⟨0, rfl, Nat.zero_le _, by rw [Nat.pow_zero, Nat.mul_one]; exact HY.out, Kp.refl _ _⟩
    case round =>
      obtain ⟨k, rfl, hk, ht, hnw⟩ := hrel
      have HT := Lib.hid ht
      have HK := Lib.hid hnw
      clear ht hnw
      have k0 : (0 : Int) ≤ (k : Int) := by omega
      have e8 : IntKind.i64.wrap ((k : Int) + 1) = (k : Int) + 1 := by rw [IntKind.wrap_i64]; omega
      by_cases hkn : k < n
      · have ik : (k : Int) < (n : Int) := by omega
        have hdb := fun w1 h1 => double_any (M * 2 ^ k) u7 w1 h1 (FewD.mono HF.out (by have := HD.out.2.1; have := Nat.mul_le_mul_left M (Nat.pow_le_pow_right (n := 2) (by omega) hk); omega))
        go_wp2_with fail
        refine (hdb _ HT.out).mono ?_
        rintro e w2 ⟨v2, rfl, hj2, hk2⟩
        go_wp2_with fail
        go_roundw
        case rel => exact ⟨k + 1, by go_num, by omega, by rw [Nat.pow_succ, ← Nat.mul_assoc, Nat.mul_two]; exact hj2, HK.out.tr hk2⟩
        case measure => simp [intOf]; omega
      · obtain rfl : n = k := by omega
        go_wp2_with fail
        go_loopw [0, 7, 9, 10] (fun a t q i wx => ∃ k A Q T : Nat, i = .int .i64 k ∧ k ≤ n + 1 ∧ Js wx a A ∧ Js wx t T ∧ Js wx q Q ∧ (k ≤ n → T = M * 2 ^ (n - k)) ∧ N = Q * (M * 2 ^ (n + 1 - k)) + A ∧ A < M * 2 ^ (n + 1 - k) ∧ Nw w wx) (fun _ _ _ i _ => n + 1 - (intOf i).toNat)
        case atStart => exact ⟨0, N, 0, M * 2 ^ n, rfl, by omega, HX.out.nw HK.out, HT.out, js_nil _, fun _ => rfl, by simp, by simpa using HD.out.1, HK.out⟩
        case round =>
          obtain ⟨k, A, Q, T, rfl, hk, hja, hjt, hjq, hT, hN, hA, hnw⟩ := hrel
          have HJ := Lib.hid (And.intro hja (And.intro hjt (And.intro hjq (And.intro hT (And.intro hN hA)))))
          have HK2 := Lib.hid hnw
          clear hja hjt hjq hT hN hA hnw
          have k0 : (0 : Int) ≤ (k : Int) := by omega
          by_cases hkn : k ≤ n
          · have ik : decide ((k : Int) ≤ n) = true := decide_eq_true (by omega)
            have ik' : decide (k ≤ n) = true := decide_eq_true hkn
            have e8 : IntKind.i64.wrap ((k : Int) + 1) = (k : Int) + 1 := by rw [IntKind.wrap_i64]; have := HD.out.2.2; omega
            obtain ⟨_, _, _, hT, hN, hA⟩ := HJ.out
            have hT := hT hkn
            have hp := pow_half M (n + 1 - k) (by omega)
            rw [show n + 1 - k - 1 = n - k by omega, ← hT] at hp
            rw [hp] at hN hA
            have hTN : T ≤ 2 * N := by
              rw [hT]
              refine Nat.le_trans (Nat.mul_le_mul_left M (Nat.pow_le_pow_right (by omega) (show n - k ≤ n by omega))) HD.out.2.1
            have hQN : Q ≤ N := by
              have h1 : 1 ≤ T + T := by
                rw [hT]
                have := Nat.mul_le_mul HM.out (Nat.pow_pos (n := n - k) (show 0 < 2 by omega))
                omega
              have := Nat.mul_le_mul_left Q h1
              omega
            have hAN : A ≤ N := by rw [hN]; omega
            have hdb := fun w1 h1 => double_any Q u9 w1 h1 (FewD.mono HF.out (by omega))
            have hcm := fun w1 h1 h2 => natCmp_any A T u0 u7 w1 h1 h2 (FewD.mono HF.out (by omega)) (FewD.mono HF.out (by omega))
            have hhf := fun w1 h1 => half_any T u7 w1 h1 (FewD.mono HF.out (by omega))
            have hsb := fun w1 h1 h2 h3 => natSub_any A T u0 u7 w1 h1 h2 (FewD.mono HF.out (by omega)) h3
            have had := fun v2 v3 w1 h1 h2 => natAdd_any (Q + Q) 1 v2 v3 w1 h1 h2 (FewD.mono HF.out (by omega)) (FewD.mono HF.out (by omega))
            have HV := Lib.hid (And.intro hT (And.intro hN hA))
            clear hT hN hA hp hTN hQN hAN
            go_wp2_with fail
            refine (hdb _ HJ.out.2.2.1).mono ?_
            rintro e w2 ⟨v2, rfl, hj2, hk2⟩
            have HJ2 := Lib.hid hj2
            have HK3 := Lib.hid hk2
            clear hj2 hk2 hdb
            go_wp2_with fail
            refine (hcm _ (HJ.out.1.nw HK3.out) (HJ.out.2.1.nw HK3.out)).mono ?_
            rintro e w3 ⟨rfl, hk3⟩
            have HK4 := Lib.hid (HK3.out.tr hk3)
            clear hcm
            by_cases hTA : T ≤ A
            · have es : decide (sgn ((A : Int) - T) ≥ 0) = true := decide_eq_true (by rw [sgn_of]; split <;> (try split) <;> omega)
              obtain ⟨sg, hsg⟩ : ∃ z, sgn ((A : Int) - T) = z := ⟨_, rfl⟩
              rw [hsg] at es
              simp only [hsg]
              have HTA := Lib.hid hTA
              have HJ3 := Lib.hid (HJ2.out.nw hk3)
              clear hsg hTA hk3
              go_wp2_with fail
              refine (hsb _ (HJ.out.1.nw HK4.out) (HJ.out.2.1.nw HK4.out) HTA.out).mono ?_
              rintro e w4 ⟨v4, rfl, hj4, hk4⟩
              have HJ4 := Lib.hid hj4
              have HK5 := Lib.hid (HK4.out.tr hk4)
              have HJ5 := Lib.hid (HJ3.out.nw hk4)
              clear hj4 hk4 hsb
              have hone : RowD (w4.alloc (.cells #[.int .i64 1] 3)) w4.heap.size [1] := Blk.new w4 _ _
              have HONE := Lib.hid (js_one hone)
              clear hone
              go_wp2_with fail
              refine (had _ _ _ (HJ5.out.nw (nw_alloc _ _)) HONE.out).mono ?_
              rintro e w5 ⟨v5, rfl, hj5, hk5⟩
              have HJ6 := Lib.hid hj5
              have HK6 := Lib.hid ((HK5.out.alloc (.cells #[.int .i64 1] 3)).tr hk5)
              have HJ4' := Lib.hid ((HJ4.out.nw (nw_alloc w4 (.cells #[.int .i64 1] 3))).nw hk5)
              clear hj5 hk5 had
              go_wp2_with fail
              refine (hhf _ (HJ.out.2.1.nw HK6.out)).mono ?_
              rintro e w6 ⟨v6, rfl, hj6, hk6⟩
              go_wp2_with fail
              go_roundw
              case rel =>
                obtain ⟨hT, hN, hA⟩ := HV.out
                obtain ⟨hn1, hn2⟩ := ddiv_yes hN HTA.out hA
                refine ⟨k + 1, A - T, Q + Q + 1, T / 2, by go_num, by omega, HJ4'.out.nw hk6, hj6, HJ6.out.nw hk6, fun h => ?_, ?_, ?_, HK2.out.tr (HK6.out.tr hk6)⟩
                · rw [hT, show n - k = (n - (k + 1)) + 1 by omega, Nat.pow_succ, ← Nat.mul_assoc, Nat.mul_div_cancel _ (by omega)]
                · rw [show n + 1 - (k + 1) = n - k by omega, ← hT]; exact hn1
                · rw [show n + 1 - (k + 1) = n - k by omega, ← hT]; exact hn2
              case measure => simp [intOf]; omega
            · have es : decide (sgn ((A : Int) - T) ≥ 0) = false := decide_eq_false (by rw [sgn_of]; split <;> (try split) <;> omega)
              obtain ⟨sg, hsg⟩ : ∃ z, sgn ((A : Int) - T) = z := ⟨_, rfl⟩
              rw [hsg] at es
              simp only [hsg]
              have HTA := Lib.hid hTA
              have HJ3 := Lib.hid (HJ2.out.nw hk3)
              clear hsg hTA hk3 hsb had
              go_wp2_with fail
              refine (hhf _ (HJ.out.2.1.nw HK4.out)).mono ?_
              rintro e w6 ⟨v6, rfl, hj6, hk6⟩
              go_wp2_with fail
              go_roundw
              case rel =>
                obtain ⟨hT, hN, hA⟩ := HV.out
                obtain ⟨hn1, hn2⟩ := ddiv_no hN HTA.out
                refine ⟨k + 1, A, Q + Q, T / 2, by go_num, by omega, HJ.out.1.nw (HK4.out.tr hk6), hj6, HJ3.out.nw hk6, fun h => ?_, ?_, ?_, HK2.out.tr (HK4.out.tr hk6)⟩
                · rw [hT, show n - k = (n - (k + 1)) + 1 by omega, Nat.pow_succ, ← Nat.mul_assoc, Nat.mul_div_cancel _ (by omega)]
                · rw [show n + 1 - (k + 1) = n - k by omega, ← hT]; exact hn1
                · rw [show n + 1 - (k + 1) = n - k by omega, ← hT]; exact hn2
              case measure => simp [intOf]; omega
          · obtain rfl : k = n + 1 := by omega
            obtain ⟨_, _, _, _, hN, hA⟩ := HJ.out
            rw [Nat.sub_self, Nat.pow_zero, Nat.mul_one] at hN hA
            have hq : N / M = Q ∧ N % M = A := by
              have h1 : N / M = Q := by rw [hN, Nat.mul_comm, Nat.mul_add_div HM.out, Nat.div_eq_of_lt hA, Nat.add_zero]
              have h2 : N % M = A := by rw [hN, Nat.mul_comm, Nat.mul_add_mod, Nat.mod_eq_of_lt hA]
              exact ⟨h1, h2⟩
            have HQ := Lib.hid hq
            have ik : decide (((n : Int) + 1) ≤ n) = false := decide_eq_false (by omega)
            have ik' : decide (n + 1 ≤ n) = false := decide_eq_false (by omega)
            clear hN hA hq
            go_wp2
            go_ret2
            exact ⟨_, _, rfl, by rw [HQ.out.1]; exact HJ.out.2.2.1, by rw [HQ.out.2]; exact HJ.out.1, HK2.out⟩
end Go.Proofs.Ythefkomalakfeaa.W
