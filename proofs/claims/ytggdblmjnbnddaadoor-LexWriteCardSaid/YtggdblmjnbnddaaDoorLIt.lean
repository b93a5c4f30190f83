/-
  The reference's Itoa and Write. Condition: the number is an int.
-/
import Derived.Test.YtggdblmjnbnddaaDoorLWr
import Derived.Test.YtggdblmjnbnddaaDoorLCo
namespace Go.Proofs.YtggdblmjnbnddaaDoor.W
open Go.RowKit Go.Proofs.YtggdblmjnbnddaaDoor.Pl

/-- the digits of u, none for 0 -/
def dd (u : Nat) : List UInt8 := if u = 0 then [] else Lib.decDigits u
theorem dd_step {u : Nat} (h : 0 < u) : dd u = dd (u / 10) ++ [UInt8.ofNat (48 + u % 10)] := by
  unfold dd
  rw [if_neg (by omega)]
  by_cases h10 : u < 10
  · rw [Lib.decDigits, dif_pos h10, if_pos (by omega), Nat.mod_eq_of_lt h10]; rfl
  · rw [Lib.decDigits, dif_neg h10, if_neg (by omega)]
theorem nd_le : ∀ (k u : Nat), u < 10 ^ (k + 1) → Lib.nDigits u ≤ k + 1
  | 0, u, h => by rw [Lib.nDigits_small (by simpa using h)]; exact Nat.le_refl _
  | k + 1, u, h => by
    by_cases h10 : u < 10
    · rw [Lib.nDigits_small h10]; omega
    · rw [Lib.nDigits_big h10]
      have := nd_le k (u / 10) (by rw [Nat.pow_succ] at h; omega)
      omega
theorem dec_len {u : Nat} (h : u ≤ 9223372036854775808) : (Lib.decDigits u).length ≤ 20 := by
  rw [Lib.decDigits_length]
  exact nd_le 19 u (Nat.lt_of_le_of_lt h (by decide))

set_option maxRecDepth 100000 in
set_option maxHeartbeats 1600000 in
theorem refItoa_any (n : Int) (h0 : -9223372036854775808 ≤ n) (h1 : n ≤ 9223372036854775807) (w : World) :
    Calls Tryd.prog 27 #[.int .i64 n] w fun e w' => e = .returned (.string (tx (Lib.itoa n))) ∧ Nw w w' := by
  by_cases hz : n = 0
  · subst hz
    have hi : Lib.itoa 0 = [48] := by
      unfold Lib.itoa
      rw [if_neg (by decide)]
      exact Lib.decDigits_one (i := 0) (by decide)
    rw [hi]
    go_enter Tryd.func27, Tryd.ntmps27
    go_wp2_with fail
    go_ret
    exact ⟨rfl, Kp.refl _ _⟩
  obtain ⟨U, hU⟩ : ∃ U, n.natAbs = U := ⟨_, rfl⟩
  have hU0 : 0 < U := by omega
  have hU1 : U ≤ 9223372036854775808 := by omega
  have hlen := dec_len hU1
  by_cases hneg : n < 0
  · have hit : Lib.itoa n = 45 :: Lib.decDigits U := by unfold Lib.itoa; rw [if_pos hneg, hU]
    have HI := Lib.hid hit
    have hn : n = -(U : Int) := by omega
    subst hn
    have hw1 : IntKind.u64.wrap (-IntKind.u64.wrap (-(U : Int))) = (U : Int) := by rw [IntKind.wrap_u64, IntKind.wrap_u64]; omega
    clear hit hU
    go_enter Tryd.func27, Tryd.ntmps27
    go_wp2_with fail
    have HL := Lib.hid hlen
    clear hlen hw1
    go_loopw [3, 5] (fun u b wr => ∃ (k : Nat) (t : List UInt8), u = .int .u64 k ∧ b = .string (tx t) ∧ k ≤ U ∧ dd k ++ t = Lib.decDigits U ∧ Nw w wr) (fun u _ _ => (intOf u).toNat)
    case atStart => exact ⟨U, [], rfl, rfl, Nat.le_refl _, by unfold dd; rw [if_neg (by omega), List.append_nil], Kp.refl _ _⟩
    case round =>
      obtain ⟨k, t, rfl, rfl, hk, hd, hnw⟩ := hrel
      have htl : t.length ≤ 20 := by have := congrArg List.length hd; rw [List.length_append] at this; have := HL.out; omega
      have hst := tx_size t
      have HD := Lib.hid hd
      have HW := Lib.hid hnw
      clear hd
      by_cases h0 : 0 < k
      · obtain ⟨x, hx⟩ : ∃ x, 48 + k % 10 = x := ⟨_, rfl⟩
        obtain ⟨q, hq⟩ : ∃ q, k / 10 = q := ⟨_, rfl⟩
        have hxi : (48 : Int) + (k : Int) % 10 = (x : Int) := by omega
        have hqi : (k : Int) / 10 = (q : Int) := by omega
        have hxw : IntKind.u8.wrap (x : Int) = (x : Int) := by rw [IntKind.wrap_u8]; omega
        have hxu : IntKind.u64.wrap (x : Int) = (x : Int) := by rw [IntKind.wrap_u64]; omega
        have hdg := decide_eq_true (p := (0 : Int) < (k : Int)) (by omega)
        have hdn := decide_eq_true (p := 0 < k) h0
        have hcv := conv_new wr x
        have hs1 : (tx [UInt8.ofNat x]).size = 1 := by rw [tx_size]; rfl
        have hcat := tx_app [UInt8.ofNat x] t
        have HN := Lib.hid (show dd q ++ ([UInt8.ofNat x] ++ t) = Lib.decDigits U by rw [← HD.out, dd_step h0, hx, hq, List.append_assoc])
        have hqk : q < k := by omega
        clear hnw hx hq
        go_wp2_with fail
        go_roundw
        case rel => exact ⟨q, [UInt8.ofNat x] ++ t, by first | rfl | go_num, rfl, by omega, HN.out, HW.out.alloc _⟩
        case measure => simp [intOf]; omega
      · have htd : t = Lib.decDigits U := by have := HD.out; unfold dd at this; rw [if_pos (by omega)] at this; exact this
        have HTD := Lib.hid htd
        have hdg := decide_eq_false (p := (0 : Int) < (k : Int)) (by omega)
        have hdn := decide_eq_false (p := 0 < k) h0
        clear htd h0
        have hcat : ByteArray.mk #[45] ++ tx t = tx (45 :: t) := tx_ap2 #[45] t
        clear hnw
        go_wp2_with fail
        go_ret
        exact ⟨by rw [HI.out, ← HTD.out]; rfl, HW.out⟩
  · have hit : Lib.itoa n = Lib.decDigits U := by unfold Lib.itoa; rw [if_neg hneg]; congr 1; omega
    have HI := Lib.hid hit
    have hn : n = (U : Int) := by omega
    subst hn
    have hw1 : IntKind.u64.wrap (U : Int) = (U : Int) := by rw [IntKind.wrap_u64]; omega
    clear hit hU
    go_enter Tryd.func27, Tryd.ntmps27
    go_wp2_with fail
    have HL := Lib.hid hlen
    clear hlen hw1
    go_loopw [3, 5] (fun u b wr => ∃ (k : Nat) (t : List UInt8), u = .int .u64 k ∧ b = .string (tx t) ∧ k ≤ U ∧ dd k ++ t = Lib.decDigits U ∧ Nw w wr) (fun u _ _ => (intOf u).toNat)
    case atStart => exact ⟨U, [], rfl, rfl, Nat.le_refl _, by unfold dd; rw [if_neg (by omega), List.append_nil], Kp.refl _ _⟩
    case round =>
      obtain ⟨k, t, rfl, rfl, hk, hd, hnw⟩ := hrel
      have htl : t.length ≤ 20 := by have := congrArg List.length hd; rw [List.length_append] at this; have := HL.out; omega
      have hst := tx_size t
      have HD := Lib.hid hd
      have HW := Lib.hid hnw
      clear hd
      by_cases h0 : 0 < k
      · obtain ⟨x, hx⟩ : ∃ x, 48 + k % 10 = x := ⟨_, rfl⟩
        obtain ⟨q, hq⟩ : ∃ q, k / 10 = q := ⟨_, rfl⟩
        have hxi : (48 : Int) + (k : Int) % 10 = (x : Int) := by omega
        have hqi : (k : Int) / 10 = (q : Int) := by omega
        have hxw : IntKind.u8.wrap (x : Int) = (x : Int) := by rw [IntKind.wrap_u8]; omega
        have hxu : IntKind.u64.wrap (x : Int) = (x : Int) := by rw [IntKind.wrap_u64]; omega
        have hdg := decide_eq_true (p := (0 : Int) < (k : Int)) (by omega)
        have hdn := decide_eq_true (p := 0 < k) h0
        have hcv := conv_new wr x
        have hs1 : (tx [UInt8.ofNat x]).size = 1 := by rw [tx_size]; rfl
        have hcat := tx_app [UInt8.ofNat x] t
        have HN := Lib.hid (show dd q ++ ([UInt8.ofNat x] ++ t) = Lib.decDigits U by rw [← HD.out, dd_step h0, hx, hq, List.append_assoc])
        have hqk : q < k := by omega
        clear hnw hx hq
        go_wp2_with fail
        go_roundw
        case rel => exact ⟨q, [UInt8.ofNat x] ++ t, by first | rfl | go_num, rfl, by omega, HN.out, HW.out.alloc _⟩
        case measure => simp [intOf]; omega
      · have htd : t = Lib.decDigits U := by have := HD.out; unfold dd at this; rw [if_pos (by omega)] at this; exact this
        have HTD := Lib.hid htd
        have hdg := decide_eq_false (p := (0 : Int) < (k : Int)) (by omega)
        have hdn := decide_eq_false (p := 0 < k) h0
        clear htd h0
        have hcat : ByteArray.mk #[] ++ tx t = tx t := tx_ap2 #[] t
        clear hnw
        go_wp2_with fail
        go_ret
        exact ⟨by rw [HI.out, ← HTD.out]; rfl, HW.out⟩

set_option maxRecDepth 100000 in
set_option maxHeartbeats 1600000 in
theorem refWrite_any (t : Tk) (w : World) (hf : Fit t) :
    Calls Tryd.prog 16 #[.agg #[.int .i64 t.kind, .string (tx t.text), .int .i64 t.n, .int .i64 t.at_]] w fun e w' => e = .returned (.string (tx (wr t))) ∧ Nw w w' := by
  obtain ⟨k, x, n, a⟩ := t
  by_cases hk : k = 2
  · subst hk
    have hw : wr ⟨2, x, n, a⟩ = Lib.itoa n := rfl
    rw [hw]
    go_enter Tryd.func16, Tryd.ntmps16
    have HW := Lib.hid (show Nw w (w.alloc (.cells #[.int .i64 2, .string (tx x), .int .i64 n, .int .i64 a] 34)) from (Kp.refl _ w).alloc _)
    go_wp2_with (go_at_call 27; refine (refItoa_any n hf.1 hf.2 _).mono ?_; rintro e w1 ⟨rfl, hk1⟩)
    go_ret
    exact ⟨rfl, HW.out.tr hk1⟩
  · have hw : wr ⟨k, x, n, a⟩ = x := by unfold wr; simp [hk]
    rw [hw]
    go_enter Tryd.func16, Tryd.ntmps16
    go_wp2_with fail
    go_ret
    exact ⟨rfl, (Kp.refl _ w).alloc _⟩
end Go.Proofs.YtggdblmjnbnddaaDoor.W
