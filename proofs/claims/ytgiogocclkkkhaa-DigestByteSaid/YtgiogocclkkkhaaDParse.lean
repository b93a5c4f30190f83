/-
  digest.digitValue, digest.Parse, fretsawref02.Parse: the number with the given digits. No condition.
-/
import Derived.Test.YtgiogocclkkkhaaStrL
import Derived.Test.YtgiogocclkkkhaaSameL
import Derived.Test.YtgiogocclkkkhaaDHexP
import Derived.Laws.RangeAny
import Derived.IntWalk
namespace Go.Proofs.Ytgiogocclkkkhaa.W
open Go.RowKit Go.Proofs.Ytgiogocclkkkhaa.Pl

def prsV (l : List Int) : Int := (prs l).getD 0
def prsE (l : List Int) : Int := if (prs l).isSome then 0 else 3
theorem prs_some {l : List Int} {m : Int} (h : prs l = some m) : prsV l = m ∧ prsE l = 0 := by unfold prsV prsE; rw [h]; exact ⟨rfl, rfl⟩
theorem prs_none {l : List Int} (h : prs l = none) : prsV l = 0 ∧ prsE l = 3 := by unfold prsV prsE; rw [h]; exact ⟨rfl, rfl⟩
theorem prs_len {l : List Int} (h : l.length ≠ 16) : prs l = none := by unfold prs; rw [if_neg h]
theorem prs_at {l : List Int} {k : Nat} {x : Int} (hx : l[k]? = some x) (hv : hexv x = none) : prs l = none := by
  unfold prs
  split
  · obtain ⟨hlt, rfl⟩ := List.getElem?_eq_some_iff.1 hx
    have e : l = l.take k ++ l[k] :: l.drop (k + 1) := by simp
    rw [e]
    exact prsF_bad hv
  · rfl
theorem ret_two {a b a' b' : Value} (h1 : a = a') (h2 : b = b') : Ending.returned (.tuple #[a, b]) = .returned (.tuple #[a', b']) := by rw [h1, h2]
theorem val_u64 {a b : Int} (h : a = b) : Value.int .u64 a = .int .u64 b := by rw [h]
theorem val_i64 {a b : Int} (h : a = b) : Value.int .i64 a = .int .i64 b := by rw [h]

set_option maxHeartbeats 400000 in
theorem dv_any (c : Int) (w : World) (h0 : 0 ≤ c) (h1 : c ≤ 2147483647) :
    Calls Try.prog 61 #[.int .i32 c] w fun e w' => e = .returned (.tuple #[.int .u64 ((hexv c).getD 0), .bool (hexv c).isSome]) ∧ w = w' := by
  by_cases ha : 48 ≤ c
  · by_cases hb : c ≤ 57
    · have hh : hexv c = some (c - 48) := by unfold hexv; rw [if_pos ⟨ha, hb⟩]
      rw [hh]
      clear hh
      go_enter Try.func61, Try.ntmps61
      go_wp2
      go_ret2
      exact ⟨rfl, rfl⟩
    · by_cases hc : 97 ≤ c
      · by_cases hd : c ≤ 102
        · have hh : hexv c = some (c - 97 + 10) := by unfold hexv; rw [if_neg (by omega), if_pos ⟨hc, hd⟩]; congr 1; omega
          rw [hh]
          clear hh
          go_enter Try.func61, Try.ntmps61
          go_wp2
          go_ret2
          exact ⟨rfl, rfl⟩
        · have hh : hexv c = none := by unfold hexv; rw [if_neg (by omega), if_neg (by omega)]
          rw [hh]
          clear hh
          go_enter Try.func61, Try.ntmps61
          go_wp2
          go_ret2
          exact ⟨rfl, rfl⟩
      · have hh : hexv c = none := by unfold hexv; rw [if_neg (by omega), if_neg (by omega)]
        rw [hh]
        clear hh
        go_enter Try.func61, Try.ntmps61
        go_wp2
        go_ret2
        exact ⟨rfl, rfl⟩
  · have hh : hexv c = none := by unfold hexv; rw [if_neg (by omega), if_neg (by omega)]
    rw [hh]
    clear hh
    go_enter Try.func61, Try.ntmps61
    go_wp2
    go_ret2
    exact ⟨rfl, rfl⟩
theorem dv_good (c v : Int) (w : World) (h0 : 0 ≤ c) (h1 : c ≤ 2147483647) (h : hexv c = some v) :
    Calls Try.prog 61 #[.int .i32 c] w fun e w' => e = .returned (.tuple #[.int .u64 v, .bool true]) ∧ w = w' :=
  (dv_any c w h0 h1).mono fun _ _ ⟨a, b⟩ => ⟨by rw [a, h]; rfl, b⟩
theorem dv_bad (c : Int) (w : World) (h0 : 0 ≤ c) (h1 : c ≤ 2147483647) (h : hexv c = none) :
    Calls Try.prog 61 #[.int .i32 c] w fun e w' => e = .returned (.tuple #[.int .u64 0, .bool false]) ∧ w = w' :=
  (dv_any c w h0 h1).mono fun _ _ ⟨a, b⟩ => ⟨by rw [a, h]; rfl, b⟩

theorem strL_at {s : ByteArray} {k : Nat} (h : k < s.size) : (strL s)[k]? = some ((s[k]'h).toNat : Int) := by
  unfold strL
  rw [List.getElem?_map, List.getElem?_eq_getElem (by rw [Array.length_toList]; exact h)]
  rfl
theorem iter_below (w : World) (s : ByteArray) (k : Nat) : Below w.heap.size w (w.iter s k) := (Below.refl _ _).alloc (Nat.le_refl _) (.stringIter s k)
theorem or_digit {m v : Int} (h0 : 0 ≤ m) (h1 : m < 1152921504606846976) (hv : 0 ≤ v ∧ v < 16) : bits BinOp.or IntKind.u64 (m * 16) v = m * 16 + v := by
  rw [u64_or _ _ (by omega) (by omega) (by omega) (by omega)]
  have e : (m * 16).toNat = 2 ^ 4 * m.toNat := by omega
  rw [e, ← Nat.two_pow_add_eq_or_of_lt (i := 4) (by omega)]
  omega
theorem prs_room {l : List Int} {k : Nat} {m : Int} (h : prsF 0 (l.take k) = some m) (hk : k < 16) : 0 ≤ m ∧ m < 1152921504606846976 := by
  obtain ⟨h0, h1⟩ := prsF_lt h
  refine ⟨h0, Int.lt_of_lt_of_le h1 ?_⟩
  have hl : (l.take k).length ≤ 15 := by rw [List.length_take]; omega
  have := Nat.pow_le_pow_right (n := 16) (by decide) hl
  have e : (16 : Int) ^ (l.take k).length = ((16 ^ (l.take k).length : Nat) : Int) := by rw [Int.natCast_pow]; rfl
  rw [e]
  have e2 : (16 : Nat) ^ 15 = 1152921504606846976 := by decide
  omega
theorem prs_take {l : List Int} {k : Nat} {m x v : Int} (h : prsF 0 (l.take k) = some m) (hx : l[k]? = some x) (hv : hexv x = some v) : prsF 0 (l.take (k + 1)) = some (m * 16 + v) := by
  rw [List.take_add_one, hx]
  exact prsF_snoc h hv
theorem prs_end {l : List Int} {m : Int} (hl : l.length = 16) (h : prsF 0 (l.take 16) = some m) : prs l = some m := by
  unfold prs
  rw [if_pos hl]
  rwa [List.take_of_length_le (by omega)] at h

set_option maxRecDepth 100000 in
set_option maxHeartbeats 800000 in
theorem parse_any (s : ByteArray) (w : World) :
    Calls Try.prog 29 #[.string s] w fun e w' => e = .returned (.tuple #[.int .u64 (prsV (strL s)), .int .i64 (prsE (strL s))]) ∧ Below w.heap.size w w' := by
  have hlen := strL_length s
  by_cases h16 : s.size = 16
  · have hne : ((s.size : Int) != 16) = false := by simp [h16]
    have H16 := Lib.hid h16
    have HLEN := Lib.hid (hlen.trans h16)
    clear hlen h16
    go_enter Try.func29, Try.ntmps29
    go_wp2
    go_loopw [4] (fun h wr => ∃ (k : Nat) (m : Int), k ≤ 16 ∧ h = .int .u64 m ∧ wr = w.iter s k ∧ Hid (prsF 0 ((strL s).take k) = some m)) (fun _ wr => 16 - wr.iterPos w.heap.size)
    case atStart => exact ⟨0, 0, by omega, rfl, rfl, Lib.hid rfl⟩
    case round =>
      obtain ⟨k, m, hk, rfl, rfl, HP⟩ := hrel
      by_cases hlt : k < 16
      · have hks : k < s.size := by rw [H16.out]; exact hlt
        have hx := strL_at hks
        have hr := prs_room HP.out hlt
        have hnx := fun ty => run_next_any (P := Try.prog) w s k ty hks
        by_cases ha : (s[k]'hks).toNat < 128
        · rw [decode_ascii s k hks ha] at hnx
          simp only at hnx
          cases hv : hexv ((s[k]'hks).toNat : Int) with
          | some v =>
            have HN := Lib.hid (prs_take HP.out hx hv)
            have hv2 := (hexd_hexv hv).2
            have ho := or_digit hr.1 hr.2 hv2
            have hlt2 : ((s[k]'hks).toNat : Int) ≤ 2147483647 := by omega
            have HV := Lib.hid hv
            clear hv hx
            generalize ((s[k]'hks).toNat : Nat) = x at *
            go_wp2_with (go_at_call 61; ((with_reducible refine (dv_good _ v _ (Int.natCast_nonneg _) hlt2 HV.out).mono ?_); rintro e w1 ⟨rfl, rfl⟩))
            refine ⟨⟨k + 1, m * 16 + v, by omega, rfl, rfl, HN⟩, ?_⟩
            simp
            omega
          | none =>
            have hlt2 : ((s[k]'hks).toNat : Int) ≤ 2147483647 := by omega
            obtain ⟨e1, e2⟩ := prs_none (prs_at hx hv)
            have E1 := Lib.hid e1
            have E2 := Lib.hid e2
            have HV := Lib.hid hv
            clear hv hx e1 e2
            go_wp2_with (go_at_call 61; ((with_reducible refine (dv_bad _ _ (Int.natCast_nonneg _) hlt2 HV.out).mono ?_); rintro e w1 ⟨rfl, rfl⟩))
            go_ret2
            exact ⟨ret_two (val_u64 E1.out.symm) (val_i64 E2.out.symm), iter_below _ _ _⟩
        · obtain ⟨hd1, hd2⟩ := decode_high s k hks (by omega)
          have hd3 := decode_le s k
          have hx2 : hexv ((s[k]'hks).toNat : Int) = none := by unfold hexv; rw [if_neg (by omega), if_neg (by omega)]
          have hv : hexv ((Utf8.decode s k).1 : Int) = none := by unfold hexv; rw [if_neg (by omega), if_neg (by omega)]
          obtain ⟨e1, e2⟩ := prs_none (prs_at hx hx2)
          have hlt2 : ((Utf8.decode s k).1 : Int) ≤ 2147483647 := by omega
          have E1 := Lib.hid e1
          have E2 := Lib.hid e2
          have HV := Lib.hid hv
          clear hv hx e1 e2 hx2 hd1 hd2 hd3
          go_wp2_with (go_at_call 61; ((with_reducible refine (dv_bad _ _ (Int.natCast_nonneg _) hlt2 HV.out).mono ?_); rintro e w1 ⟨rfl, rfl⟩))
          go_ret2
          exact ⟨ret_two (val_u64 E1.out.symm) (val_i64 E2.out.symm), iter_below _ _ _⟩
      · obtain rfl : k = 16 := by omega
        have hnx := fun ty => run_next_end (P := Try.prog) w s 16 ty (by rw [H16.out]; omega)
        obtain ⟨e1, e2⟩ := prs_some (prs_end HLEN.out HP.out)
        have E1 := Lib.hid e1
        have E2 := Lib.hid e2
        clear e1 e2
        go_wp2
        go_ret2
        exact ⟨ret_two (val_u64 E1.out.symm) (val_i64 E2.out.symm), iter_below _ _ _⟩
  · have hne : ((s.size : Int) != 16) = true := by rw [bne_iff_ne]; omega
    obtain ⟨e1, e2⟩ := prs_none (prs_len (l := strL s) (by rw [hlen]; exact h16))
    rw [e1, e2]
    clear e1 e2 h16 hlen
    go_enter Try.func29, Try.ntmps29
    go_wp2
    go_ret2
    exact ⟨rfl, Below.refl _ _⟩
end Go.Proofs.Ytgiogocclkkkhaa.W
