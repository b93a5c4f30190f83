/-
  ratio.nat: trimmed, word, mod: what they return. Condition: at most 2^40 words.
-/
import Derived.Test.YthefkomalakfeaaQE
import Derived.Test.YthefkomalakfeaaQNp
namespace Go.Proofs.Ythefkomalakfeaa.W
open Go.RowKit Go.Proofs.Ythefkomalakfeaa.Q

/-- words as Go's values -/
def wdV (l : List Nat) : List Value := l.map fun (n : Nat) => .int .u64 (n : Int)
theorem wdV_len (l : List Nat) : (wdV l).length = l.length := List.length_map _
theorem wdV_at (l : List Nat) (k : Nat) : (wdV l)[k]? = l[k]?.map fun (n : Nat) => .int .u64 (n : Int) := List.getElem?_map
theorem wdV_app (l m : List Nat) : wdV (l ++ m) = wdV l ++ wdV m := List.map_append
/-- v reads as these words -/
abbrev NatV (w : World) (v : Value) (l : List Nat) : Prop := Src w 1 v l.length (wdV l)
theorem natV_nil (w : World) (A : Option Addr) (c : Nat) (hc : c ≤ maxLen) : NatV w (.slice A 0 c) [] := ⟨rfl, A, c, rfl, Nat.zero_le _, hc, fun h => absurd h (Nat.lt_irrefl 0)⟩
theorem NatV.nw {w w' : World} {v : Value} {l : List Nat} (h : NatV w v l) (hk : Nw w w') : NatV w' v l := Src.nw h hk
/-- the value lies in a row of words -/
def TyW (w : World) (v : Value) : Prop := ∀ g, v.ownBlock = some g → ∃ cs, Blk w g 48 cs
theorem TyW.kp {S : Nat → Prop} {w w' : World} {v : Value} (h : TyW w v) (hk : Kp S w w') (hS : ∀ g cs, Blk w g 48 cs → ¬ S g) : TyW w' v := fun g hg => by
  obtain ⟨cs, hb⟩ := h g hg
  exact ⟨cs, hb.kp hk (hS g cs hb)⟩
theorem TyW.re {w : World} {A : Option Addr} {n c m d : Nat} (h : TyW w (.slice A n c)) : TyW w (.slice A m d) := fun g hg => h g (by cases A <;> exact hg)
/-- a number as a value: its words, none needless -/
def Is (w : World) (v : Value) (N : Nat) : Prop := ∃ l, NatV w v l ∧ Wds l ∧ Cut l ∧ num l = N ∧ TyW w v
/-- changes of what holds no words -/
theorem Is.kp {S : Nat → Prop} {w w' : World} {v : Value} {N : Nat} (h : Is w v N) (hk : Kp S w w') (hS : ∀ g cs, Blk w g 48 cs → ¬ S g) : Is w' v N := by
  obtain ⟨l, h1, h2, h3, h4, h5⟩ := h
  exact ⟨l, Src.kp h1 hk fun g _ hg => by obtain ⟨cs, hb⟩ := h5 g hg; exact hS g cs hb, h2, h3, h4, h5.kp hk hS⟩
theorem Is.nw {w w' : World} {v : Value} {N : Nat} (h : Is w v N) (hk : Nw w w') : Is w' v N := h.kp hk fun _ _ _ e => e

set_option maxHeartbeats 1600000 in
theorem trimmed_any (l : List Nat) (v : Value) (w : World) (hv : NatV w v l) (hw : Wds l) (hlen : l.length ≤ 1099511627776) (hT : TyW w v) :
    Calls Try.prog 73 #[v] w fun e w' => w = w' ∧ ∃ v', e = .returned v' ∧ Is w v' (num l) := by
  obtain ⟨hl, A, c, rfl, hnc, hcm, hcell⟩ := hv
  obtain ⟨n, hn⟩ : ∃ n, l.length = n := ⟨_, rfl⟩
  rw [hn] at hlen hnc hcell hl ⊢
  have i1 : (0 : Int) ≤ (c : Int) := by omega
  unfold maxLen at hcm
  have HN := Lib.hid hn
  have HC := Lib.hid hcell
  have HW := Lib.hid hw
  have HT := Lib.hid hT
  clear hl hn hcell hw hT
  go_enter Try.func73, Try.ntmps73
  go_wp2
  go_loopw [3] (fun s wr => ∃ k : Nat, s = .int .i64 k ∧ k ≤ n ∧ (∀ x ∈ l.drop k, x = 0) ∧ w = wr) (fun s _ => (intOf s).toNat)
  case atStart => exact ⟨n, rfl, Nat.le_refl n, by rw [← HN.out, List.drop_length]; simp, rfl⟩
  case round =>
    obtain ⟨k, rfl, hk, hz, rfl⟩ := hrel
    have HZ := Lib.hid hz
    clear hz
    have i2 : (k : Int) ≤ (c : Int) := by omega
    rcases Nat.eq_zero_or_pos k with h0 | h0
    · subst h0
      go_wp2
      go_ret
      refine ⟨rfl, .slice A 0 c, rfl, [], natV_nil _ _ _ (by unfold maxLen; omega), wds_nil, cut_nil, ?_, HT.out.re⟩
      have := num_cut (l := l) (k := 0) HZ.out
      rw [← this, List.take_zero]
    · obtain ⟨j, hj⟩ : ∃ j, k - 1 = j := ⟨_, rfl⟩
      have e1 : decide ((k : Int) > 0) = true := decide_eq_true (by omega)
      have e2 : IntKind.i64.wrap ((k : Int) - 1) = j := by rw [IntKind.wrap_i64]; omega
      have i3 : (0 : Int) ≤ (j : Int) := by omega
      have i4 : (j : Int) < (n : Int) := by omega
      obtain ⟨g, o, rfl, hb, hc⟩ := HC.out (by omega)
      obtain ⟨x, hx⟩ : ∃ x, l[j]? = some x := ⟨l[j]'(by rw [HN.out]; omega), List.getElem?_eq_getElem _⟩
      have q0 := hc j (.int .u64 x) (by rw [wdV_at, hx]; rfl)
      have HCC := Lib.hid hc
      clear hc
      by_cases hx0 : x = 0
      · subst hx0
        go_wp2
        go_roundw
        case rel =>
          refine ⟨j, rfl, by omega, ?_, trivial⟩
          rw [drop_cons hx]
          intro y hy
          rcases List.mem_cons.1 hy with h | h
          · exact h
          · exact HZ.out y (by rwa [show k = j + 1 by omega])
        case measure => simp [intOf]; omega
      · have e3 : ((x : Int) == 0) = false := by simp [hx0]
        go_wp2
        go_ret
        have hlk : (l.take k).length = k := by rw [List.length_take, HN.out]; omega
        refine ⟨rfl, .slice (some ⟨g, o, none⟩) k c, rfl, l.take k, ?_, HW.out.take k, ?_, num_cut HZ.out, HT.out.re⟩
        · show Src w 1 _ (l.take k).length _
          rw [hlk]
          refine ⟨by rw [wdV_len, hlk, Nat.mul_one], _, c, rfl, by omega, by unfold maxLen; omega, fun _ => ⟨g, o, rfl, hb, fun i u hu => HCC.out i u ?_⟩⟩
          rw [wdV_at, List.getElem?_take] at hu
          rw [wdV_at]
          split at hu
          · exact hu
          · cases hu
        · rw [show k = j + 1 by omega]
          exact cut_take hx hx0

set_option maxHeartbeats 1600000 in
theorem word_any (N : Nat) (v : Value) (w : World) (hv : Is w v N) :
    Calls Try.prog 67 #[v] w fun e w' => w = w' ∧ e = .returned (.tuple #[.int .u64 ((if N < 18446744073709551616 then N else 0 : Nat) : Int), .bool (decide (N < 18446744073709551616))]) := by
  obtain ⟨l, ⟨hl, A, c, rfl, hnc, hcm, hcell⟩, hw, hc, rfl, _⟩ := hv
  have hs := num_small hc hw
  rw [b64_eq] at hs
  match l, hl, hnc, hcell, hw, hc, hs with
  | [], _, _, _, _, _, _ =>
    have e1 : num [] = 0 := rfl
    rw [e1]
    change Calls Try.prog _ #[.slice _ 0 c] w _
    go_enter Try.func67, Try.ntmps67
    go_wp2
    go_ret2
    exact ⟨rfl, rfl⟩
  | [x], _, _, hcell, hw, _, hs =>
    have e1 : num [x] = x := by simp [num]
    have hx := hs.2 (Nat.le_refl 1)
    rw [e1] at hx ⊢
    rw [if_pos hx, decide_eq_true hx]
    obtain ⟨g, o, rfl, hb, hc⟩ := hcell (by simp)
    have q0 := hc 0 (.int .u64 x) rfl
    rw [Nat.add_zero] at q0
    clear hcell hc hs hw
    change Calls Try.prog _ #[.slice _ 1 c] w _
    go_enter Try.func67, Try.ntmps67
    go_wp2
    go_ret2
    exact ⟨rfl, rfl⟩
  | x :: y :: r, _, _, _, _, _, hs =>
    have hx : ¬ num (x :: y :: r) < 18446744073709551616 := fun h => by have := hs.1 h; simp at this
    rw [if_neg hx, decide_eq_false hx]
    have e1 : (((x :: y :: r).length : Int) == 0) = false := by simp; omega
    have e2 : (((x :: y :: r).length : Int) == 1) = false := by simp; omega
    generalize (x :: y :: r).length = n at *
    clear hs hx
    go_enter Try.func67, Try.ntmps67
    go_wp2
    go_ret2
    exact ⟨rfl, rfl⟩

set_option maxHeartbeats 1600000 in
theorem mod_any (N d : Nat) (v : Value) (w : World) (hv : Is w v N) (hN : Few N) (hd0 : 0 < d) (hd : d < 18446744073709551616) :
    Calls Try.prog 62 #[v, .int .u64 d] w fun e w' => e = .returned (.int .u64 (N % d : Nat)) ∧ Nw w w' := by
  obtain ⟨l, ⟨hl, A, c, rfl, hnc, hcm, hcell⟩, hw, hcut, rfl, _⟩ := hv
  have hlen := few_len hcut hN
  obtain ⟨n, hn⟩ : ∃ n, l.length = n := ⟨_, rfl⟩
  rw [hn] at hlen hnc hcell hl ⊢
  have HN := Lib.hid hn
  have HC := Lib.hid hcell
  have HW := Lib.hid hw
  have e0 : IntKind.i64.wrap ((n : Int) - 1) = (n : Int) - 1 := by rw [IntKind.wrap_i64]; omega
  clear hl hn hcell hw hcut hN hcm hnc
  go_enter Try.func62, Try.ntmps62
  go_wp2
  clear e0
  go_loopw [5, 6] (fun r s wr => ∃ q k : Nat, r = .int .u64 q ∧ s = .int .i64 ((k : Int) - 1) ∧ k ≤ n ∧ num (l.drop k) % d = q ∧ Nw w wr) (fun _ s _ => (intOf s + 1).toNat)
  case atStart => exact ⟨0, n, rfl, rfl, Nat.le_refl n, by rw [← HN.out, List.drop_length]; simp [num], Kp.refl _ _⟩
  case round =>
    obtain ⟨q, k, rfl, rfl, hk, hq, hnw⟩ := hrel
    have HQ := Lib.hid hq
    have HK := Lib.hid hnw
    clear hq hnw
    rcases Nat.eq_zero_or_pos k with h0 | h0
    · subst h0
      go_wp2
      go_ret
      exact ⟨by rw [← HQ.out, List.drop_zero]; rfl, HK.out⟩
    · obtain ⟨j, hj⟩ : ∃ j, k - 1 = j := ⟨_, rfl⟩
      have hkj : (k : Int) - 1 = j := by omega
      rw [hkj]
      have e1 : decide ((j : Int) ≥ 0) = true := decide_eq_true (by omega)
      have i3 : (0 : Int) ≤ (j : Int) := by omega
      have i4 : (j : Int) < (n : Int) := by omega
      have e2 : IntKind.i64.wrap ((j : Int) - 1) = (j : Int) - 1 := by rw [IntKind.wrap_i64]; omega
      obtain ⟨g, o, rfl, hb, hc⟩ := HC.out (by omega)
      obtain ⟨x, hx⟩ : ∃ x, l[j]? = some x := ⟨l[j]'(by rw [HN.out]; omega), List.getElem?_eq_getElem _⟩
      have q0 := (HK.out.cell (p := ⟨g, o + j, none⟩) hb id).trans (hc j (.int .u64 x) (by rw [wdV_at, hx]; rfl))
      have hr := fun w1 => rem64_any q x d (by have := Nat.mod_lt (num (l.drop k)) hd0; have := HQ.out; omega) (by have := HW.out.at hx; rw [b64_eq] at this; exact this) hd hd0 w1
      clear hc
      go_wp2_with fail
      with_reducible refine (hr _).mono ?_
      rintro e w1 ⟨rfl, kk, hw1⟩
      have HK1 := Lib.hid (HK.out.tr (show Nw wr w1 by rw [hw1]; exact nw_drewN _ _))
      clear hw1
      obtain ⟨q', hq'⟩ : ∃ q', (q * 18446744073709551616 + x) % d = q' := ⟨_, rfl⟩
      rw [hq']
      have HQ' := Lib.hid hq'
      clear hq'
      go_wp2
      go_roundw
      case rel =>
        refine ⟨q', j, rfl, rfl, by omega, ?_, HK1.out⟩
        rw [← HQ'.out, num_drop hx, ← b64_eq]
        exact mod_step (by rw [show j + 1 = k by omega]; exact HQ.out)
      case measure => simp [intOf]
end Go.Proofs.Ythefkomalakfeaa.W
