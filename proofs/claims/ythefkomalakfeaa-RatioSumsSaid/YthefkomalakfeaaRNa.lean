/-
  the reference's trim: what it returns. Condition: at most 2^40 digits.
-/
import Derived.Test.YthefkomalakfeaaQE
import Derived.Test.YthefkomalakfeaaRNp
namespace Go.Proofs.Ythefkomalakfeaa.W
open Go.RowKit Go.Proofs.Ythefkomalakfeaa.Q

/-- digits as Go's values -/
def dgV (l : List Nat) : List Value := l.map fun (n : Nat) => .int .i64 (n : Int)
theorem dgV_len (l : List Nat) : (dgV l).length = l.length := List.length_map _
theorem dgV_at (l : List Nat) (k : Nat) : (dgV l)[k]? = l[k]?.map fun (n : Nat) => .int .i64 (n : Int) := List.getElem?_map
theorem dgV_app (l m : List Nat) : dgV (l ++ m) = dgV l ++ dgV m := List.map_append
/-- v reads as these digits -/
abbrev DgV (w : World) (v : Value) (l : List Nat) : Prop := Src w 1 v l.length (dgV l)
theorem dgV_nil (w : World) (A : Option Addr) (c : Nat) (hc : c ≤ maxLen) : DgV w (.slice A 0 c) [] := ⟨rfl, A, c, rfl, Nat.zero_le _, hc, fun h => absurd h (Nat.lt_irrefl 0)⟩
theorem DgV.nw {w w' : World} {v : Value} {l : List Nat} (h : DgV w v l) (hk : Nw w w') : DgV w' v l := Src.nw h hk
/-- the value lies in a row of digits -/
def TyD (w : World) (v : Value) : Prop := ∀ g, v.ownBlock = some g → ∃ cs, Blk w g 3 cs
theorem TyD.kp {S : Nat → Prop} {w w' : World} {v : Value} (h : TyD w v) (hk : Kp S w w') (hS : ∀ g cs, Blk w g 3 cs → ¬ S g) : TyD w' v := fun g hg => by
  obtain ⟨cs, hb⟩ := h g hg
  exact ⟨cs, hb.kp hk (hS g cs hb)⟩
theorem TyD.re {w : World} {A : Option Addr} {n c m d : Nat} (h : TyD w (.slice A n c)) : TyD w (.slice A m d) := fun g hg => h g (by cases A <;> exact hg)
/-- a number as a value: its digits, none needless -/
def Js (w : World) (v : Value) (N : Nat) : Prop := ∃ l, DgV w v l ∧ Dgs l ∧ Trm l ∧ dnum l = N ∧ TyD w v
/-- changes of what holds no digits -/
theorem Js.kp {S : Nat → Prop} {w w' : World} {v : Value} {N : Nat} (h : Js w v N) (hk : Kp S w w') (hS : ∀ g cs, Blk w g 3 cs → ¬ S g) : Js w' v N := by
  obtain ⟨l, h1, h2, h3, h4, h5⟩ := h
  exact ⟨l, Src.kp h1 hk fun g _ hg => by obtain ⟨cs, hb⟩ := h5 g hg; exact hS g cs hb, h2, h3, h4, h5.kp hk hS⟩
theorem Js.nw {w w' : World} {v : Value} {N : Nat} (h : Js w v N) (hk : Nw w w') : Js w' v N := h.kp hk fun _ _ _ e => e

set_option maxHeartbeats 1600000 in
theorem trim_any (l : List Nat) (v : Value) (w : World) (hv : DgV w v l) (hw : Dgs l) (hlen : l.length ≤ 1099511627776) (hT : TyD w v) :
    Calls Try.prog 57 #[v] w fun e w' => w = w' ∧ ∃ v', e = .returned v' ∧ Js w v' (dnum l) := by
  obtain ⟨hl, A, c, rfl, hnc, hcm, hcell⟩ := hv
  obtain ⟨n, hn⟩ : ∃ n, l.length = n := ⟨_, rfl⟩
  rw [hn] at hlen hnc hcell hl ⊢
  have i1 : (0 : Int) ≤ (c : Int) := by omega
  unfold maxLen at hcm
  have HN := Lib.hid hn
  have HC := Lib.hid hcell
  have HW := Lib.hid hw
  have HT := Lib.hid hT
  clear hl hn hcell hw hT
  go_enter Try.func57, Try.ntmps57
  go_wp2
  go_loopw [3] (fun s wr => ∃ k : Nat, s = .int .i64 k ∧ k ≤ n ∧ (∀ x ∈ l.drop k, x = 0) ∧ w = wr) (fun s _ => (intOf s).toNat)
  case atStart => exact ⟨n, rfl, Nat.le_refl n, by rw [← HN.out, List.drop_length]; simp, rfl⟩
  case round =>
    obtain ⟨k, rfl, hk, hz, rfl⟩ := hrel
    have HZ := Lib.hid hz
    clear hz
    have i2 : (k : Int) ≤ (c : Int) := by omega
    rcases Nat.eq_zero_or_pos k with h0 | h0
    · subst h0
      go_wp2
      go_ret
      refine ⟨rfl, .slice A 0 c, rfl, [], dgV_nil _ _ _ (by unfold maxLen; omega), dwds_nil, dcut_nil, ?_, HT.out.re⟩
      have := dnum_cut (l := l) (k := 0) HZ.out
      rw [← this, List.take_zero]
    · obtain ⟨j, hj⟩ : ∃ j, k - 1 = j := ⟨_, rfl⟩
      have e1 : decide ((k : Int) > 0) = true := decide_eq_true (by omega)
      have e2 : IntKind.i64.wrap ((k : Int) - 1) = j := by rw [IntKind.wrap_i64]; omega
      have i3 : (0 : Int) ≤ (j : Int) := by omega
      have i4 : (j : Int) < (n : Int) := by omega
      obtain ⟨g, o, rfl, hb, hc⟩ := HC.out (by omega)
      obtain ⟨x, hx⟩ : ∃ x, l[j]? = some x := ⟨l[j]'(by rw [HN.out]; omega), List.getElem?_eq_getElem _⟩
      have q0 := hc j (.int .i64 x) (by rw [dgV_at, hx]; rfl)
      have HCC := Lib.hid hc
      clear hc
      by_cases hx0 : x = 0
      · subst hx0
        go_wp2
        go_roundw
        case rel =>
          refine ⟨j, rfl, by omega, ?_, trivial⟩
          rw [ddrop_cons hx]
          intro y hy
          rcases List.mem_cons.1 hy with h | h
          · exact h
          · exact HZ.out y (by rwa [show k = j + 1 by omega])
        case measure => simp [intOf]; omega
      · have e3 : ((x : Int) == 0) = false := by simp [hx0]
        go_wp2
        go_ret
        have hlk : (l.take k).length = k := by rw [List.length_take, HN.out]; omega
        refine ⟨rfl, .slice (some ⟨g, o, none⟩) k c, rfl, l.take k, ?_, HW.out.take k, ?_, dnum_cut HZ.out, HT.out.re⟩
        · show Src w 1 _ (l.take k).length _
          rw [hlk]
          refine ⟨by rw [dgV_len, hlk, Nat.mul_one], _, c, rfl, by omega, by unfold maxLen; omega, fun _ => ⟨g, o, rfl, hb, fun i u hu => HCC.out i u ?_⟩⟩
          rw [dgV_at, List.getElem?_take] at hu
          rw [dgV_at]
          split at hu
          · exact hu
          · cases hu
        · rw [show k = j + 1 by omega]
          exact dcut_take hx hx0
end Go.Proofs.Ythefkomalakfeaa.W
