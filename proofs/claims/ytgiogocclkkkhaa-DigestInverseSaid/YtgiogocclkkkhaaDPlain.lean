/-
  Plain arithmetic of the checksum, without any program: a step on numbers of 64 bits, a checksum of a list of bytes, that both keep different numbers apart, and the eight bytes of a number. No condition.
-/
import Derived.Test.YtgiogocclkkkhaaPlain
import Derived.Laws.BitsAllLaws
import Derived.Laws.BitsLemmas
namespace Go.Proofs.Ytgiogocclkkkhaa.Pl

def U64 (n : Int) : Prop := 0 ≤ n ∧ n < 18446744073709551616

/-- a step -/
def stp (h c : Int) : Int :=
  bits BinOp.xor IntKind.u64 (IntKind.u64.wrap (bits BinOp.xor IntKind.u64 h c * 11400714819323198485)) (IntKind.u64.wrap (bits BinOp.xor IntKind.u64 h c * 11400714819323198485) / 536870912)

/-- the checksum from a seed -/
def sum (h : Int) (l : List Int) : Int := l.foldl stp h
theorem sum_nil (h : Int) : sum h [] = h := rfl
theorem sum_append (h : Int) (a b : List Int) : sum h (a ++ b) = sum (sum h a) b := List.foldl_append ..
theorem sum_snoc (h : Int) (a : List Int) (x : Int) : sum h (a ++ [x]) = stp (sum h a) x := by rw [sum_append]; rfl

/-- the same over words -/
def mixV (y : BitVec 64) : BitVec 64 := y ^^^ (y >>> 29)
def stpV (h c : BitVec 64) : BitVec 64 := mixV ((h ^^^ c) * 11400714819323198485#64)

theorem u64_wrap (n : Int) : IntKind.u64.wrap n = ((BitVec.ofInt 64 n).toNat : Int) := by
  rw [BitVec.toNat_ofInt]
  have e : ((2 ^ 64 : Nat) : Int) = 18446744073709551616 := rfl
  simp only [IntKind.wrap, IntKind.bits, IntKind.signed]
  rw [e]
  simp
  omega
theorem u64_xor (a b : Int) : bits BinOp.xor IntKind.u64 a b = ((BitVec.ofInt 64 a ^^^ BitVec.ofInt 64 b).toNat : Int) := by
  show IntKind.u64.wrap ((BitVec.ofInt 64 a ^^^ BitVec.ofInt 64 b).toNat : Int) = _
  rw [u64_wrap, BitVec.ofInt_natCast, BitVec.ofNat_toNat, BitVec.setWidth_eq]
theorem ofInt_toNat (v : BitVec 64) : BitVec.ofInt 64 (v.toNat : Int) = v := by
  rw [BitVec.ofInt_natCast, BitVec.ofNat_toNat, BitVec.setWidth_eq]
theorem ofInt_shr (v : BitVec 64) : BitVec.ofInt 64 ((v.toNat : Int) / 536870912) = v >>> 29 := by
  apply BitVec.eq_of_toNat_eq
  rw [BitVec.toNat_ushiftRight, Nat.shiftRight_eq_div_pow]
  have e : ((v.toNat : Int) / 536870912) = ((v.toNat / 2 ^ 29 : Nat) : Int) := by omega
  rw [e, BitVec.ofInt_natCast, BitVec.toNat_ofNat]
  have := v.isLt
  omega
theorem stp_eq (h c : Int) : stp h c = ((stpV (BitVec.ofInt 64 h) (BitVec.ofInt 64 c)).toNat : Int) := by
  have e : IntKind.u64.wrap (bits BinOp.xor IntKind.u64 h c * 11400714819323198485) = (((BitVec.ofInt 64 h ^^^ BitVec.ofInt 64 c) * 11400714819323198485#64).toNat : Int) := by
    rw [u64_xor, u64_wrap, BitVec.ofInt_mul, ofInt_toNat]
    rfl
  unfold stp
  rw [e, u64_xor, ofInt_toNat, ofInt_shr]
  rfl
theorem stp_u64 (h c : Int) : U64 (stp h c) := by
  rw [stp_eq]
  have := (stpV (BitVec.ofInt 64 h) (BitVec.ofInt 64 c)).isLt
  exact ⟨by omega, by omega⟩
theorem sum_u64 (h : Int) (l : List Int) (hh : U64 h) : U64 (sum h l) := by
  induction l generalizing h with
  | nil => exact hh
  | cons x l ih => exact ih _ (stp_u64 _ _)

theorem mixV_back (y : BitVec 64) : mixV y ^^^ (mixV y >>> 29) ^^^ (mixV y >>> 58) = y := by
  unfold mixV
  apply BitVec.eq_of_getElem_eq
  intro i hi
  simp only [BitVec.getElem_xor, BitVec.getElem_ushiftRight, BitVec.getLsbD_xor, BitVec.getLsbD_ushiftRight]
  have e1 : 29 + (29 + i) = 58 + i := by omega
  have e2 : y.getLsbD (29 + (58 + i)) = false := BitVec.getLsbD_of_ge _ _ (by omega)
  rw [e1, e2]
  cases y[i] <;> cases y.getLsbD (29 + i) <;> cases y.getLsbD (58 + i) <;> rfl
theorem mixV_inj {a b : BitVec 64} (h : mixV a = mixV b) : a = b := by rw [← mixV_back a, h, mixV_back]
theorem mul_inj {a b : BitVec 64} (h : a * 11400714819323198485#64 = b * 11400714819323198485#64) : a = b := by
  have e : ∀ x : BitVec 64, x * 11400714819323198485#64 * 17428512612931826493#64 = x := fun x => by
    rw [BitVec.mul_assoc]
    have : (11400714819323198485#64 : BitVec 64) * 17428512612931826493#64 = 1#64 := by decide
    rw [this, BitVec.mul_one]
  rw [← e a, h, e]
theorem stpV_inj {h h' c c' : BitVec 64} (e : stpV h c = stpV h' c') : h ^^^ c = h' ^^^ c' := mul_inj (mixV_inj e)
theorem ofInt_inj {a b : Int} (ha : U64 a) (hb : U64 b) (h : BitVec.ofInt 64 a = BitVec.ofInt 64 b) : a = b := by
  have h2 := congrArg BitVec.toNat h
  rw [BitVec.toNat_ofInt, BitVec.toNat_ofInt] at h2
  have e : ((2 ^ 64 : Nat) : Int) = 18446744073709551616 := rfl
  rw [e] at h2
  obtain ⟨a1, a2⟩ := ha
  obtain ⟨b1, b2⟩ := hb
  omega
theorem stp_inj_left {h h' c : Int} (hh : U64 h) (hh' : U64 h') (e : stp h c = stp h' c) : h = h' := by
  rw [stp_eq, stp_eq] at e
  have e2 := stpV_inj (BitVec.eq_of_toNat_eq (Int.ofNat.inj e))
  exact ofInt_inj hh hh' ((BitVec.xor_left_inj _).1 e2)
theorem stp_inj_right {h c c' : Int} (hc : U64 c) (hc' : U64 c') (e : stp h c = stp h c') : c = c' := by
  rw [stp_eq, stp_eq] at e
  have e2 := stpV_inj (BitVec.eq_of_toNat_eq (Int.ofNat.inj e))
  exact ofInt_inj hc hc' ((BitVec.xor_right_inj _).1 e2)
theorem sum_inj {h h' : Int} (l : List Int) (hh : U64 h) (hh' : U64 h') (e : sum h l = sum h' l) : h = h' := by
  induction l generalizing h h' with
  | nil => exact e
  | cons x l ih => exact stp_inj_left hh hh' (ih (stp_u64 _ _) (stp_u64 _ _) e)

/-- one byte is changed -/
theorem sum_change {h : Int} {l : List Int} {k : Nat} {x y : Int} (hk : l[k]? = some x) (hx : U64 x) (hy : U64 y) (hne : x ≠ y) : sum h (l.set k y) ≠ sum h l := by
  intro e
  obtain ⟨hlt, hx2⟩ := List.getElem?_eq_some_iff.1 hk
  have e1 : l.set k y = l.take k ++ [y] ++ l.drop (k + 1) := by
    rw [List.set_eq_take_append_cons_drop, if_pos hlt, List.append_assoc]
    rfl
  have e2 : l = l.take k ++ [x] ++ l.drop (k + 1) := by
    rw [← hx2, List.append_assoc]
    simp
  rw [e1] at e
  conv at e => rhs; rw [e2]
  rw [sum_append _ (_ ++ [y]), sum_append _ (_ ++ [x]), sum_snoc, sum_snoc] at e
  have h3 := sum_inj _ (stp_u64 _ _) (stp_u64 _ _) e
  exact hne (stp_inj_right hx hy h3.symm)
end Go.Proofs.Ytgiogocclkkkhaa.Pl
