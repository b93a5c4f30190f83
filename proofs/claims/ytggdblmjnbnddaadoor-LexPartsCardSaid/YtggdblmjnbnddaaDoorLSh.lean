/-
  The library's functions that lex calls, by their contracts: strings.IndexByte, strings.TrimPrefix, strconv.Atoi.
-/
import Derived.Test.YtggdblmjnbnddaaDoorLay
import Derived.Test.YtggdblmjnbnddaaDoorHB
import Derived.Test.YtggdblmjnbnddaaDoorLPl
namespace Go.Proofs.YtggdblmjnbnddaaDoor.W
open Go.RowKit Go.Proofs.YtggdblmjnbnddaaDoor.Pl

/-- a text as Go's string -/
def tx (l : List UInt8) : ByteArray := ⟨l.toArray⟩
theorem tx_list (l : List UInt8) : (tx l).data.toList = l := rfl
theorem tx_of (s : ByteArray) : tx s.data.toList = s := by cases s; simp [tx]
theorem tx_size (l : List UInt8) : (tx l).size = l.length := by rw [Lib.size_eq, tx_list]
theorem tx_inj {l m : List UInt8} (h : tx l = tx m) : l = m := by rw [← tx_list l, h, tx_list]
theorem tx_cut (l : List UInt8) (a b : Nat) : (tx l).extract a b = tx ((l.drop a).take (b - a)) := by
  have h := Lib.extract_data (tx l) a b
  rw [tx_list] at h
  rw [← tx_of ((tx l).extract a b), h]
theorem tx_from (l : List UInt8) (a : Nat) : (tx l).extract a (tx l).size = tx (l.drop a) := by
  rw [tx_cut, tx_size, List.take_of_length_le (by rw [List.length_drop]; omega)]
theorem tx_to (l : List UInt8) (b : Nat) : (tx l).extract 0 b = tx (l.take b) := by rw [tx_cut, List.drop_zero, Nat.sub_zero]

theorem indexByte_any (l : List UInt8) (c : UInt8) (w : World) : Calls Tryd.prog 34 #[.string (tx l), .int .u8 c.toNat] w fun e w' => e = .returned (.int .i64 (Lib.indexByte l c)) ∧ w = w' :=
  (Any.strings_IndexByte Tryd.lays137 (tx l) c.toNat w).mono fun _ _ ⟨h, h'⟩ => ⟨by rw [h, tx_list]; simp, h'.symm⟩
theorem trimPrefix_any (l p : List UInt8) (w : World) : Calls Tryd.prog 46 #[.string (tx l), .string (tx p)] w fun e w' => e = .returned (.string (tx (Lib.trimPrefix l p))) ∧ w = w' :=
  (Any.strings_TrimPrefix Tryd.lays101 (tx l) (tx p) w).mono fun _ _ ⟨h, h'⟩ => ⟨h, h'.symm⟩
theorem atoi_any (l : List UInt8) (n : Int) (hl : l.length ≤ 18) (h : Lib.atoi l = some n) (w : World) : Calls Tryd.prog 47 #[.string (tx l)] w fun e w' => e = .returned (.tuple #[.int .i64 n, .nilIface]) ∧ Nw w w' :=
  (Any.strconv_Atoi Tryd.lays172 (tx l) n (by rw [tx_size]; exact hl) h w).mono fun _ _ ⟨h, t, h'⟩ => ⟨h, by subst h'; exact Kp.of_below ⟨rfl, rfl, rfl, by rw [Lib.bytesWorld_size]; omega, fun k hk => Lib.bytesWorld_at_old w _ _ k hk⟩⟩
end Go.Proofs.YtggdblmjnbnddaaDoor.W
