/-
  IsName of lex and of the reference, by Pl.isNameB. Condition: at most 2^40 bytes.
-/
import Derived.Test.YtggdblmjnbnddaaDoorLCw
import Derived.Test.YtggdblmjnbnddaaDoorLPt
import Derived.Laws.Strings
namespace Go.Proofs.YtggdblmjnbnddaaDoor.W
open Go.RowKit Go.Proofs.YtggdblmjnbnddaaDoor.Pl

theorem tx_toList (l : List UInt8) : (tx l).toList = l := by rw [ByteArray.toList_eq]; rfl
theorem nat_beq (k n : Nat) : ((k : Int) == (n : Int)) = (k == n) := by rw [Bool.eq_iff_iff]; simp; omega
theorem isNameB_cons (c : UInt8) (r : List UInt8) : isNameB (c :: r) = (decide ((c :: r).length ≤ 16) && ltrI c.toNat && cw wordI (c :: r) == (c :: r).length) := rfl

set_option maxRecDepth 100000 in
set_option maxHeartbeats 1600000 in
theorem isName_any (l : List UInt8) (w : World) (hlen : l.length ≤ 1099511627776) :
    Calls Tryd.prog 17 #[.string (tx l)] w fun e w' => e = .returned (.bool (isNameB l)) ∧ w = w' := by
  cases l with
  | nil =>
    go_enter Tryd.func17, Tryd.ntmps17
    have hb := tx_toList []
    go_wp2_with fail
    go_ret
    exact ⟨rfl, rfl⟩
  | cons c r =>
    have hsz := tx_size (c :: r)
    have hix : ∀ W : World, (Instr.index 9 (.string (tx (c :: r))) (.int .i64 0)).run Tryd.prog W = .ok (.int .u8 c.toNat) W := fun W => run_tx_at (c :: r) 0 c rfl W
    have hcount := fun w1 => countWord_any (c :: r) w1 hlen
    obtain ⟨n, hn⟩ : ∃ n, (c :: r).length = n := ⟨_, rfl⟩
    have hn1 : 1 ≤ n := by rw [← hn]; simp
    have hB := isNameB_cons c r
    rw [hn] at hsz hlen hB
    have hb := tx_toList (c :: r)
    generalize isNameB (c :: r) = b at *
    generalize cw wordI (c :: r) = k at *
    have HB := Lib.hid hB
    clear hB
    by_cases h16 : n ≤ 16
    · cases hl : ltrI c.toNat
      · have HL := Lib.hid hl
        clear hl
        go_enter Tryd.func17, Tryd.ntmps17
        go_wp2_with (go_at_call 28; refine (isLetter_any _ _).mono ?_; rintro e w1 ⟨rfl, rfl⟩; rw [HL.out])
        go_ret
        exact ⟨ret_bool (by rw [HB.out, HL.out]; simp), rfl⟩
      · have HL := Lib.hid hl
        clear hl
        go_enter Tryd.func17, Tryd.ntmps17
        go_wp2_with (first | (go_at_call 28; refine (isLetter_any _ _).mono ?_; rintro e w1 ⟨rfl, rfl⟩; rw [HL.out]) | (go_at_call 29; refine (hcount _).mono ?_; rintro e w1 ⟨rfl, rfl⟩))
        go_ret
        exact ⟨ret_bool (by rw [HB.out, HL.out, decide_eq_true h16]; simp [nat_beq]), rfl⟩
    · go_enter Tryd.func17, Tryd.ntmps17
      go_wp2_with fail
      go_ret
      exact ⟨ret_bool (by rw [HB.out, decide_eq_false h16]; simp), rfl⟩

set_option maxRecDepth 100000 in
set_option maxHeartbeats 1600000 in
theorem refIsName_any (l : List UInt8) (w : World) (hlen : l.length ≤ 1099511627776) :
    Calls Tryd.prog 18 #[.string (tx l)] w fun e w' => e = .returned (.bool (isNameB l)) ∧ w = w' := by
  cases l with
  | nil =>
    have hsz := tx_size []
    go_enter Tryd.func18, Tryd.ntmps18
    go_wp2_with fail
    go_ret
    exact ⟨rfl, rfl⟩
  | cons c r =>
    have hsz := tx_size (c :: r)
    have hix : ∀ W : World, (Instr.index 9 (.string (tx (c :: r))) (.int .i64 0)).run Tryd.prog W = .ok (.int .u8 c.toNat) W := fun W => run_tx_at (c :: r) 0 c rfl W
    have hcount : ∀ w1 : World, Calls Tryd.prog 32 #[.string (tx (c :: r)), .int .i64 0] w1 fun e w' => e = .returned (.int .i64 (cw wordI (c :: r))) ∧ w1 = w' := fun w1 => named_any (c :: r) 0 w1 hlen (Nat.zero_le _)
    obtain ⟨n, hn⟩ : ∃ n, (c :: r).length = n := ⟨_, rfl⟩
    have hn1 : 1 ≤ n := by rw [← hn]; simp
    have hB := isNameB_cons c r
    rw [hn] at hsz hlen hB
    generalize isNameB (c :: r) = b at *
    generalize cw wordI (c :: r) = k at *
    have HB := Lib.hid hB
    clear hB
    by_cases h16 : n ≤ 16
    · cases hl : ltrI c.toNat
      · have HL := Lib.hid hl
        clear hl
        go_enter Tryd.func18, Tryd.ntmps18
        go_wp2_with (go_at_call 31; refine (letter_any _ _).mono ?_; rintro e w1 ⟨rfl, rfl⟩; rw [HL.out])
        go_ret
        exact ⟨ret_bool (by rw [HB.out, HL.out]; simp), rfl⟩
      · have HL := Lib.hid hl
        clear hl
        go_enter Tryd.func18, Tryd.ntmps18
        go_wp2_with (first | (go_at_call 31; refine (letter_any _ _).mono ?_; rintro e w1 ⟨rfl, rfl⟩; rw [HL.out]) | (go_at_call 32; refine (hcount _).mono ?_; rintro e w1 ⟨rfl, rfl⟩))
        go_ret
        exact ⟨ret_bool (by rw [HB.out, HL.out, decide_eq_true h16]; simp [nat_beq]), rfl⟩
    · go_enter Tryd.func18, Tryd.ntmps18
      go_wp2_with fail
      go_ret
      exact ⟨ret_bool (by rw [HB.out, decide_eq_false h16]; simp), rfl⟩
end Go.Proofs.YtggdblmjnbnddaaDoor.W
