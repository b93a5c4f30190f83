/-
  lex: the classes of bytes: isBlank, isDigit, isLetter, inWord; blank, digit, letter of the reference. No condition.
-/
import Derived.Test.YtggdblmjnbnddaaDoorHB
import Derived.Test.YtggdblmjnbnddaaDoorLPl
namespace Go.Proofs.YtggdblmjnbnddaaDoor.W
open Go.RowKit Go.Proofs.YtggdblmjnbnddaaDoor.Pl

theorem ret_bool {a b : Bool} (h : a = b) : Ending.returned (.bool a) = .returned (.bool b) := by rw [h]

set_option maxHeartbeats 400000 in
theorem isBlank_any (c : Int) (w : World) : Calls Tryd.prog 21 #[.int .u8 c] w fun e w' => e = .returned (.bool (blankI c)) ∧ w = w' := by
  by_cases h0 : c = 32 <;> by_cases h1 : c = 9 <;> by_cases h2 : c = 10 <;> first | (exfalso; omega) | skip
  all_goals
    go_enter Tryd.func21, Tryd.ntmps21
    go_wp2
    go_ret
    exact ⟨ret_bool (by unfold blankI; simp [*] <;> omega), rfl⟩

set_option maxHeartbeats 400000 in
theorem blank_any (c : Int) (w : World) : Calls Tryd.prog 24 #[.int .u8 c] w fun e w' => e = .returned (.bool (blankI c)) ∧ w = w' := by
  by_cases h0 : c = 32 <;> by_cases h1 : c = 9 <;> by_cases h2 : c = 10 <;> first | (exfalso; omega) | skip
  all_goals
    go_enter Tryd.func24, Tryd.ntmps24
    go_wp2
    go_ret
    exact ⟨ret_bool (by unfold blankI; simp [*] <;> omega), rfl⟩

set_option maxHeartbeats 400000 in
theorem isDigit_any (c : Int) (w : World) : Calls Tryd.prog 36 #[.int .u8 c] w fun e w' => e = .returned (.bool (digI c)) ∧ w = w' := by
  by_cases h0 : 48 ≤ c <;> by_cases h1 : c ≤ 57 <;> first | (exfalso; omega) | skip
  all_goals
    go_enter Tryd.func36, Tryd.ntmps36
    go_wp2
    go_ret
    exact ⟨ret_bool (by unfold digI; simp [*] <;> omega), rfl⟩

set_option maxHeartbeats 400000 in
theorem digit_any (c : Int) (w : World) : Calls Tryd.prog 38 #[.int .u8 c] w fun e w' => e = .returned (.bool (digI c)) ∧ w = w' := by
  by_cases h0 : 48 ≤ c <;> by_cases h1 : c ≤ 57 <;> first | (exfalso; omega) | skip
  all_goals
    go_enter Tryd.func38, Tryd.ntmps38
    go_wp2
    go_ret
    exact ⟨ret_bool (by unfold digI; simp [*] <;> omega), rfl⟩

set_option maxHeartbeats 400000 in
theorem isLetter_any (c : Int) (w : World) : Calls Tryd.prog 28 #[.int .u8 c] w fun e w' => e = .returned (.bool (ltrI c)) ∧ w = w' := by
  by_cases h0 : 97 ≤ c <;> by_cases h1 : c ≤ 122 <;> by_cases h2 : 65 ≤ c <;> by_cases h3 : c ≤ 90 <;> first | (exfalso; omega) | skip
  all_goals
    go_enter Tryd.func28, Tryd.ntmps28
    go_wp2
    go_ret
    exact ⟨ret_bool (by unfold ltrI; simp [*] <;> omega), rfl⟩

set_option maxHeartbeats 400000 in
theorem letter_any (c : Int) (w : World) : Calls Tryd.prog 31 #[.int .u8 c] w fun e w' => e = .returned (.bool (ltrI c)) ∧ w = w' := by
  by_cases h0 : 97 ≤ c <;> by_cases h1 : c ≤ 122 <;> by_cases h2 : 65 ≤ c <;> by_cases h3 : c ≤ 90 <;> first | (exfalso; omega) | skip
  all_goals
    go_enter Tryd.func31, Tryd.ntmps31
    go_wp2
    go_ret
    exact ⟨ret_bool (by unfold ltrI; simp [*] <;> omega), rfl⟩

set_option maxHeartbeats 400000 in
theorem inWord_any (c : Int) (w : World) : Calls Tryd.prog 30 #[.int .u8 c] w fun e w' => e = .returned (.bool (wordI c)) ∧ w = w' := by
  cases hl : ltrI c <;> cases hd : digI c
  all_goals
    have Hl := Lib.hid hl
    have Hd := Lib.hid hd
    clear hl hd
    go_enter Tryd.func30, Tryd.ntmps30
    go_wp2_with (first | (go_at_call 28; refine (isLetter_any _ _).mono ?_; rintro e w1 ⟨rfl, rfl⟩; rw [Hl.out]) | (go_at_call 36; refine (isDigit_any _ _).mono ?_; rintro e w1 ⟨rfl, rfl⟩; rw [Hd.out]))
    go_ret
    exact ⟨ret_bool (by unfold wordI; rw [Hl.out, Hd.out]; simp), rfl⟩
end Go.Proofs.YtggdblmjnbnddaaDoor.W
