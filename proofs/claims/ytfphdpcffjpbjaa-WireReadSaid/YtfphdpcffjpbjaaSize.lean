/-
  wire.intSize: for every integer of 64 bits the call returns the least number of bytes of its two's complement, and the world is as it was. No condition.
-/
import Derived.Test.YtfphdpcffjpbjaaMem
namespace Go.Proofs.Ytfphdpcffjpbjaa.W
open Go.RowKit Go.Proofs.Ytfphdpcffjpbjaa.Pl

set_option maxHeartbeats 400000 in
theorem intSize_any (n : Int) (w : World) (h : I64 n) :
    Calls Try.prog 52 #[.int .i64 n] w fun e w' => e = .returned (.int .i64 (sz n)) ∧ w = w' := by
  by_cases h0 : n = 0
  · subst h0
    go_enter Try.func52, Try.ntmps52
    go_wp2
    go_ret
    exact ⟨rfl, rfl⟩
  · have hb : (n == 0) = false := by simpa using h0
    have hs : Hid (sz n = szFrom n 7 1) := by show sz n = _; unfold sz; rw [if_neg h0]
    clear h0
    go_enter Try.func52, Try.ntmps52
    go_wp2
    go_loop [3] (fun s => ∃ k : Nat, 1 ≤ k ∧ k ≤ 8 ∧ sz n = szFrom n (8 - k) k ∧ s = .int .i64 k) (fun s => (8 - intOf s).toNat)
    case atStart => exact ⟨1, by omega, by omega, hs.out, rfl⟩
    case round =>
      obtain ⟨k, hk1, hk8, hz, rfl⟩ := hrel
      have HZ := Lib.hid hz
      clear hz
      go_wp2
      · go_ret
        have hx : n / 2 ^ (8 * k - 1) = 0 := by assumption
        exact ⟨ret_int (by rw [HZ.out, stop0 hx]), rfl⟩
      · have hx : (n / 2 ^ (8 * k - 1) != 0) = true ∧ (n / 2 ^ (8 * k - 1) != -1) = true := by assumption
        obtain ⟨hlt, hst⟩ := step1 h hk8 hx
        have HS := Lib.hid hst
        clear hst hx
        refine ⟨⟨k + 1, by omega, by omega, by rw [HZ.out, HS.out], by go_num⟩, by simp [intOf]; omega⟩
      · go_ret
        have hx : (n / 2 ^ (8 * k - 1) != 0) = false ∨ (n / 2 ^ (8 * k - 1) != -1) = false := by assumption
        exact ⟨ret_int (by rw [HZ.out, stop1 hx]), rfl⟩
end Go.Proofs.Ytfphdpcffjpbjaa.W
