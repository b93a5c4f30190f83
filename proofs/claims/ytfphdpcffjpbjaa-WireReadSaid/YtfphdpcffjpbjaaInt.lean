/-
  wire.Int: onto a row of bytes of the call's own the call appends the encoding of the integer. Conditions: the integer has 64 bits; the row has room for 9 bytes more below 2^47.
-/
import Derived.Test.YtfphdpcffjpbjaaSize
namespace Go.Proofs.Ytfphdpcffjpbjaa.W
open Go.RowKit Go.Proofs.Ytfphdpcffjpbjaa.Pl

set_option maxRecDepth 100000 in
set_option maxHeartbeats 400000 in
theorem int_any (B : Nat) (b : Value) (l : List Int) (n : Int) (w : World) (h : I64 n) (hB : B ≤ w.heap.size) (hlen : l.length ≤ 140737488355000) (hown : OwnB w B b l) :
    Calls Try.prog 19 #[b, .int .i64 n] w fun e w' => ∃ v, e = .returned v ∧ OwnB w' B v (l ++ enc n) ∧ Grew w w' b v := by
  have hsz := sz_le n
  go_enter Try.func19, Try.ntmps19
  go_wp2_with (first
    | (go_at_call 52; refine (intSize_any n _ h).mono ?_; rintro e w' ⟨rfl, rfl⟩)
    | (at_builtin; go_must (refine wp_push rfl (.tmp 9) (.tmp 12) rfl B b l _ rfl hown rfl (by omega) hB ?_); intro v1 w1 own1 gr1))
  go_loopw [0, 6] (fun v s wr => ∃ k : Nat, k ≤ sz n ∧ s = .int .i64 (8 * (k : Int) - 8) ∧ OwnB wr B v (l ++ ((sz n : Int) :: be (sz n - k) (n / 2 ^ (8 * k)))) ∧ Grew w wr b v) (fun _ s _ => (intOf s + 8).toNat)
  case atStart =>
    refine ⟨sz n, Nat.le_refl _, by go_num, ?_, gr1⟩
    rw [Nat.sub_self]
    exact own1
  case round =>
    obtain ⟨k, hk, rfl, hown2, hgr⟩ := hrel
    have hl2 : (l ++ ((sz n : Int) :: be (sz n - k) (n / 2 ^ (8 * k)))).length ≤ 140737488355300 := by simp [be_length]; omega
    clear own1 gr1 hown
    go_wp2_with (at_builtin; go_must (refine wp_push rfl (.tmp 21) (.tmp 26) rfl B _ _ _ rfl hown2 rfl hl2 (by have := hgr.size; omega) ?_); intro v2 w2 own2 gr2)
    · have hk1 : 8 ≤ 8 * (k : Int) := by assumption
      have hst := be_step (n := n) (m := sz n) (k := k) (by omega) hk
      refine ⟨⟨k - 1, by omega, ?_, ?_, hgr.trans gr2⟩, by simp [intOf]; omega⟩
      · congr 1
        omega
      · rw [hst]
        simpa using own2
    · have hk0 : 8 * (k : Int) < 8 := by assumption
      obtain rfl : k = 0 := by omega
      rw [be_end] at hown2
      go_ret
      exact ⟨_, rfl, hown2, hgr⟩
end Go.Proofs.Ytfphdpcffjpbjaa.W
