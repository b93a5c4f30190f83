/-
  digest.step: the call returns the number behind a step. Condition: the number has 64 bits, the byte 8.
-/
import Derived.Test.YtgiogocclkkkhaaMem
import Derived.Test.YtgiogocclkkkhaaDPlain
namespace Go.Proofs.Ytgiogocclkkkhaa.W
open Go.RowKit Go.Proofs.Ytgiogocclkkkhaa.Pl

set_option maxRecDepth 100000 in
set_option maxHeartbeats 400000 in
theorem step_any (h c : Int) (w : World) (hh : U64 h) (hc : 0 ≤ c ∧ c < 256) :
    Calls Try.prog 58 #[.int .u64 h, .int .u8 c] w fun e w' => e = .returned (.int .u64 (stp h c)) ∧ w = w' := by
  obtain ⟨h1, h2⟩ := hh
  obtain ⟨h3, h4⟩ := hc
  go_enter Try.func58, Try.ntmps58
  go_wp2
  go_ret
  exact ⟨rfl, rfl⟩
end Go.Proofs.Ytgiogocclkkkhaa.W
