/-
  vec: what Sub, Neg and Scale return, and that they only draw and make blocks of their own; unequal vectors. No condition.
-/
import Derived.Test.YtmmoanclmngnjaaVG
namespace Go.Proofs.Ytmmoanclmngnjaa.W
open Go.RowKit Go.Proofs.Ytmmoanclmngnjaa.V

set_option maxHeartbeats 800000 in
theorem sub_gw (ax ay bx bz : Int) (w : World) : Calls Try.prog 14 #[vV ax ay, vV bx bz] w fun e w' => e = .returned (vV (w64 (ax - bx)) (w64 (ay - bz))) ∧ ∃ q os, w' = Sort.grow (w.drewN q) os := by
  go_enter Try.func14, Try.ntmps14
  go_wp2
  exact bodyPost_ret (v := vV (w64 (ax - bx)) (w64 (ay - bz))) (by simp [results, Try.results14, go_sem]; exact ⟨rfl, rfl⟩) rfl ⟨rfl, 0, #[.cells #[.int .i64 ax, .int .i64 ay] 23] ++ #[.cells #[.int .i64 bx, .int .i64 bz] 23] ++ #[.cells #[.int .i64 (wrap64 (ax - bx)), .int .i64 (wrap64 (ay - bz))] 23], by rw [Sort.alloc_eq_grow, Sort.alloc_eq_grow, Sort.alloc_eq_grow, Sort.grow_grow, Sort.grow_grow]; rfl⟩
set_option maxHeartbeats 800000 in
theorem neg_gw (ax ay : Int) (w : World) : Calls Try.prog 16 #[vV ax ay] w fun e w' => e = .returned (vV (w64 (-ax)) (w64 (-ay))) ∧ ∃ q os, w' = Sort.grow (w.drewN q) os := by
  go_enter Try.func16, Try.ntmps16
  go_wp2
  exact bodyPost_ret (v := vV (w64 (-ax)) (w64 (-ay))) (by simp [results, Try.results16, go_sem]; exact ⟨rfl, rfl⟩) rfl ⟨rfl, 0, #[.cells #[.int .i64 ax, .int .i64 ay] 23] ++ #[.cells #[.int .i64 (wrap64 (-ax)), .int .i64 (wrap64 (-ay))] 23], by rw [Sort.alloc_eq_grow, Sort.alloc_eq_grow, Sort.grow_grow]; rfl⟩
set_option maxHeartbeats 800000 in
theorem scale_gw (ax ay n : Int) (w : World) : Calls Try.prog 18 #[vV ax ay, .int .i64 n] w fun e w' => e = .returned (vV (w64 (n * ax)) (w64 (n * ay))) ∧ ∃ q os, w' = Sort.grow (w.drewN q) os := by
  go_enter Try.func18, Try.ntmps18
  go_wp2
  exact bodyPost_ret (v := vV (w64 (n * ax)) (w64 (n * ay))) (by simp [results, Try.results18, go_sem]; exact ⟨rfl, rfl⟩) rfl ⟨rfl, 0, #[.cells #[.int .i64 ax, .int .i64 ay] 23] ++ #[.cells #[.int .i64 (wrap64 (n * ax)), .int .i64 (wrap64 (n * ay))] 23], by rw [Sort.alloc_eq_grow, Sort.alloc_eq_grow, Sort.grow_grow]; rfl⟩
end Go.Proofs.Ytmmoanclmngnjaa.W
