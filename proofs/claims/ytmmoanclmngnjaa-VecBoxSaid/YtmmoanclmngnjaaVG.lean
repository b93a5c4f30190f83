/-
  vec: what Add, Less and Compare return, and that they only draw and make blocks of their own. No condition.
-/
import Derived.Test.YtmmoanclmngnjaaVM
import Derived.Shelf.SlSortCmp.QuietGrown
namespace Go.Proofs.Ytmmoanclmngnjaa.W
open Go.RowKit Go.Proofs.Ytmmoanclmngnjaa.V

theorem mixed : Try.prog.follows .mixedOrders = true := by kernel_rfl
set_option maxHeartbeats 800000 in
theorem add_gw (ax ay bx bz : Int) (w : World) : Calls Try.prog 12 #[vV ax ay, vV bx bz] w fun e w' => e = .returned (vV (w64 (ax + bx)) (w64 (ay + bz))) ∧ ∃ q os, w' = Sort.grow (w.drewN q) os := by
  go_enter Try.func12, Try.ntmps12
  go_wp2
  exact bodyPost_ret (v := vV (w64 (ax + bx)) (w64 (ay + bz))) (by simp [results, Try.results12, go_sem]; exact ⟨rfl, rfl⟩) rfl ⟨rfl, 0, #[.cells #[.int .i64 ax, .int .i64 ay] 23] ++ #[.cells #[.int .i64 bx, .int .i64 bz] 23] ++ #[.cells #[.int .i64 (wrap64 (ax + bx)), .int .i64 (wrap64 (ay + bz))] 23], by rw [Sort.alloc_eq_grow, Sort.alloc_eq_grow, Sort.alloc_eq_grow, Sort.grow_grow, Sort.grow_grow]; rfl⟩
theorem less_gw (ax ay bx bz : Int) (w : World) : Calls Try.prog 30 #[vV ax ay, vV bx bz] w fun e w' => e = .returned (.bool (lessV ax ay bx bz)) ∧ ∃ q os, w' = Sort.grow (w.drewN q) os := by
  have hc := fun w1 => compare_any ax ay bx bz w1
  rw [less_cmp]
  generalize cmpV ax ay bx bz = r at *
  go_enter Try.func30, Try.ntmps30
  go_wp2_with (go_at_call 28; refine (hc _).mono ?_; rintro e w1 ⟨rfl, q, os, rfl⟩)
  go_ret
  exact ⟨rfl, q, #[.cells #[.int .i64 ax, .int .i64 ay] 23] ++ #[.cells #[.int .i64 bx, .int .i64 bz] 23] ++ os, by
    rw [Sort.alloc_eq_grow, Sort.alloc_eq_grow]
    show Sort.grow (Sort.grow (Sort.grow (w.drewN q) _) _) os = _
    rw [Sort.grow_grow, Sort.grow_grow, Array.append_assoc]⟩
end Go.Proofs.Ytmmoanclmngnjaa.W
