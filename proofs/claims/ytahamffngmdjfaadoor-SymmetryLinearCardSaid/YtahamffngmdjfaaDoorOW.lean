/-
  ring: a list of vectors in memory, its elements by index; remainders by a length. No condition.
-/
import Derived.Test.YtahamffngmdjfaaDoorOPz
import Derived.Test.YtahamffngmdjfaaDoorGQ
namespace Go.Proofs.YtahamffngmdjfaaDoor.W
open Go.RowKit Go.Proofs.YtahamffngmdjfaaDoor.V Go.Proofs.YtahamffngmdjfaaDoor.G

abbrev SrcN (w : World) (A : Option Addr) (n c : Nat) (l : List (Int × Int)) : Prop := Src w 2 (.slice A n c) n (l.flatMap vC)
theorem src_n {w : World} {A : Option Addr} {n c : Nat} {l : List (Int × Int)} (h : SrcV w (.slice A l.length c) l) (hn : l.length = n) : SrcN w A n c l := by subst hn; exact h
theorem src_v {w : World} {A : Option Addr} {n c : Nat} {l : List (Int × Int)} (h : SrcN w A n c l) (hn : l.length = n) : SrcV w (.slice A n c) l := by subst hn; exact h
theorem src_max {w : World} {A : Option Addr} {n c : Nat} {l : List (Int × Int)} (h : SrcN w A n c l) : n ≤ c ∧ c ≤ 9223372036854775807 ∧ c ≤ maxLen := by
  obtain ⟨_, A', c', e, h1, h2, _⟩ := h
  injection e with _ _ e3
  subst e3
  exact ⟨h1, by unfold maxLen at h2; omega, h2⟩
theorem src_len {w : World} {A : Option Addr} {n c : Nat} {l : List (Int × Int)} (h : SrcN w A n c l) : l.length = n := by
  have := h.1
  rw [flatV_len] at this
  omega
/-- where a list's elements lie, in all later worlds -/
theorem src_at {w : World} {A : Option Addr} {n c : Nat} {l : List (Int × Int)} (h : SrcN w A n c l) (hn : 0 < n) :
    ∃ g o, A = some ⟨g, o, none⟩ ∧ g < w.heap.size ∧ ∀ w', Nw w w' → ∀ k, k < n → w'.cell? ⟨g, o + k * 2, none⟩ = some (.int .i64 (at_ l k).1) ∧ w'.cell? ⟨g, o + k * 2 + 1, none⟩ = some (.int .i64 (at_ l k).2) := by
  have hl := src_len h
  obtain ⟨_, A', c', e, _, _, hc⟩ := h
  injection e with e1 e2 e3
  subst e1
  obtain ⟨g, o, rfl, hg, hc⟩ := hc (by omega)
  refine ⟨g, o, rfl, hg, fun w' hk k hkn => ?_⟩
  obtain ⟨f1, f2⟩ := flatV_at l k _ (at_some (by omega))
  exact ⟨(hk.cell (p := ⟨g, o + k * 2, none⟩) hg id).trans (hc _ _ f1), (hk.cell (p := ⟨g, o + (k * 2 + 1), none⟩) hg id).trans (hc _ _ f2)⟩
theorem wrapI (n : Int) : IntKind.i64.wrap n = w64 n := by
  rw [IntKind.wrap_i64, w64_eq]
theorem tmod_nat (a b : Nat) : Int.tmod (a : Int) (b : Int) = ((a % b : Nat) : Int) := by
  rw [Int.tmod_eq_emod_of_nonneg (by omega)]
  omega
end Go.Proofs.YtahamffngmdjfaaDoor.W
