/-
  fretsawref01.Same: of two slices that read as bytes the call returns whether they are equal, and the world is as it was. Condition: what is read are bytes.
-/
import Derived.Test.YtfphdpcffjpbjaaMem
namespace Go.Proofs.Ytfphdpcffjpbjaa.W
open Go.RowKit Go.Proofs.Ytfphdpcffjpbjaa.Pl

theorem same_any (v u : Value) (l m : List Int) (w : World) (hv : Src w 1 v l.length (bytes l)) (hu : Src w 1 u m.length (bytes m)) (hl : By l) (hm : By m) :
    Calls Try.prog 33 #[v, u] w fun e w' => e = .returned (.bool (eqB l m)) ∧ w = w' := by
  have h1 := hv.convert
  have h2 := hu.convert
  have h3 := str_eqB hl hm
  clear hv hu
  go_enter Try.func33, Try.ntmps33
  go_wp2
  go_ret
  exact ⟨rfl, rfl⟩
theorem same_true (v u : Value) (l : List Int) (w : World) (hv : Src w 1 v l.length (bytes l)) (hu : Src w 1 u l.length (bytes l)) (hl : By l) :
    Calls Try.prog 33 #[v, u] w fun e w' => e = .returned (.bool true) ∧ w = w' :=
  (same_any v u l l w hv hu hl hl).mono fun _ _ ⟨h1, h2⟩ => ⟨by rw [h1, eqB_self], h2⟩
end Go.Proofs.Ytfphdpcffjpbjaa.W
