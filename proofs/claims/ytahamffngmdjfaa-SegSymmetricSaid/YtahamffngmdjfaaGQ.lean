/-
  Regions that draw their order, whose operations only read and whose callees leave all old blocks alone: one walk. No condition.
-/
import Derived.Test.YtahamffngmdjfaaVR
import Derived.Test.YtahamffngmdjfaaVPm
import Derived.Deep.QuietTactic
import Derived.Shelf.SlSortCmp.QuietGrown
namespace Go.Proofs.Ytahamffngmdjfaa.W
open Go.RowKit Go.Proofs.Ytahamffngmdjfaa.V

theorem mixed7 : Try.prog.follows .mixedOrders = true := by kernel_rfl
/-- a world in which everything that was there in w is unchanged -/
structure KeptW (w : World) where
  wd : World
  since : Nw w wd
instance (w : World) : Inhabited (KeptW w) := ⟨⟨w, Kp.refl _ w⟩⟩
theorem wp_region_kept {P : Program} {id : Nat} {Q : Exit → Act → World → Prop} {a : Act} {w0 w : World} {l : List Oper} (h0 : Nw w0 w) (hm : P.follows .mixedOrders = true) (hB : Region.lexB .any l.toArray = true)
    (h : wpQuiet P l.toArray (fun w' => ∃ p : KeptW w0, w' = p.wd) (fun a' => ∀ w', (∃ p : KeptW w0, w' = p.wd) → Q .normal a' w') l a) : (Code.region id l.toArray true).wp P Q a w :=
  wp_region_quiet (C := fun w' => ∃ p : KeptW w0, w' = p.wd) hm hB ⟨⟨w.drew, h0.drew⟩, rfl⟩ (by simpa using h)
section
variable {P : Program} {f : FuncId} {args : Array Value} {w : World} {p : KeptW w} {v : Value}
theorem Calls.kept_of (h : Calls P f args p.wd fun e w' => e = .returned v ∧ Nw p.wd w') : Calls P f args p.wd fun e w'' => e = .returned v ∧ ∃ q : KeptW w, w'' = q.wd :=
  h.mono fun _ _ ⟨he, hn⟩ => ⟨he, ⟨_, p.since.tr hn⟩, rfl⟩
theorem Calls.kept_same (h : Calls P f args p.wd fun e w' => e = .returned v ∧ p.wd = w') : Calls P f args p.wd fun e w'' => e = .returned v ∧ ∃ q : KeptW w, w'' = q.wd :=
  h.mono fun _ _ ⟨he, hn⟩ => ⟨he, p, hn.symm⟩
theorem Calls.kept_first (h : Calls P f args w fun e w' => e = .returned v ∧ Nw w w') : Calls P f args w fun e w'' => e = .returned v ∧ ∃ q : KeptW w, w'' = q.wd :=
  h.mono fun _ _ ⟨he, hn⟩ => ⟨he, ⟨_, hn⟩, rfl⟩
end
theorem Blk.kept {w : World} {g : Nat} {t : TypeId} {cs : Array Value} (h : Blk w g t cs) (p : KeptW w) : Blk p.wd g t cs := h.kp p.since id

abbrev sV (ax ay bx bz : Int) : Value := .agg #[.int .i64 ax, .int .i64 ay, .int .i64 bx, .int .i64 bz]
abbrev pV (x y d : Int) : Value := .agg #[.int .i64 x, .int .i64 y, .int .i64 d]
end Go.Proofs.Ytahamffngmdjfaa.W
