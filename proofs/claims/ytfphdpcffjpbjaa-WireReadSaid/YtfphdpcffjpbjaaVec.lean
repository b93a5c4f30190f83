/-
  wire.Vec, wire.Bool: onto a row of bytes of the call's own the calls append the encoding of a vector, of a boolean. Conditions: the integers have 64 bits; the row has room below 2^47.
-/
import Derived.Test.YtfphdpcffjpbjaaInt
import Derived.Deep.RegionHeld3
namespace Go.Proofs.Ytfphdpcffjpbjaa.W
open Go.RowKit Go.Proofs.Ytfphdpcffjpbjaa.Pl

/-- two cells of a block that was laid beside the row -/
theorem keepA {w w' : World} {b v : Value} {x y : Value} {T : TypeId} (h : Grew (w.alloc (.cells #[x, y] T)).drew w' b v) (hb : ∀ k, b.ownBlock = some k → k < w.heap.size) :
    w'.cell? ⟨w.heap.size, 0, none⟩ = some x ∧ w'.cell? ⟨w.heap.size, 1, none⟩ = some y := by
  have hne : some w.heap.size ≠ b.ownBlock := fun e => by have := hb _ e.symm; omega
  exact ⟨h.by_.cell (v := x) (a := ⟨w.heap.size, 0, none⟩) (by simp) hne, h.by_.cell (v := y) (a := ⟨w.heap.size, 1, none⟩) (by simp) hne⟩

set_option maxRecDepth 100000 in
set_option maxHeartbeats 400000 in
theorem vec_any (B : Nat) (b : Value) (l : List Int) (x y : Int) (w : World) (hx : I64 x) (hy : I64 y) (hB : B ≤ w.heap.size) (hlen : l.length ≤ 140737488354900) (hown : OwnB w B b l) :
    Calls Try.prog 40 #[b, .agg #[.int .i64 x, .int .i64 y]] w fun e w' => ∃ v, e = .returned v ∧ OwnB w' B v (l ++ (enc x ++ enc y)) ∧ Grew w w' b v := by
  have g1 := Grew.alloc w (.cells #[.int .i64 x, .int .i64 y] 46) b
  have own0 := hown.alloc (.cells #[.int .i64 x, .int .i64 y] 46)
  have hfr := hown.from_
  have hlt := hown.lt_
  go_enter Try.func40, Try.ntmps40
  go_wp2_with fail
  go_region_held3 (fun w' : World => w'.cell? (⟨w.heap.size, 0, none⟩ : Addr) = some (Value.int .i64 x) ∧ w'.cell? (⟨w.heap.size, 1, none⟩ : Addr) = some (Value.int .i64 y)) (first | go_keep | exact keepA gr1 hlt | exact keepA (gr1.trans gr2) hlt)
    (first
      | (go_at_call 19; ((with_reducible refine (int_any B b l x _ hx ?_ ?_ ?_).mono ?_); (simp; omega); omega; exact own0; rintro e w1 ⟨v1, rfl, own1, gr1⟩))
      | (go_at_call 19; ((with_reducible refine (int_any B v1 _ y _ hy ?_ ?_ own1).mono ?_); (have := gr1.size; simp at this; omega); (have := enc_length_le x; simp; omega); rintro e w2 ⟨v2, rfl, own2, gr2⟩)))
  go_wp2
  go_ret
  exact ⟨_, rfl, by rw [← List.append_assoc]; exact own2, g1.trans (gr1.undrew.trans gr2)⟩
end Go.Proofs.Ytfphdpcffjpbjaa.W
