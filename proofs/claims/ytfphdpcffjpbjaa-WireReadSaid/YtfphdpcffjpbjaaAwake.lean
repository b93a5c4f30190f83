/-
  (*wire.Reader).End, (*wire.Reader).Left; fretsawlaw01.awake returns true and writes nothing that was there. Condition for the first two: the reader's block is known.
-/
import Derived.Test.YtfphdpcffjpbjaaReadInt
import Derived.Test.YtfphdpcffjpbjaaVec
import Derived.Test.YtfphdpcffjpbjaaSame
namespace Go.Proofs.Ytfphdpcffjpbjaa.W
open Go.RowKit Go.Proofs.Ytfphdpcffjpbjaa.Pl

/-- what End answers -/
def endOf (l : List Int) (f : Bool) : Int := if f = true ∨ l ≠ [] then 4 else 0

set_option maxRecDepth 100000 in
set_option maxHeartbeats 400000 in
theorem end_any (R g : Nat) (l : List Int) (f : Bool) (w : World) (h : Rec w 79 R g l f) :
    Calls Try.prog 14 #[.pointer (some ⟨R, 0, none⟩)] w fun e w' => e = .returned (.int .i64 (endOf l f)) ∧ w = w' := by
  obtain ⟨rest, h1, ⟨A, c, rfl, _⟩, h5⟩ := h
  obtain ⟨k0, k1, k2, k3⟩ := two_cell h1
  clear h1 h5
  cases f with
  | true =>
    have he : Hid (endOf l true = 4) := by show endOf l true = 4; simp [endOf]
    go_enter Try.func14, Try.ntmps14
    go_wp2
    go_ret
    exact ⟨ret_int he.out.symm, rfl⟩
  | false =>
    cases l with
    | nil =>
      have he : Hid (endOf [] false = 0) := by show endOf [] false = 0; simp [endOf]
      go_enter Try.func14, Try.ntmps14
      go_wp2
      go_ret
      exact ⟨ret_int he.out.symm, rfl⟩
    | cons x t =>
      have he : Hid (endOf (x :: t) false = 4) := by show endOf (x :: t) false = 4; simp [endOf]
      obtain ⟨n, hn⟩ : ∃ n, n = (x :: t).length := ⟨_, rfl⟩
      rw [← hn] at k0
      have hn1 : 1 ≤ n := by simp at hn; omega
      clear hn
      go_enter Try.func14, Try.ntmps14
      go_wp2
      go_ret
      exact ⟨ret_int he.out.symm, rfl⟩

set_option maxRecDepth 100000 in
set_option maxHeartbeats 400000 in
theorem left_any (R g : Nat) (l : List Int) (f : Bool) (w : World) (h : Rec w 79 R g l f) :
    Calls Try.prog 12 #[.pointer (some ⟨R, 0, none⟩)] w fun e w' => e = .returned (.int .i64 l.length) ∧ w = w' := by
  obtain ⟨rest, h1, ⟨A, c, rfl, _⟩, h5⟩ := h
  obtain ⟨k0, k1, k2, k3⟩ := two_cell h1
  clear h1 h5
  go_enter Try.func12, Try.ntmps12
  go_wp2
  go_ret
  exact ⟨rfl, rfl⟩

theorem enc128 : enc 128 = [2, 0, 128] := by decide
theorem enc3 : enc 3 ++ enc 0 = [1, 3, 0] := by decide
theorem byL (l : List Int) (h : l.all (fun x => decide (0 ≤ x) && decide (x < 256)) = true) : By l := fun x hx => by
  have := List.all_eq_true.1 h x hx
  simpa using this

set_option maxRecDepth 100000 in
set_option maxHeartbeats 800000 in
theorem awake_any (w : World) : Calls Try.prog 9 #[] w fun e w' => e = .returned (.bool true) ∧ Below w.heap.size w w' := by
  have s0 := Src.lit w [2, 0, 127] (by decide)
  go_enter Try.func9, Try.ntmps9
  go_wp2_with (go_at_call 10; go_must (refine (new_any _ [2, 0, 127] _ s0 (by decide)).mono ?_); rintro e w1 ⟨R, g, rfl, hR, hg, hrec, hb1⟩)
  have o1 := OwnB.lit w1 w1.heap.size [9] (Nat.le_refl _) (by decide)
  refine (int_any w1.heap.size _ [9] 128 _ ⟨by decide, by decide⟩ (by simp) (by decide) o1).mono ?_
  rintro e w2 ⟨v2, rfl, own2, gr2⟩
  rw [enc128] at own2
  have hb2 : Below w1.heap.size w1 w2 := ((Below.refl _ _).alloc (Nat.le_refl _) _).trans (gr2.below (by simp) (by intro k hk; simp [Value.ownBlock] at hk; omega))
  go_wp2_with fail
  have s2 := own2.src.alloc (.cells (bytes [9, 2, 0, 128]).toArray 5)
  refine (same_true _ _ [9, 2, 0, 128] _ s2 (Src.lit w2 [9, 2, 0, 128] (by decide)) (byL _ (by decide))).mono ?_
  rintro e w3 ⟨rfl, rfl⟩
  go_wp2_with fail
  refine (vec_any w2.heap.size _ [] 3 0 _ ⟨by decide, by decide⟩ ⟨by decide, by decide⟩ (by simp) (by decide) (OwnB.nil _ _)).mono ?_
  rintro e w3 ⟨v3, rfl, own3, gr3⟩
  rw [enc3] at own3
  have hb3 : Below w2.heap.size w2 w3 := ((Below.refl _ _).alloc (Nat.le_refl _) _).trans (gr3.below (by simp) (by intro k hk; simp [Value.ownBlock] at hk))
  go_wp2_with fail
  have s3 := own3.src.alloc (.cells (bytes [1, 3, 0]).toArray 5)
  refine (same_true _ _ [1, 3, 0] _ s3 (Src.lit w3 [1, 3, 0] (by decide)) (byL _ (by decide))).mono ?_
  rintro e w4 ⟨rfl, rfl⟩
  go_wp2_with fail
  have hb4 : Below w1.heap.size w1 (w3.alloc (.cells (bytes [1, 3, 0]).toArray 5)) := (hb2.trans (hb3.mono hb2.size)).alloc (by have := hb2.size; have := hb3.size; omega) _
  have hrec4 := hrec.below hb4
  refine (rInt_any R g [2, 0, 127] false _ hrec4 (byL _ (by decide))).mono ?_
  rintro e w5 ⟨v5, rfl, rfl, hrec5, gr5⟩
  have hrd : rd 0 sInt [2, 0, 127] false = (0, [2, 0, 127], true) := by decide
  rw [hrd] at hrec5 ⊢
  clear hrd
  have hb0 : Below w.heap.size w w1 := ((Below.refl _ _).alloc (Nat.le_refl _) _).trans (hb1.mono (by simp))
  have hR0 : w.heap.size ≤ R := by have : w.heap.size ≤ (w.alloc (.cells (bytes [2, 0, 127]).toArray 5)).heap.size := by simp
                                   exact Nat.le_trans this hR
  have hb5 : Below w.heap.size w w5 := (hb0.trans (hb4.mono hb0.size)).grown gr5 (Nat.le_trans hb0.size hb4.size) (by intro k hk; injection hk with hk; omega)
  go_wp2_with fail
  refine (end_any R g [2, 0, 127] true _ hrec5).mono ?_
  rintro e w6 ⟨rfl, rfl⟩
  have he : endOf [2, 0, 127] true = 4 := by decide
  rw [he]
  clear he
  go_wp2
  go_ret
  exact ⟨rfl, hb5⟩
end Go.Proofs.Ytfphdpcffjpbjaa.W
