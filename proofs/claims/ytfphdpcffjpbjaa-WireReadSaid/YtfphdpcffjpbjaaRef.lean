/-
  fretsawref01.(*Reader).Left, End, fail: what the calls return and leave of a reader whose block is known. Conditions: the bytes are shorter than 2^62; the place is not behind their end.
-/
import Derived.Test.YtfphdpcffjpbjaaAwake
import Derived.Test.YtfphdpcffjpbjaaSameL
import Derived.IntWalk
namespace Go.Proofs.Ytfphdpcffjpbjaa.W
open Go.RowKit Go.Proofs.Ytfphdpcffjpbjaa.Pl

theorem three_cell {w : World} {R : Nat} {x y z : Value} {T : Nat} (h : w.heap[R]? = some (.cells #[x, y, z] T)) :
    w.cell? ⟨R, 0, none⟩ = some x ∧ w.cell? ⟨R, 1, none⟩ = some y ∧ w.cell? ⟨R, 2, none⟩ = some z ∧ w.frozen? ⟨R, 0, none⟩ = false ∧ w.frozen? ⟨R, 1, none⟩ = false ∧ w.frozen? ⟨R, 2, none⟩ = false := by
  simp [World.cell?, World.frozen?, h]

/-- the reference's reader at R reads l from the place k on -/
def RefR (w : World) (R : Nat) (v : Value) (l : List Int) (k : Nat) (f : Bool) : Prop :=
  w.heap[R]? = some (.cells #[v, .int .i64 k, .bool f] 29) ∧ Src w 1 v l.length (bytes l) ∧ l.length ≤ 4611686018427387904 ∧ k ≤ l.length ∧ (v.ownBlock = none ∨ v.ownBlock ≠ some R)

theorem three_set1 {w : World} {b : Nat} {x y z u : Value} {T : Nat} (h : w.heap[b]? = some (.cells #[x, y, z] T)) : (w.setCell ⟨b, 1, none⟩ u).heap[b]? = some (.cells #[x, u, z] T) := by
  simp [World.setCell, Array.getElem?_modify, h]
theorem three_set2 {w : World} {b : Nat} {x y z u : Value} {T : Nat} (h : w.heap[b]? = some (.cells #[x, y, z] T)) : (w.setCell ⟨b, 2, none⟩ u).heap[b]? = some (.cells #[x, y, u] T) := by
  simp [World.setCell, Array.getElem?_modify, h]

set_option maxRecDepth 100000 in
set_option maxHeartbeats 400000 in
theorem refFail_any (R : Nat) (v : Value) (l : List Int) (k at_ : Nat) (f : Bool) (w : World) (h : RefR w R v l k f) (ha : at_ ≤ l.length) :
    Calls Try.prog 80 #[.pointer (some ⟨R, 0, none⟩), .int .i64 at_] w fun e w' => e = .returned (.tuple #[]) ∧ RefR w' R v l at_ true ∧ w.grownBy w' (some R) := by
  obtain ⟨h1, hs, hl, hk, hne⟩ := id h
  obtain ⟨c0, c1, c2, d0, d1, d2⟩ := three_cell h1
  go_enter Try.func80, Try.ntmps80
  have hg : w.grownBy ((w.setCell ⟨R, 1, none⟩ (.int .i64 at_)).setCell ⟨R, 2, none⟩ (.bool true)) (some R) := (grown_setCell w R 1 _).trans (grown_setCell _ R 2 _)
  have hr : RefR ((w.setCell ⟨R, 1, none⟩ (.int .i64 at_)).setCell ⟨R, 2, none⟩ (.bool true)) R v l at_ true := ⟨three_set2 (three_set1 h1), Src.grown hs hg hne, hl, ha, hne⟩
  go_wp2
  exact bodyPost_end (v := .tuple #[]) (by simp [results, Try.results80, go_sem]) rfl ⟨rfl, hr, hg⟩

set_option maxRecDepth 100000 in
set_option maxHeartbeats 400000 in
theorem refLeft_any (R : Nat) (v : Value) (l : List Int) (k : Nat) (f : Bool) (w : World) (h : RefR w R v l k f) :
    Calls Try.prog 13 #[.pointer (some ⟨R, 0, none⟩)] w fun e w' => e = .returned (.int .i64 ((l.length - k : Nat) : Int)) ∧ Later w w' := by
  obtain ⟨h1, hs, hl, hk, _⟩ := h
  obtain ⟨A, c, rfl⟩ := hs.shape
  obtain ⟨c0, c1, c2, d0, d1, d2⟩ := three_cell h1
  have hsub : ((l.length - k : Nat) : Int) = (l.length : Int) - k := by omega
  have hw : IntKind.i64.wrap ((l.length : Int) - k) = (l.length : Int) - k := IntWalk.i64_in _ (by omega)
  clear h1 hs
  rw [hsub]
  clear hsub
  go_enter Try.func13, Try.ntmps13
  go_wp2
  go_quiet (fail)
  go_wp2
  go_ret
  exact ⟨rfl, _, rfl⟩

set_option maxRecDepth 100000 in
set_option maxHeartbeats 400000 in
theorem refEnd_any (R : Nat) (v : Value) (l : List Int) (k : Nat) (f : Bool) (w : World) (h : RefR w R v l k f) :
    Calls Try.prog 15 #[.pointer (some ⟨R, 0, none⟩)] w fun e w' => e = .returned (.int .i64 (endOf (l.drop k) f)) ∧ Later w w' := by
  obtain ⟨h1, hs, hl, hk, _⟩ := h
  obtain ⟨A, c, rfl⟩ := hs.shape
  obtain ⟨c0, c1, c2, d0, d1, d2⟩ := three_cell h1
  clear h1 hs
  cases f with
  | true =>
    have he : Hid (endOf (l.drop k) true = 4) := by show endOf (l.drop k) true = 4; simp [endOf]
    go_enter Try.func15, Try.ntmps15
    go_wp2
    go_quiet (fail)
    go_wp2
    go_ret
    exact ⟨ret_int he.out.symm, _, rfl⟩
  | false =>
    by_cases hkl : k = l.length
    · have he : Hid (endOf (l.drop k) false = 0) := by show endOf (l.drop k) false = 0; rw [hkl, List.drop_length]; simp [endOf]
      have hb : ((k : Int) != (l.length : Int)) = false := by simp [hkl]
      clear hkl
      go_enter Try.func15, Try.ntmps15
      go_wp2
      go_quiet (fail)
      go_wp2
      go_ret
      exact ⟨ret_int he.out.symm, _, rfl⟩
    · have he : Hid (endOf (l.drop k) false = 4) := by
        show endOf (l.drop k) false = 4
        have : l.drop k ≠ [] := by
          intro e
          have := congrArg List.length e
          rw [List.length_drop, List.length_nil] at this
          omega
        simp [endOf, this]
      have hb : ((k : Int) != (l.length : Int)) = true := by rw [bne_iff_ne]; omega
      clear hkl
      go_enter Try.func15, Try.ntmps15
      go_wp2
      go_quiet (fail)
      go_wp2
      go_ret
      exact ⟨ret_int he.out.symm, _, rfl⟩
end Go.Proofs.Ytfphdpcffjpbjaa.W
