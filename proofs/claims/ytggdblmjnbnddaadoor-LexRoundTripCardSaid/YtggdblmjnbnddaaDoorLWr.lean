/-
  The library's strconv.Itoa and strings.Join, by their contracts; Write of lex. Condition: the table of the powers of ten is laid; the number is an int.
-/
import Derived.Test.YtggdblmjnbnddaaDoorLLd
import Derived.Test.YtggdblmjnbnddaaDoorLNm
import Derived.Test.YtggdblmjnbnddaaDoorLSm
namespace Go.Proofs.YtggdblmjnbnddaaDoor.W
open Go.RowKit Go.Proofs.YtggdblmjnbnddaaDoor.Pl

theorem nw_grow (w : World) (k : Nat) (os : Array Obj) : Nw w (Sort.grow (w.drewN k) os) := by
  refine ⟨rfl, rfl, rfl, ?_, fun i hi _ => ?_⟩
  · show w.heap.size ≤ (w.heap ++ os).size
    simp
  · show (w.heap ++ os)[i]? = w.heap[i]?
    rw [Array.getElem?_append_left hi]
theorem itoa_any (n : Int) (h0 : -9223372036854775808 ≤ n) (h1 : n ≤ 9223372036854775807) (w : World) (ht : Tab w) :
    Calls Tryd.prog 26 #[.int .i64 n] w fun e w' => e = .returned (.string (tx (Lib.itoa n))) ∧ Nw w w' :=
  (Any.strconv_Itoa Tryd.laysM171 n h0 h1 w ht).mono fun _ _ ⟨h, k, os, h'⟩ => ⟨h, by subst h'; exact nw_grow w k os⟩

/-- a number of a token is an int -/
def Fit (t : Tk) : Prop := -9223372036854775808 ≤ t.n ∧ t.n ≤ 9223372036854775807
set_option maxRecDepth 100000 in
set_option maxHeartbeats 1600000 in
theorem write_any (t : Tk) (w : World) (hf : Fit t) (ht : Tab w) :
    Calls Tryd.prog 15 #[.agg #[.int .i64 t.kind, .string (tx t.text), .int .i64 t.n, .int .i64 t.at_]] w fun e w' => e = .returned (.string (tx (wr t))) ∧ Nw w w' := by
  obtain ⟨k, x, n, a⟩ := t
  by_cases hk : k = 2
  · subst hk
    have hw : wr ⟨2, x, n, a⟩ = Lib.itoa n := rfl
    rw [hw]
    go_enter Tryd.func15, Tryd.ntmps15
    have hnw : Nw w (w.alloc (.cells #[.int .i64 2, .string (tx x), .int .i64 n, .int .i64 a] 35)) := (Kp.refl _ w).alloc _
    have HT := Lib.hid (ht.nw hnw)
    have HW := Lib.hid hnw
    clear hnw
    go_wp2_with (go_at_call 26; refine (itoa_any n hf.1 hf.2 _ HT.out).mono ?_; rintro e w1 ⟨rfl, hk1⟩)
    go_ret
    exact ⟨rfl, HW.out.tr hk1⟩
  · have hw : wr ⟨k, x, n, a⟩ = x := by unfold wr; simp [hk]
    rw [hw]
    go_enter Tryd.func15, Tryd.ntmps15
    go_wp2_with fail
    go_ret
    exact ⟨rfl, (Kp.refl _ w).alloc _⟩
end Go.Proofs.YtggdblmjnbnddaaDoor.W
