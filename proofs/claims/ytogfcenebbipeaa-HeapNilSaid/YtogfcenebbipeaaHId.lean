/-
  Heap[fretsaw/fretsawref03.Item]: New, Len, Peek, at what the heap holds as a sorted list. Condition: the heap's block is known.
-/
import Derived.Test.YtogfcenebbipeaaHIc
namespace Go.Proofs.Ytogfcenebbipeaa.W
open Go.RowKit Go.Proofs.Ytogfcenebbipeaa.Pl

/-- the heap in block H, with its slice v, holds the sorted list q; p elements were pushed -/
def HpI (C : Nat) (w : World) (H : Nat) (v : Value) (q : List Ent) (p : Nat) : Prop := ∃ l, ArrI C w H v l p ∧ l.Perm q ∧ Hp rkI l ∧ GoodQ rkI q p
theorem HpI.kp {S : Nat → Prop} {C H p : Nat} {w w' : World} {v : Value} {q : List Ent} (h : HpI C w H v q p) (hk : Kp S w w') (hS : ∀ k, Ft H v k → ¬ S k) : HpI C w' H v q p := by
  obtain ⟨l, h1, h2⟩ := h
  exact ⟨l, h1.kp hk (hS H (.inl rfl)) (fun g e => hS g (.inr e)), h2⟩
theorem HpI.nw {C H p : Nat} {w w' : World} {v : Value} {q : List Ent} (h : HpI C w H v q p) (hk : Nw w w') : HpI C w' H v q p := h.kp hk fun _ _ e => e
theorem HpI.blk {C H p : Nat} {w : World} {v : Value} {q : List Ent} (h : HpI C w H v q p) : Blk w H 68 #[(.func (.func 12) #[] #[]), v, .int .u64 p] := by
  obtain ⟨l, h1, _⟩ := h
  exact h1.blk
theorem HpI.lt {C H p : Nat} {w : World} {v : Value} {q : List Ent} (h : HpI C w H v q p) : ∀ k, Ft H v k → k < w.heap.size := by
  obtain ⟨l, h1, _⟩ := h
  intro k e
  rcases e with rfl | e
  · exact h1.blk.lt
  · exact own_lt h1.own k e
theorem HpI.cs {C H p c : Nat} {w : World} {v : Value} {q : List Ent} (h : HpI C w H v q p) (hc : CntI C w c) : ∀ k, CsI C k → ¬ Ft H v k := by
  obtain ⟨l, h1, _⟩ := h
  intro k e e2
  rcases e2 with rfl | e2
  · exact cntI_blk hc h1.blk _ e rfl
  · exact cntI_own hc h1.own k e e2
theorem HpI.shape {C H p : Nat} {w : World} {v : Value} {q : List Ent} (h : HpI C w H v q p) : ∃ A cap, v = .slice A q.length cap := by
  obtain ⟨l, h1, h2, _⟩ := h
  rw [← h2.length_eq]
  exact (own_src h1.own).shape
theorem HpI.zero (C : Nat) (w : World) : HpI C (w.alloc (.cells #[(.func (.func 12) #[] #[]), .slice none 0 0, .int .u64 0] 68)) w.heap.size (.slice none 0 0) [] 0 :=
  ⟨[], ⟨Blk.new _ _ _, World.ownsRow_nil _ _ _ _⟩, List.Perm.refl _, fun j hj _ => absurd hj (by simp), GoodQ.nil _ _⟩

set_option maxRecDepth 100000 in
theorem newI_any (C : Nat) (w : World) : Calls Try.prog 11 #[(.func (.func 12) #[] #[])] w fun e w' => e = .returned (.pointer (some ⟨w.heap.size, 0, none⟩)) ∧ HpI C w' w.heap.size (.slice none 0 0) [] 0 ∧ Nw w w' ∧ w'.heap.size = w.heap.size + 1 := by
  have HZ := Lib.hid (HpI.zero C w)
  have hne : ∀ w : World, (binOp BinOp.eql 28 (.func (.func 12) #[] #[]) .nilFunc).run Try.prog w = .ok (.bool false) w := fun _ => by kernel_rfl
  go_enter Try.func11, Try.ntmps11
  go_wp2
  go_ret
  exact ⟨rfl, HZ.out, (Kp.refl _ _).alloc _, by simp⟩
theorem newI_nil (w : World) : Calls Try.prog 11 #[.nilFunc] w fun e w' => e = .returned (.pointer none) ∧ w = w' := by
  have hnil : ∀ w : World, (binOp BinOp.eql 28 .nilFunc .nilFunc).run Try.prog w = .ok (.bool true) w := fun _ => by kernel_rfl
  go_enter Try.func11, Try.ntmps11
  go_wp2
  go_ret
  exact ⟨rfl, rfl⟩
theorem lenI_nil (w : World) : Calls Try.prog 18 #[.pointer none] w fun e w' => e = .returned (.int .i64 0) ∧ w = w' := by
  go_enter Try.func18, Try.ntmps18
  go_wp2
  go_ret
  exact ⟨rfl, rfl⟩
theorem lenI_any (C H p : Nat) (v : Value) (q : List Ent) (w : World) (h : HpI C w H v q p) : Calls Try.prog 18 #[.pointer (some ⟨H, 0, none⟩)] w fun e w' => e = .returned (.int .i64 q.length) ∧ w = w' := by
  obtain ⟨A, cap, rfl⟩ := h.shape
  obtain ⟨_, b1, _, _, _, _⟩ := h.blk.three
  go_enter Try.func18, Try.ntmps18
  go_wp2
  go_ret
  exact ⟨rfl, rfl⟩

set_option maxHeartbeats 800000 in
theorem peekI_none (C H p : Nat) (v : Value) (w : World) (h : HpI C w H v [] p) :
    Calls Try.prog 14 #[.pointer (some ⟨H, 0, none⟩)] w fun e w' => e = .returned (.tuple #[.agg #[.int .i64 0, .int .i64 0], .bool false]) ∧ Nw w w' := by
  go_enter Try.func14, Try.ntmps14
  have h1 := h.nw ((Kp.refl _ w).alloc (.cells #[.int .i64 0, .int .i64 0] 27))
  go_wp2_with (go_at_call 18; ((with_reducible refine (lenI_any C H p v [] _ h1).mono ?_); rintro e w1 ⟨rfl, rfl⟩))
  exact bodyPost_ret (v := .tuple #[.agg #[.int .i64 0, .int .i64 0], .bool false]) (by simp [results, Try.results14, go_sem]) rfl ⟨rfl, (Kp.refl _ _).alloc _⟩

/-- the first element is the least -/
theorem HpI.top {C H p : Nat} {w : World} {v : Value} {x : Ent} {q : List Ent} (h : HpI C w H v (x :: q) p) :
    ∃ g cap l, v = .slice (some ⟨g, 0, none⟩) (q.length + 1) cap ∧ q.length + 1 ≤ cap ∧ cap ≤ maxLen ∧ l.length = q.length + 1 ∧ gt l 0 = x ∧ ArrI C w H v l p ∧ l.Perm (x :: q) ∧ Hp rkI l ∧ GoodQ rkI (x :: q) p := by
  obtain ⟨l, h1, h2, h3, h4⟩ := h
  have hl : l.length = q.length + 1 := h2.length_eq
  obtain ⟨g, cap, hv, hc, hm, _⟩ := own_form h1.own (by omega)
  rw [hl] at hc hv
  exact ⟨g, cap, l, hv, hc, hm, hl, top_eq h2 h4.1 h3, h1, h2, h3, h4⟩

set_option maxRecDepth 100000 in
set_option maxHeartbeats 800000 in
theorem peekI_some (C H p : Nat) (v : Value) (x : Ent) (q : List Ent) (w : World) (h : HpI C w H v (x :: q) p) (hlen : q.length ≤ 1099511627776) :
    Calls Try.prog 14 #[.pointer (some ⟨H, 0, none⟩)] w fun e w' => e = .returned (.tuple #[.agg #[.int .i64 x.1.1, .int .i64 x.1.2], .bool true]) ∧ Nw w w' := by
  obtain ⟨g, cap, l, rfl, hcap, hmax, hl, hx, ha, _⟩ := h.top
  unfold maxLen at hmax
  have hat := ha.at_ hl (i := 0) (by omega) hx
  unfold AtI at hat
  simp only [Nat.zero_mul, Nat.zero_add] at hat
  obtain ⟨c0, c1, c2⟩ := hat
  obtain ⟨_, b1, _, _, _, _⟩ := ha.blk.three
  have hgl : g < w.heap.size := own_lt ha.own g rfl
  have hHl := ha.blk.lt
  go_enter Try.func14, Try.ntmps14
  have h1 := h.nw ((Kp.refl _ w).alloc (.cells #[.int .i64 0, .int .i64 0] 27))
  go_wp2_with (go_at_call 18; ((with_reducible refine (lenI_any C H p _ (x :: q) _ h1).mono ?_); rintro e w1 ⟨rfl, rfl⟩; rw [show (x :: q).length = q.length + 1 from rfl]))
  exact bodyPost_ret (v := .tuple #[.agg #[.int .i64 x.1.1, .int .i64 x.1.2], .bool true]) (by simp [results, Try.results14, go_sem]) rfl ⟨rfl, (Kp.refl _ _).alloc _⟩
end Go.Proofs.Ytogfcenebbipeaa.W
