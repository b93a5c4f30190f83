/-
  Heap[int]: New, Len, Peek, at what the heap holds as a sorted list. Condition: the heap's block is known.
-/
import Derived.Test.YtogfcenebbipeaaHNc
namespace Go.Proofs.Ytogfcenebbipeaa.W
open Go.RowKit Go.Proofs.Ytogfcenebbipeaa.Pl

/-- the heap in block H, with its slice v, holds the sorted list q; p elements were pushed -/
def HpN (C : Nat) (w : World) (H : Nat) (v : Value) (q : List Ent) (p : Nat) : Prop := ∃ l, ArrN C w H v l p ∧ l.Perm q ∧ Hp rkN l ∧ GoodQ rkN q p
theorem HpN.kp {S : Nat → Prop} {C H p : Nat} {w w' : World} {v : Value} {q : List Ent} (h : HpN C w H v q p) (hk : Kp S w w') (hS : ∀ k, Ft H v k → ¬ S k) : HpN C w' H v q p := by
  obtain ⟨l, h1, h2⟩ := h
  exact ⟨l, h1.kp hk (hS H (.inl rfl)) (fun g e => hS g (.inr e)), h2⟩
theorem HpN.nw {C H p : Nat} {w w' : World} {v : Value} {q : List Ent} (h : HpN C w H v q p) (hk : Nw w w') : HpN C w' H v q p := h.kp hk fun _ _ e => e
theorem HpN.blk {C H p : Nat} {w : World} {v : Value} {q : List Ent} (h : HpN C w H v q p) : Blk w H 92 #[(.func (.func 31) #[] #[]), v, .int .u64 p] := by
  obtain ⟨l, h1, _⟩ := h
  exact h1.blk
theorem HpN.lt {C H p : Nat} {w : World} {v : Value} {q : List Ent} (h : HpN C w H v q p) : ∀ k, Ft H v k → k < w.heap.size := by
  obtain ⟨l, h1, _⟩ := h
  intro k e
  rcases e with rfl | e
  · exact h1.blk.lt
  · exact own_lt h1.own k e
theorem HpN.cs {C H p c : Nat} {w : World} {v : Value} {q : List Ent} (h : HpN C w H v q p) (hc : CntN C w c) : ∀ k, CsN C k → ¬ Ft H v k := by
  obtain ⟨l, h1, _⟩ := h
  intro k e e2
  rcases e2 with rfl | e2
  · exact cntN_blk hc h1.blk _ e rfl
  · exact cntN_own hc h1.own k e e2
theorem HpN.shape {C H p : Nat} {w : World} {v : Value} {q : List Ent} (h : HpN C w H v q p) : ∃ A cap, v = .slice A q.length cap := by
  obtain ⟨l, h1, h2, _⟩ := h
  rw [← h2.length_eq]
  exact (own_src h1.own).shape
theorem HpN.zero (C : Nat) (w : World) : HpN C (w.alloc (.cells #[(.func (.func 31) #[] #[]), .slice none 0 0, .int .u64 0] 92)) w.heap.size (.slice none 0 0) [] 0 :=
  ⟨[], ⟨Blk.new _ _ _, World.ownsRow_nil _ _ _ _⟩, List.Perm.refl _, fun j hj _ => absurd hj (by simp), GoodQ.nil _ _⟩

set_option maxRecDepth 100000 in
theorem newN_any (C : Nat) (w : World) : Calls Try.prog 42 #[(.func (.func 31) #[] #[])] w fun e w' => e = .returned (.pointer (some ⟨w.heap.size, 0, none⟩)) ∧ HpN C w' w.heap.size (.slice none 0 0) [] 0 ∧ Nw w w' ∧ w'.heap.size = w.heap.size + 1 := by
  have HZ := Lib.hid (HpN.zero C w)
  have hne : ∀ w : World, (binOp BinOp.eql 64 (.func (.func 31) #[] #[]) .nilFunc).run Try.prog w = .ok (.bool false) w := fun _ => by kernel_rfl
  go_enter Try.func42, Try.ntmps42
  go_wp2
  go_ret
  exact ⟨rfl, HZ.out, (Kp.refl _ _).alloc _, by simp⟩
theorem lenN_any (C H p : Nat) (v : Value) (q : List Ent) (w : World) (h : HpN C w H v q p) : Calls Try.prog 55 #[.pointer (some ⟨H, 0, none⟩)] w fun e w' => e = .returned (.int .i64 q.length) ∧ w = w' := by
  obtain ⟨A, cap, rfl⟩ := h.shape
  obtain ⟨_, b1, _, _, _, _⟩ := h.blk.three
  go_enter Try.func55, Try.ntmps55
  go_wp2
  go_ret
  exact ⟨rfl, rfl⟩

set_option maxHeartbeats 800000 in
theorem peekN_none (C H p : Nat) (v : Value) (w : World) (h : HpN C w H v [] p) :
    Calls Try.prog 50 #[.pointer (some ⟨H, 0, none⟩)] w fun e w' => e = .returned (.tuple #[.int .i64 0, .bool false]) ∧ Nw w w' := by
  go_enter Try.func50, Try.ntmps50
  go_wp2_with (go_at_call 55; ((with_reducible refine (lenN_any C H p v [] _ h).mono ?_); rintro e w1 ⟨rfl, rfl⟩))
  go_ret2
  exact ⟨rfl, Kp.refl _ _⟩

/-- the first element is the least -/
theorem HpN.top {C H p : Nat} {w : World} {v : Value} {x : Ent} {q : List Ent} (h : HpN C w H v (x :: q) p) :
    ∃ g cap l, v = .slice (some ⟨g, 0, none⟩) (q.length + 1) cap ∧ q.length + 1 ≤ cap ∧ cap ≤ maxLen ∧ l.length = q.length + 1 ∧ gt l 0 = x ∧ ArrN C w H v l p ∧ l.Perm (x :: q) ∧ Hp rkN l ∧ GoodQ rkN (x :: q) p := by
  obtain ⟨l, h1, h2, h3, h4⟩ := h
  have hl : l.length = q.length + 1 := h2.length_eq
  obtain ⟨g, cap, hv, hc, hm, _⟩ := own_form h1.own (by omega)
  rw [hl] at hc hv
  exact ⟨g, cap, l, hv, hc, hm, hl, top_eq h2 h4.1 h3, h1, h2, h3, h4⟩

set_option maxRecDepth 100000 in
set_option maxHeartbeats 800000 in
theorem peekN_some (C H p : Nat) (v : Value) (x : Ent) (q : List Ent) (w : World) (h : HpN C w H v (x :: q) p) (hlen : q.length ≤ 1099511627776) :
    Calls Try.prog 50 #[.pointer (some ⟨H, 0, none⟩)] w fun e w' => e = .returned (.tuple #[.int .i64 x.1.1, .bool true]) ∧ Nw w w' := by
  obtain ⟨g, cap, l, rfl, hcap, hmax, hl, hx, ha, _⟩ := h.top
  unfold maxLen at hmax
  have hat := ha.at_ hl (i := 0) (by omega) hx
  unfold AtN at hat
  simp only [Nat.zero_mul, Nat.zero_add] at hat
  obtain ⟨c0, c1⟩ := hat
  obtain ⟨_, b1, _, _, _, _⟩ := ha.blk.three
  go_enter Try.func50, Try.ntmps50
  go_wp2_with (go_at_call 55; ((with_reducible refine (lenN_any C H p _ (x :: q) _ h).mono ?_); rintro e w1 ⟨rfl, rfl⟩; rw [show (x :: q).length = q.length + 1 from rfl]))
  go_ret2
  exact ⟨rfl, Kp.refl _ _⟩
end Go.Proofs.Ytogfcenebbipeaa.W
