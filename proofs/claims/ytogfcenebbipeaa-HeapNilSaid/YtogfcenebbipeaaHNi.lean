/-
  (*Heap[int]).All and its iterator: the elements in the order in which they would be popped, from a clone that is laid when the loop begins. Conditions: the heap is known; the loop's body keeps its word (SeqIt).
-/
import Derived.Test.YtogfcenebbipeaaHAll
import Derived.Test.YtogfcenebbipeaaHNCl
namespace Go.Proofs.Ytogfcenebbipeaa.W
open Go.RowKit Go.Shelf Go.Proofs.Ytogfcenebbipeaa.Pl

attribute [local go_sem] Oper.semAt_some

theorem allN_any (u : Option Addr) (w : World) : Calls Try.prog 39 #[.pointer u] w fun e w' => e = .returned (.func (.func 44) #[] #[.pointer (some ⟨w.heap.size, 0, none⟩)]) ∧ w' = w.alloc (.cells #[.pointer u] 79) := by
  go_enter Try.func39, Try.ntmps39
  go_wp2
  go_ret
  exact ⟨rfl, rfl⟩

/-- an element as it is handed to yield -/
def encN (x : Int × Int) : Value := .int .i64 x.1
theorem leftN_eq {H p : Nat} {w : World} {v : Value} {q : List Ent} (h : HpN 0 w H v q p) : left H w = q.length := by
  obtain ⟨A, cap, rfl⟩ := h.shape
  obtain ⟨_, b1, _⟩ := h.blk.three
  unfold left
  rw [b1]

set_option maxRecDepth 100000 in
set_option maxHeartbeats 3200000 in
theorem iterN_any (B H p : Nat) (v : Value) (q : List Ent) (w : World) (hB : Blk w B 79 #[.pointer (some ⟨H, 0, none⟩)]) (hH : HpN 0 w H v q p) (hq : q.length ≤ 1099511627775) :
    SeqIt 44 #[.pointer (some ⟨B, 0, none⟩)] encN (q.map (·.1)) w := by
  intro l O J Jx W hW hJ hY h0
  have hBW := hB.kp hW (fun e => e)
  have hHW := hH.nw hW
  obtain ⟨b0, b1⟩ := hBW.one
  have HQ := Lib.hid hq
  refine callsIn_of_wp Try.func44 rfl trivial ?_ rfl
  simp only [Try.ntmps44, List.size_toArray, List.length_cons, List.length_nil, Nat.reduceAdd, Nat.reduceSub, Array.replicate_succ, Array.replicate_zero, List.push_toArray, List.append_toArray, List.nil_append, List.cons_append]
  gi_wp2_with (first
    | (refine ⟨trivial, ?_⟩; gi_at_call 45; refine (callsIn_wide.2 (cloneN_any 0 H p v q _ hHW (by omega))).mono ?_; rintro e w1 ⟨H2, rfl, v2, hh2, hf2, hk1⟩)
    | (refine ⟨trivial, ?_⟩; gi_at_call 46; refine (callsIn_wide.2 (popN_any 0 H2 0 p v2 q _ hh2 (cntN_t _ _ _) (by omega))).mono ?_; rintro e w2 ⟨rfl, v3, c3, hh3, hkk3, hv3, _, _⟩))
  have hkp3 : Kp (Ft H2 v2) w1 w2 := hkk3.mono fun _ _ e => e.elim id fun e => e.elim
  have hnw2 : Nw W w2 := hk1.own hkp3 hf2
  have hj := hJ.abide _ _ _ _ h0 hnw2 (fun _ e => e.elim)
  have hkj := hJ.keep _ _ _ _ h0 hnw2 (fun _ e => e.elim)
  gi_loopw [4, 5] (fun p4 ok wr => ∃ (k : Nat) (v' : Value), p4 = .int .i64 (hdv (q.drop k)).1 ∧ ok = .bool (nemp (q.drop k)) ∧ k ≤ q.length ∧ J ((q.take k).map (·.1)) wr ∧ HpN 0 wr H2 v' (q.drop k).tail p ∧ (∀ j, Ft H2 v' j → w.heap.size ≤ j ∧ ¬ O wr j)) (fun _ ok wr => left H2 wr + okN ok)
  case atStart =>
    refine ⟨0, v3, rfl, rfl, Nat.zero_le _, hj, hh3, fun j e => ?_⟩
    have hge : W.heap.size ≤ j := hf2 j (e.imp id fun e => hv3 ▸ e)
    exact ⟨Nat.le_trans hW.size hge, fun e2 => absurd (hJ.lt _ _ _ h0 (hkj j e2)) (by omega)⟩
  case round =>
    obtain ⟨k, v', rfl, rfl, hk, hj, hh, hO⟩ := hrel
    obtain ⟨r, hr⟩ : ∃ r, q.drop k = r := ⟨_, rfl⟩
    rw [hr] at hh ⊢
    cases r with
    | nil =>
      have hkl : k = q.length := by have := List.drop_eq_nil_iff.1 hr; omega
      have hn0 : nemp ([] : List Ent) = false := rfl
      have hall : (q.take k).map (·.1) = q.map (·.1) := by rw [List.take_of_length_le (by omega)]
      rw [hall] at hj
      gi_wp2
      refine ⟨fun _ h => (by cases h), ?_⟩
      gi_wp2
      go_end0
      exact ⟨⟨_, rfl⟩, .inl hj⟩
    | cons x r =>
      have hkl : k < q.length := by
        rcases Nat.lt_or_ge k q.length with h | h
        · exact h
        · rw [List.drop_eq_nil_of_le h] at hr; cases hr
      have hqx : q = q.take k ++ x :: r := by rw [← hr, List.take_append_drop]
      have hdr : q.drop (k + 1) = r := by rw [← List.drop_drop, hr]; rfl
      have htk : (q.take (k + 1)).map (·.1) = (q.take k).map (·.1) ++ [x.1] := by
        have e : q.take (k + 1) = q.take k ++ [x] := by
          rw [List.take_add_one]
          have : q[k]? = some x := by rw [← List.head?_drop, hr]; rfl
          rw [this]; rfl
        rw [e, List.map_append]; rfl
      have hpre : (q.take k).map (·.1) ++ [x.1] <+: q.map (·.1) := ⟨r.map (·.1), by
        have := congrArg (List.map (·.1)) hqx
        rw [this]
        simp⟩
      have hrl : r.length ≤ 1099511627776 := by have := congrArg List.length hr; rw [List.length_drop] at this; simp at this; have := HQ.out; omega
      rw [show hdv (x :: r) = x.1 from rfl]
      rw [show nemp (x :: r) = true from rfl]
      rw [show (x :: r).tail = r from rfl] at hh
      have hleft : left H2 wr + okN (.bool true) = r.length + 1 := by rw [leftN_eq hh]; rfl
      obtain ⟨fn, tmps, assign, body, hy, hR⟩ := hY _ x.1 wr hj hpre
      dsimp only [encN] at hy
      have HTK := Lib.hid htk
      have HDR := Lib.hid hdr
      have HLF := Lib.hid hleft
      clear hqx hdr htk hleft
      gi_wp2
      refine hR.mono ?_
      rintro e W3 (⟨rfl, hJ3, hk3⟩ | ⟨rfl, hJx3⟩)
      · have hh3 := hh.kp hk3.kp (fun j e => (hO j e).2)
        have hO3 : ∀ j, Ft H2 v' j → w.heap.size ≤ j ∧ ¬ O W3 j := fun j e => ⟨(hO j e).1, fun e2 => by
          rcases hk3.own j e2 with e3 | e3
          · exact (hO j e).2 e3
          · have := hh.lt j e; omega⟩
        gi_wp2_with (refine ⟨trivial, ?_⟩; gi_at_call 46; refine (callsIn_wide.2 (popN_any 0 H2 0 p v' r _ hh3 (cntN_t _ _ _) hrl)).mono ?_; rintro e W5 ⟨rfl, v5, c5, hh5, hkk5, hv5, _, _⟩; have hk5 : Kp (Ft H2 v') _ W5 := hkk5.mono fun _ _ e => e.elim id fun e => e.elim)
        have hj6 := hJ.abide _ _ _ _ hJ3 hk5 hO3
        have hkj6 := hJ.keep _ _ _ _ hJ3 hk5 hO3
        rw [← HTK.out] at hj6
        go_roundw
        case rel =>
          refine ⟨k + 1, v5, by rw [HDR.out], by rw [HDR.out], hkl, hj6, by rw [HDR.out]; exact hh5, fun j e => ?_⟩
          have := hO3 j (e.imp id fun e => hv5 ▸ e)
          exact ⟨this.1, fun e2 => this.2 (hkj6 j e2)⟩
        case measure =>
          rw [HLF.out, leftN_eq hh5]
          cases r <;> simp [okN, nemp]
      · gi_wp2
        go_end0
        exact ⟨⟨_, rfl⟩, .inr ⟨_, hpre, hJx3⟩⟩
end Go.Proofs.Ytogfcenebbipeaa.W
