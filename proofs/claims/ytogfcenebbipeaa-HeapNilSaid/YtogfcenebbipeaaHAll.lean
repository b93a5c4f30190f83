/-
  (*Heap[Item]).All and its iterator: the elements in the order in which they would be popped, from a clone that is laid when the loop begins. Conditions: the heap is known; the loop's body keeps its word (SeqIt).
-/
import Derived.Test.YtogfcenebbipeaaHRF
import Derived.Test.YtogfcenebbipeaaHClone
import Derived.Shelf.Abstract
import Derived.Shelf.RegionOpen
import Derived.OwnWalkIn
import Derived.TacticsInMore
import Derived.LoopNIn
import Derived.LoopIn
namespace Go.Proofs.Ytogfcenebbipeaa.W
open Go.RowKit Go.Shelf Go.Proofs.Ytogfcenebbipeaa.Pl

attribute [local go_sem] Oper.semAt_some

theorem allI_any (u : Option Addr) (w : World) : Calls Try.prog 24 #[.pointer u] w fun e w' => e = .returned (.func (.func 34) #[] #[.pointer (some ⟨w.heap.size, 0, none⟩)]) ∧ w' = w.alloc (.cells #[.pointer u] 24) := by
  go_enter Try.func24, Try.ntmps24
  go_wp2
  go_ret
  exact ⟨rfl, rfl⟩

/-- an element as it is handed to yield -/
def encI (x : Int × Int) : Value := .agg #[.int .i64 x.1, .int .i64 x.2]

theorem peekI_nil (w : World) : Calls Try.prog 14 #[.pointer none] w fun e w' => e = .returned (.tuple #[.agg #[.int .i64 0, .int .i64 0], .bool false]) ∧ Nw w w' := by
  go_enter Try.func14, Try.ntmps14
  go_wp2_with (go_at_call 18; ((with_reducible refine (lenI_nil _).mono ?_); rintro e w1 ⟨rfl, rfl⟩))
  exact bodyPost_ret (v := .tuple #[.agg #[.int .i64 0, .int .i64 0], .bool false]) (by simp [results, Try.results14, go_sem]) rfl ⟨rfl, (Kp.refl _ _).alloc _⟩
theorem popI_nil (w : World) : Calls Try.prog 13 #[.pointer none] w fun e w' => e = .returned (.tuple #[.agg #[.int .i64 0, .int .i64 0], .bool false]) ∧ Nw w w' := by
  go_enter Try.func13, Try.ntmps13
  go_wp2_with (go_at_call 14; ((with_reducible refine (peekI_nil _).mono ?_); rintro e w1 ⟨rfl, hk1⟩; have hxb := (Blk.new w 27 #[.int .i64 0, .int .i64 0]).kp hk1 (fun e => e); (obtain ⟨x0, x1, x2, x3⟩ := hxb.two)))
  have hkk : Nw w w1 := ((Kp.refl _ w).alloc _).tr hk1
  obtain ⟨r0, r1, _, _⟩ := ((hxb.lay2 (.int .i64 0) (.int .i64 0)).lay2 (.int .i64 0) (.int .i64 0)).two
  exact bodyPost_ret (v := .tuple #[.agg #[.int .i64 0, .int .i64 0], .bool false]) (by simp [results, Try.results13, go_sem, r0, r1]) rfl ⟨rfl, (((hkk.new (Nat.le_refl _) 0 _).new (Nat.le_refl _) 1 _).new (Nat.le_refl _) 0 _).new (Nat.le_refl _) 1 _⟩

set_option maxRecDepth 100000 in
theorem iterI_nil (B : Nat) (w : World) (hB : Blk w B 24 #[.pointer none]) : SeqIt 34 #[.pointer (some ⟨B, 0, none⟩)] encI [] w := by
  intro l O J Jx W hW hJ hY h0
  have hBW := hB.kp hW (fun e => e)
  obtain ⟨b0, b1⟩ := hBW.one
  refine callsIn_of_wp Try.func34 rfl trivial ?_ rfl
  simp only [Try.ntmps34, List.size_toArray, List.length_cons, List.length_nil, Nat.reduceAdd, Nat.reduceSub, Array.replicate_succ, Array.replicate_zero, List.push_toArray, List.append_toArray, List.nil_append, List.cons_append]
  gi_wp2_with (first
    | (refine ⟨trivial, ?_⟩; gi_at_call 15; refine (callsIn_wide.2 (cloneI_nil _)).mono ?_; rintro e w1 ⟨rfl, rfl⟩)
    | (refine ⟨trivial, ?_⟩; gi_at_call 13; refine (callsIn_wide.2 (popI_nil _)).mono ?_; rintro e w2 ⟨rfl, hk2⟩))
  have hk3 : Nw W (w2.alloc (.cells #[.int .i64 0, .int .i64 0] 27)) := hk2.alloc _
  have hj := hJ.abide _ _ _ _ h0 hk3 (fun _ e => e.elim)
  gi_loopw [5] (fun ok wr => ok = .bool false ∧ J [] wr) (fun ok wr => 0)
  case atStart => exact ⟨rfl, hj⟩
  case round =>
    obtain ⟨rfl, hj2⟩ := hrel
    gi_wp2
    refine ⟨fun _ h => (by cases h), ?_⟩
    gi_wp2
    go_end0
    exact ⟨⟨_, rfl⟩, .inl hj2⟩

/-- how many elements the heap in block H has -/
def left (H : Nat) (w : World) : Nat := match w.cell? ⟨H, 1, none⟩ with
  | some (.slice _ n _) => n
  | _ => 0
theorem left_eq {H p : Nat} {w : World} {v : Value} {q : List Ent} (h : HpI 0 w H v q p) : left H w = q.length := by
  obtain ⟨A, cap, rfl⟩ := h.shape
  obtain ⟨_, b1, _⟩ := h.blk.three
  unfold left
  rw [b1]
def okN : Value → Nat
  | .bool true => 1
  | _ => 0

set_option maxRecDepth 100000 in
set_option maxHeartbeats 3200000 in
theorem iterI_any (B H p : Nat) (v : Value) (q : List Ent) (w : World) (hB : Blk w B 24 #[.pointer (some ⟨H, 0, none⟩)]) (hH : HpI 0 w H v q p) (hq : q.length ≤ 1099511627775) :
    SeqIt 34 #[.pointer (some ⟨B, 0, none⟩)] encI (q.map (·.1)) w := by
  intro l O J Jx W hW hJ hY h0
  have hBW := hB.kp hW (fun e => e)
  have hHW := hH.nw hW
  obtain ⟨b0, b1⟩ := hBW.one
  have HQ := Lib.hid hq
  refine callsIn_of_wp Try.func34 rfl trivial ?_ rfl
  simp only [Try.ntmps34, List.size_toArray, List.length_cons, List.length_nil, Nat.reduceAdd, Nat.reduceSub, Array.replicate_succ, Array.replicate_zero, List.push_toArray, List.append_toArray, List.nil_append, List.cons_append]
  gi_wp2_with (first
    | (refine ⟨trivial, ?_⟩; gi_at_call 15; refine (callsIn_wide.2 (cloneI_any 0 H p v q _ hHW (by omega))).mono ?_; rintro e w1 ⟨H2, rfl, v2, hh2, hf2, hk1⟩)
    | (refine ⟨trivial, ?_⟩; gi_at_call 13; refine (callsIn_wide.2 (popI_any 0 H2 0 p v2 q _ hh2 (cntI_t _ _ _) (by omega))).mono ?_; rintro e w2 ⟨rfl, v3, c3, hh3, hkk3, hv3, _, _⟩))
  have hkp3 : Kp (Ft H2 v2) w1 w2 := hkk3.mono fun _ _ e => e.elim id fun e => e.elim
  have hnw2 : Nw W w2 := hk1.own hkp3 hf2
  have hnw3 : Nw W (w2.alloc (.cells #[.int .i64 (hdv q).1, .int .i64 (hdv q).2] 27)) := hnw2.alloc _
  have hj := hJ.abide _ _ _ _ h0 hnw3 (fun _ e => e.elim)
  have hkj := hJ.keep _ _ _ _ h0 hnw3 (fun _ e => e.elim)
  have hbx := Blk.new w2 27 #[.int .i64 (hdv q).1, .int .i64 (hdv q).2]
  gi_loopw [4, 5] (fun p4 ok wr => ∃ (k : Nat) (v' : Value) (b : Nat), p4 = .pointer (some ⟨b, 0, none⟩) ∧ ok = .bool (nemp (q.drop k)) ∧ k ≤ q.length ∧ J ((q.take k).map (·.1)) wr ∧ Blk wr b 27 #[.int .i64 (hdv (q.drop k)).1, .int .i64 (hdv (q.drop k)).2] ∧ HpI 0 wr H2 v' (q.drop k).tail p ∧ (∀ j, Ft H2 v' j ∨ j = b → w.heap.size ≤ j ∧ ¬ O wr j)) (fun _ ok wr => left H2 wr + okN ok)
  case atStart =>
    refine ⟨0, v3, w2.heap.size, rfl, rfl, Nat.zero_le _, hj, hbx, hh3.nw ((Kp.refl _ w2).alloc _), fun j e => ?_⟩
    have hge : W.heap.size ≤ j := by
      rcases e with e | e
      · exact hf2 j (e.imp id fun e => hv3 ▸ e)
      · rw [e]; exact hnw2.size
    exact ⟨Nat.le_trans hW.size hge, fun e2 => absurd (hJ.lt _ _ _ h0 (hkj j e2)) (by omega)⟩
  case round =>
    obtain ⟨k, v', b, rfl, rfl, hk, hj, hb, hh, hO⟩ := hrel
    obtain ⟨r, hr⟩ : ∃ r, q.drop k = r := ⟨_, rfl⟩
    rw [hr] at hb hh ⊢
    cases r with
    | nil =>
      have hkl : k = q.length := by have := List.drop_eq_nil_iff.1 hr; omega
      have hn0 : nemp ([] : List Ent) = false := rfl
      have hall : (q.take k).map (·.1) = q.map (·.1) := by rw [List.take_of_length_le (by omega)]
      rw [hall] at hj
      gi_wp2
      refine ⟨fun _ h => (by cases h), ?_⟩
      gi_wp2
      go_end0
      exact ⟨⟨_, rfl⟩, .inl hj⟩
    | cons x r =>
      have hkl : k < q.length := by
        rcases Nat.lt_or_ge k q.length with h | h
        · exact h
        · rw [List.drop_eq_nil_of_le h] at hr; cases hr
      have hqx : q = q.take k ++ x :: r := by rw [← hr, List.take_append_drop]
      have hdr : q.drop (k + 1) = r := by rw [← List.drop_drop, hr]; rfl
      have htk : (q.take (k + 1)).map (·.1) = (q.take k).map (·.1) ++ [x.1] := by
        have e : q.take (k + 1) = q.take k ++ [x] := by
          rw [List.take_add_one]
          have : q[k]? = some x := by rw [← List.head?_drop, hr]; rfl
          rw [this]; rfl
        rw [e, List.map_append]; rfl
      have hpre : (q.take k).map (·.1) ++ [x.1] <+: q.map (·.1) := ⟨r.map (·.1), by
        have := congrArg (List.map (·.1)) hqx
        rw [this]
        simp⟩
      have hrl : r.length ≤ 1099511627776 := by have := congrArg List.length hr; rw [List.length_drop] at this; simp at this; have := HQ.out; omega
      rw [show hdv (x :: r) = x.1 from rfl] at hb
      rw [show nemp (x :: r) = true from rfl]
      rw [show (x :: r).tail = r from rfl] at hh
      have hleft : left H2 wr + okN (.bool true) = r.length + 1 := by rw [left_eq hh]; rfl
      obtain ⟨fn, tmps, assign, body, hy, hR⟩ := hY _ x.1 wr hj hpre
      dsimp only [encI] at hy
      obtain ⟨c0, c1, _, _⟩ := hb.two
      have HTK := Lib.hid htk
      have HDR := Lib.hid hdr
      have HLF := Lib.hid hleft
      clear hqx hdr htk hleft
      gi_wp2
      refine hR.mono ?_
      rintro e W3 (⟨rfl, hJ3, hk3⟩ | ⟨rfl, hJx3⟩)
      · have hh3 := hh.kp hk3.kp (fun j e => (hO j (.inl e)).2)
        have hb3 := hb.kp hk3.kp (hO b (.inr rfl)).2
        obtain ⟨d0, d1, _, _⟩ := hb3.two
        have hka : Nw W3 (W3.alloc (.cells #[.int .i64 x.1.1, .int .i64 x.1.2] 27)) := (Kp.refl _ W3).alloc _
        have hh4 := hh3.nw hka
        have hbn := Blk.new W3 27 #[.int .i64 x.1.1, .int .i64 x.1.2]
        have hlt3 := hh3.lt
        have hO3 : ∀ j, Ft H2 v' j → w.heap.size ≤ j ∧ ¬ O W3 j := fun j e => ⟨(hO j (.inl e)).1, fun e2 => by
          rcases hk3.own j e2 with e3 | e3
          · exact (hO j (.inl e)).2 e3
          · have := hh.lt j e; omega⟩
        have hws : w.heap.size ≤ W3.heap.size := by have := (hO b (.inr rfl)).1; have := hb.lt; have := hk3.kp.size; omega
        gi_wp2_with (refine ⟨trivial, ?_⟩; gi_at_call 13; refine (callsIn_wide.2 (popI_any 0 H2 0 p v' r _ hh4 (cntI_t _ _ _) hrl)).mono ?_; rintro e W5 ⟨rfl, v5, c5, hh5, hkk5, hv5, _, _⟩; have hk5 : Kp (Ft H2 v') _ W5 := hkk5.mono fun _ _ e => e.elim id fun e => e.elim; have hb5 := hbn.kp hk5 (fun e => by have := hlt3 _ e; omega); (obtain ⟨f0, f1, f2, f3⟩ := hb5.two))
        have hb6 := hb5.lay2 (.int .i64 (hdv r).1) (.int .i64 (hdv r).2)
        have hk6 : Kp (Ft H2 v') W3 ((W5.setCell ⟨W3.heap.size, 0, none⟩ (.int .i64 (hdv r).1)).setCell ⟨W3.heap.size, 1, none⟩ (.int .i64 (hdv r).2)) := ((hka.kp.tr hk5).new (Nat.le_refl _) 0 _).new (Nat.le_refl _) 1 _
        have hj6 := hJ.abide _ _ _ _ hJ3 hk6 hO3
        have hkj6 := hJ.keep _ _ _ _ hJ3 hk6 hO3
        have hh6 : HpI 0 ((W5.setCell ⟨W3.heap.size, 0, none⟩ (.int .i64 (hdv r).1)).setCell ⟨W3.heap.size, 1, none⟩ (.int .i64 (hdv r).2)) H2 v5 r.tail p := hh5.kp (kp_two W5 W3.heap.size _ _) (fun j e e2 => by
          have := hlt3 j (e.imp id fun e => hv5 ▸ e)
          omega)
        rw [← HTK.out] at hj6
        go_roundw
        case rel =>
          refine ⟨k + 1, v5, W3.heap.size, rfl, by rw [HDR.out], hkl, hj6, by rw [HDR.out]; exact hb6, by rw [HDR.out]; exact hh6, fun j e => ?_⟩
          rcases e with e | rfl
          · have := hO3 j (e.imp id fun e => hv5 ▸ e)
            exact ⟨this.1, fun e2 => this.2 (hkj6 j e2)⟩
          · exact ⟨hws, fun e2 => absurd (hJ.lt _ _ _ hJ3 (hkj6 _ e2)) (Nat.lt_irrefl _)⟩
        case measure =>
          rw [HLF.out, left_eq hh6]
          cases r <;> simp [okN, nemp]
      · gi_wp2
        go_end0
        exact ⟨⟨_, rfl⟩, .inr ⟨_, hpre, hJx3⟩⟩
end Go.Proofs.Ytogfcenebbipeaa.W
