/-
  fretsawlaw03.HeapNil returns true for every list. Condition: the argument is read.
-/
import Derived.Test.YtogfcenebbipeaaHAll
import Derived.Test.YtogfcenebbipeaaHAw
namespace Go.Proofs.Ytogfcenebbipeaa.W
open Go.RowKit Go.Shelf Go.Proofs.Ytogfcenebbipeaa.Pl

attribute [local go_sem] Oper.semAt_some

theorem pushI_nil (x : Int × Int) (w : World) : Calls Try.prog 16 #[.pointer none, .agg #[.int .i64 x.1, .int .i64 x.2]] w fun e w' => e = .returned (.tuple #[]) ∧ Nw w w' := by
  go_enter Try.func16, Try.ntmps16
  go_wp2
  exact bodyPost_ret (results_none rfl _ _ _) rfl ⟨rfl, (Kp.refl _ _).alloc _⟩

set_option maxRecDepth 100000 in
set_option maxHeartbeats 1600000 in
theorem fromI_nil (v : Value) (l : List (Int × Int)) (w : World) (hs : SrcI w v l) (hlen : l.length ≤ 1099511627776) :
    Calls Try.prog 22 #[.nilFunc, v] w fun e w' => e = .returned (.pointer none) ∧ Nw w w' := by
  obtain ⟨A, cap, rfl⟩ := hs.shape
  obtain ⟨n, hn⟩ : ∃ n, l.length = n := ⟨_, rfl⟩
  have hni : (n : Int) ≤ 1099511627776 := by omega
  have HN := Lib.hid hn
  rw [hn]
  clear hn
  go_enter Try.func22, Try.ntmps22
  go_wp2_with (go_at_call 11; ((with_reducible refine (newI_nil _).mono ?_); rintro e w1 ⟨rfl, rfl⟩))
  go_loopw [12] (fun i wr => ∃ (k : Nat), i = .int .i64 k ∧ k ≤ n ∧ Nw w wr) (fun i _ => n - (intOf i).toNat)
  case atStart => exact ⟨0, rfl, Nat.zero_le _, Kp.refl _ _⟩
  case round =>
    obtain ⟨k, rfl, hk, hnw⟩ := hrel
    by_cases hlt : k < n
    · have hkl : k < l.length := by have := HN.out; omega
      obtain ⟨x, hx⟩ : ∃ x, l[k]? = some x := ⟨_, List.getElem?_eq_getElem hkl⟩
      obtain ⟨g, o, c2, hv2, _, _⟩ := hs.form (by omega)
      simp only [Value.slice.injEq] at hv2
      have hA := hv2.1
      clear hv2
      have hat := (hs.nw hnw).at_ hA hx
      have hbl := (hs.nw hnw).block hA (by omega)
      subst hA
      obtain ⟨x0, x1⟩ := hat
      have hd1 : decide ((k : Int) < (n : Int)) = true := decide_eq_true (by omega)
      have hki : (k : Int) < (n : Int) := by omega
      clear hx
      have hkx : Nw w (wr.alloc (.cells #[.int .i64 x.1, .int .i64 x.2] 27)) := hnw.alloc _
      go_wp2_with fail
      refine (pushI_nil x _).mono ?_
      rintro e w2 ⟨rfl, hk2⟩
      go_wp2
      go_roundw
      case rel => exact ⟨k + 1, by go_num, by omega, hkx.tr hk2⟩
      case measure => simp [intOf]; omega
    · obtain rfl : k = n := by omega
      have hd1 : decide ((k : Int) < (k : Int)) = false := decide_eq_false (by omega)
      go_wp2
      go_ret
      exact ⟨rfl, hnw⟩

set_option maxRecDepth 100000 in
set_option maxHeartbeats 3200000 in
theorem sortedI_nil (v : Value) (l : List (Int × Int)) (w : World) (hs : SrcI w v l) (hlen : l.length ≤ 1099511627775) :
    Calls Try.prog 23 #[.nilFunc, v] w fun e w' => e = .returned (.slice none 0 0) ∧ Nw w w' := by
  refine enter_marks Try.func23 rfl ?_
  simp only [Try.ntmps23, List.size_toArray, List.length_cons, List.length_nil, Nat.reduceAdd, Nat.reduceSub, Array.replicate_succ, Array.replicate_zero, List.push_toArray, List.append_toArray, List.nil_append, List.cons_append]
  have hb5 := Blk.new w 29 #[.slice none 0 0]
  have hk0 : Nw w (w.alloc (.cells #[.slice none 0 0] 29)) := (Kp.refl _ w).alloc _
  obtain ⟨C5, hC5⟩ : ∃ C5, w.heap.size = C5 := ⟨_, rfl⟩
  obtain ⟨w1, hw1⟩ : ∃ w1, w.alloc (.cells #[.slice none 0 0] 29) = w1 := ⟨_, rfl⟩
  have HC5 := Lib.hid hC5
  have HW1 := Lib.hid hw1
  rw [hw1] at hb5 hk0
  rw [hC5] at hb5
  have cfr := fromI_nil v l w1 (hs.nw hk0) (by omega)
  clear hC5 hw1 hs hlen
  go_wp2_with fail
  rw [HW1.out, HC5.out]
  refine cfr.mono ?_
  rintro e w2 ⟨rfl, hk2⟩
  have hb52 := hb5.kp hk2 (fun e => e)
  go_wp2_with fail
  have hbb := Blk.new w2 24 #[.pointer none]
  obtain ⟨B1, hB1⟩ : ∃ B1, w2.heap.size = B1 := ⟨_, rfl⟩
  rw [hB1] at hbb
  refine (allI_any none w2).mono ?_
  rintro e w6 ⟨rfl, rfl⟩
  rw [hB1]
  go_wp2_with fail
  obtain ⟨w6, hw6⟩ : ∃ w6, w2.alloc (.cells #[.pointer none] 24) = w6 := ⟨_, rfl⟩
  rw [hw6] at hbb ⊢
  have hk6 : Nw w2 w6 := hw6 ▸ (Kp.refl _ w2).alloc _
  have HB5 := Lib.hid (hb52.kp hk6 (fun e => e))
  have HN6 := Lib.hid (show Nw w w6 from (hk0.tr hk2).tr hk6)
  have HIT := Lib.hid (iterI_nil B1 w6 hbb)
  clear hb52 hb5 hk6 hk2 hk0 hbb hB1 hw6
  have own0 : ∀ {β : Type}, OwnJ w6.heap.size (fun _ _ => False) (fun (_ : β) W => Nw w6 W) := fun {β} =>
    ⟨fun _ _ _ _ h hk hS => h.trans hk fun i hi e => absurd (hS i e).1 (by omega), fun _ _ _ _ _ _ _ _ e => e.elim, fun _ _ _ _ e => e.elim⟩
  refine range_box 6 27 (fun x : Int × Int => #[.int .i64 x.1, .int .i64 x.2]) (by rfl) (enters_of Try.func34 (by kernel_rfl) rfl) HIT.out (fun _ _ => False) (fun _ W => Nw w6 W) (fun _ _ _ => False)
    own0 (fun c => ⟨fun _ _ _ _ e => e.elim, fun _ _ _ _ e => e.elim, fun _ _ _ e => e.elim⟩) (Kp.refl _ _) ?assign ?body ?done ?stop
  case assign =>
    intro l' x W K hK
    simp only [encI, List.setIfInBounds_toArray, List.set_cons_succ, List.set_cons_zero] at hK ⊢
    gi_wp2
    exact hK
  case stop => exact fun _ _ _ _ _ _ e => e.elim
  case body =>
    intro l' pre x b W _ hpre
    have := hpre.length_le
    simp at this
  case done =>
    intro D1 W1 hD1 hi hd1
    obtain ⟨c50, c51⟩ := (HB5.out.kp hi (fun e => e)).one
    have HNW := Lib.hid (HN6.out.tr hi)
    have hD1' : w.heap.size ≤ D1 := Nat.le_trans HN6.out.size hD1
    go_wp2_with fail
    refine leaves_marks (r := 4) rfl [D1] W1 (by simp) (by simpa using hd1) (fun W' hk => ⟨rfl, HNW.out.own hk (fun k e => ?_)⟩)
    obtain rfl : k = D1 := by simpa using e
    exact hD1'

set_option maxRecDepth 100000 in
set_option maxHeartbeats 3200000 in
theorem nil_walk (v : Value) (l : List (Int × Int)) (w : World) (hs : SrcI w v l) (hlen : l.length ≤ 140737488355328) :
    Calls Try.prog 9 #[v] w fun e w' => e = .returned (.bool true) ∧ Nw w w' := by
  obtain ⟨A, cap, rfl⟩ := hs.shape
  obtain ⟨n, hn⟩ : ∃ n, l.length = n := ⟨_, rfl⟩
  have hni : (n : Int) ≤ 140737488355328 := by omega
  have HN := Lib.hid hn
  have HS := Lib.hid hs
  rw [hn]
  clear hn hs hlen
  have hsrc : ∀ {w' : World}, Nw w w' → SrcI w' (.slice A n cap) l := fun hk => by have := HS.out.nw hk; rw [HN.out] at this; exact this
  by_cases hbig : (100 : Int) < n
  · refine enter_marks Try.func9 rfl ?_
    simp only [Try.ntmps9, List.size_toArray, List.length_cons, List.length_nil, Nat.reduceAdd, Nat.reduceSub, Array.replicate_succ, Array.replicate_zero, List.push_toArray, List.append_toArray, List.nil_append, List.cons_append]
    go_wp2_with (go_at_call 10; ((with_reducible refine (awake_any _).mono ?_); rintro e w1 ⟨rfl, hk1⟩))
    exact leaves_marks rfl [] _ List.nodup_nil (by simp) (fun W' hk => ⟨rfl, hk1.own hk (fun k e => by simp at e)⟩)
  · have hsm : (n : Int) ≤ 100 := by omega
    have hd0 : decide ((100 : Int) < (n : Int)) = false := decide_eq_false hbig
    have hln : l.length ≤ 100 := by have := HN.out; omega
    clear hbig
    refine enter_marks Try.func9 rfl ?_
    simp only [Try.ntmps9, List.size_toArray, List.length_cons, List.length_nil, Nat.reduceAdd, Nat.reduceSub, Array.replicate_succ, Array.replicate_zero, List.push_toArray, List.append_toArray, List.nil_append, List.cons_append]
    go_wp2_with fail
    refine (awake_any _).mono ?_
    rintro e w1 ⟨rfl, hk1⟩
    have hs1 := hsrc hk1
    go_wp2_with fail
    refine (fromI_nil _ l _ hs1 (by omega)).mono ?_
    rintro e w2 ⟨rfl, hk2⟩
    have hnw2 := hk1.tr hk2
    have hs2 := hsrc hnw2
    go_wp2_with (go_at_call 11; ((with_reducible refine (newI_nil _).mono ?_); rintro e w3 ⟨rfl, rfl⟩))
    refine (sortedI_nil _ l _ hs2 (by omega)).mono ?_
    rintro e w3 ⟨rfl, hk3⟩
    have hnw3 := hnw2.tr hk3
    go_wp2_with fail
    refine (pushI_nil (1, 0) _).mono ?_
    rintro e w4 ⟨rfl, hk4⟩
    have hnw4 := hnw3.tr hk4
    go_wp2_with fail
    refine (popI_nil _).mono ?_
    rintro e w5 ⟨rfl, hk5⟩
    have hnw5 := hnw4.tr hk5
    have hbx := Blk.new w5 27 #[.int .i64 0, .int .i64 0]
    have hka : Nw w (w5.alloc (.cells #[.int .i64 0, .int .i64 0] 27)) := hnw5.alloc _
    clear hk1 hk2 hk3 hk4 hk5 hs1 hs2 hnw2 hnw3 hnw4
    go_wp2_with fail
    obtain ⟨X, hX⟩ : ∃ X, w5.heap.size = X := ⟨_, rfl⟩
    rw [hX] at hbx ⊢
    clear hX
    refine (peekI_nil _).mono ?_
    rintro e w6 ⟨rfl, hk6⟩
    have hnw6 := hka.tr hk6
    have hbx6 := hbx.kp hk6 (fun e => e)
    have hby := Blk.new w6 27 #[.int .i64 0, .int .i64 0]
    obtain ⟨w7, hw7⟩ : ∃ w7, w6.alloc (.cells #[.int .i64 0, .int .i64 0] 27) = w7 := ⟨_, rfl⟩
    rw [hw7] at hby
    have hk7 : Nw w6 w7 := hw7 ▸ (Kp.refl _ w6).alloc _
    have hnw7 := hnw6.tr hk7
    have hbx7 := hbx6.kp hk7 (fun e => e)
    obtain ⟨Y, hY⟩ : ∃ Y, w6.heap.size = Y := ⟨_, rfl⟩
    rw [hY] at hby
    have hN : w7.heap.size = Y + 1 := by rw [← hw7, World.size_alloc, hY]
    have hbn := Blk.new w7 3 #[.int .i64 0]
    rw [hN] at hbn
    obtain ⟨w8, hw8⟩ : ∃ w8, w7.alloc (.cells #[.int .i64 0] 3) = w8 := ⟨_, rfl⟩
    rw [hw8] at hbn
    have hk8 : Nw w7 w8 := hw8 ▸ (Kp.refl _ w7).alloc _
    have hnw8 := hnw7.tr hk8
    have hbx8 := hbx7.kp hk8 (fun e => e)
    have hby8 := hby.kp hk8 (fun e => e)
    have hbb := Blk.new w8 24 #[.pointer none]
    have HBX := Lib.hid hbx8
    have HBY := Lib.hid hby8
    have HBN := Lib.hid hbn
    have HBB := Lib.hid hbb
    have HNW := Lib.hid hnw8
    clear hbx6 hbx7 hbx8 hby hby8 hbn hbb hk6 hk7 hk8 hnw6 hnw7 hnw8 hka hnw5 hbx
    have HW7 := Lib.hid hw7
    have HW8 := Lib.hid hw8
    have HY := Lib.hid hY
    clear hw7 hw8 hY hN
    go_wp2_with fail
    rw [HW7.out, HY.out, HW8.out]
    refine (allI_any none w8).mono ?_
    rintro e w9 ⟨rfl, rfl⟩
    go_wp2_with fail
    obtain ⟨w9, hw9⟩ : ∃ w9, w8.alloc (.cells #[.pointer none] 24) = w9 := ⟨_, rfl⟩
    have hbb := HBB.out
    have hk9 : Nw w8 w9 := hw9 ▸ (Kp.refl _ w8).alloc _
    rw [hw9] at hbb ⊢
    have hnw9 := HNW.out.tr hk9
    have hbx9 := HBX.out.kp hk9 (fun e => e)
    have hby9 := HBY.out.kp hk9 (fun e => e)
    have hbn9 := HBN.out.kp hk9 (fun e => e)
    clear hk9 hw9
    refine range_wp (enc := encI) (xs := []) (by rfl) (enters_of Try.func34 (by kernel_rfl) rfl) (iterI_nil _ w9 hbb) (fun _ _ => False) (fun pre W => Nw w9 W) (fun _ _ _ => False)
      ⟨fun s W S W' hi hk hS => hi.own hk (fun k e => (hS k e).1), fun _ _ _ _ _ _ _ _ e => e, fun _ _ _ _ e => e.elim⟩
      (fun c => ⟨fun _ _ _ _ e => e.elim, fun _ _ _ _ e => e.elim, fun _ _ _ e => e.elim⟩) (Kp.refl _ _) (fun _ _ _ => True) (fun _ _ _ _ _ _ _ _ _ => trivial) ?assign ?body ?done ?stop
    case assign =>
      intro l x W K hK
      exact wpIn_skip (hK _ _ (Kp.refl _ _) trivial)
    case body =>
      intro l pre x a' W _ hpre
      have := hpre.length_le
      simp at this
    case stop => exact fun _ _ _ _ _ _ e => e.elim
    case done =>
      intro D W hD hi hDd
      have hbx := hbx9.kp hi (fun e => e)
      have hby := hby9.kp hi (fun e => e)
      have hbn := hbn9.kp hi (fun e => e)
      obtain ⟨x0, x1, _, _⟩ := hbx.two
      obtain ⟨y0, y1, _, _⟩ := hby.two
      obtain ⟨n0, _⟩ := hbn.one
      have hnw := hnw9.tr hi
      go_wp2_with (first
        | (go_at_call 18; ((with_reducible refine (lenI_nil _).mono ?_); rintro e w10 ⟨rfl, rfl⟩))
        | (go_at_call 15; ((with_reducible refine (cloneI_nil _).mono ?_); rintro e w11 ⟨rfl, rfl⟩)))
      refine leaves_marks (r := 2) rfl [D] W (by simp) (by simpa using hDd) (fun W' hk => ⟨rfl, hnw.own hk (fun k e => ?_)⟩)
      obtain rfl : k = D := by simpa using e
      have := hnw9.size
      omega
end Go.Proofs.Ytogfcenebbipeaa.W
