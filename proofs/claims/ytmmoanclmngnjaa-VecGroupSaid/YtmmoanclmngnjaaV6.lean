/-
  VecGroup: the call returns true. Condition: the first vector has ints.
-/
import Derived.Test.YtmmoanclmngnjaaVH
namespace Go.Proofs.Ytmmoanclmngnjaa.W
open Go.RowKit Go.Proofs.Ytmmoanclmngnjaa.V

set_option maxRecDepth 100000 in
set_option maxHeartbeats 6400000 in
theorem vecGroup_any (ax ay bx bz cx cy : Int) (hax : I64 ax) (hay : I64 ay) (w : World) : Calls Try.prog 6 #[vV ax ay, vV bx bz, vV cx cy] w fun e w' => e = .returned (.bool true) ∧ Nw w w' := by
  have cab := fun w1 => add_gw ax ay bx bz w1
  have cba := fun w1 => add_gw bx bz ax ay w1
  rw [Int.add_comm bx ax, Int.add_comm bz ay] at cba
  have cpc := fun w1 => add_gw (w64 (ax + bx)) (w64 (ay + bz)) cx cy w1
  rw [w64_addl, w64_addl] at cpc
  have cbc := fun w1 => add_gw bx bz cx cy w1
  have cas := fun w1 => add_gw ax ay (w64 (bx + cx)) (w64 (bz + cy)) w1
  rw [w64_addr, w64_addr, ← Int.add_assoc, ← Int.add_assoc] at cas
  have ca0 := fun w1 => add_gw ax ay 0 0 w1
  rw [Int.add_zero, Int.add_zero, w64_id hax, w64_id hay] at ca0
  have cna := fun w1 => neg_gw ax ay w1
  have can := fun w1 => add_gw ax ay (w64 (-ax)) (w64 (-ay)) w1
  rw [w64_addr, w64_addr, Int.add_right_neg, Int.add_right_neg, w64_id (n := 0) ⟨by omega, by omega⟩] at can
  have csb := fun w1 => sub_gw ax ay bx bz w1
  have cnb := fun w1 => neg_gw bx bz w1
  have cam := fun w1 => add_gw ax ay (w64 (-bx)) (w64 (-bz)) w1
  rw [w64_addr, w64_addr, ← Int.sub_eq_add_neg, ← Int.sub_eq_add_neg] at cam
  generalize w64 (ax + bx + cx) = r0 at *
  generalize w64 (ay + bz + cy) = r1 at *
  generalize w64 (ax + bx) = r2 at *
  generalize w64 (ay + bz) = r3 at *
  generalize w64 (bx + cx) = r4 at *
  generalize w64 (bz + cy) = r5 at *
  generalize w64 (-ax) = r6 at *
  generalize w64 (-ay) = r7 at *
  generalize w64 (ax - bx) = r8 at *
  generalize w64 (ay - bz) = r9 at *
  generalize w64 (-bx) = r10 at *
  generalize w64 (-bz) = r11 at *
  have hB : ∀ w' : World, Nw (((w.alloc (.cells #[.int .i64 ax, .int .i64 ay] 23)).alloc (.cells #[.int .i64 bx, .int .i64 bz] 23)).alloc (.cells #[.int .i64 cx, .int .i64 cy] 23)) w' → w'.cell? (⟨w.heap.size, 0, none⟩ : Addr) = some (.int .i64 ax) ∧ w'.cell? (⟨w.heap.size, 1, none⟩ : Addr) = some (.int .i64 ay) ∧ w'.cell? (⟨w.heap.size + 1, 0, none⟩ : Addr) = some (.int .i64 bx) ∧ w'.cell? (⟨w.heap.size + 1, 1, none⟩ : Addr) = some (.int .i64 bz) ∧ w'.cell? (⟨w.heap.size + 1 + 1, 0, none⟩ : Addr) = some (.int .i64 cx) ∧ w'.cell? (⟨w.heap.size + 1 + 1, 1, none⟩ : Addr) = some (.int .i64 cy) := fun w' h => by
    have h0 := (((Blk.new_at w 23 #[.int .i64 ax, .int .i64 ay] (n := w.heap.size) (by simp)).alloc (.cells #[.int .i64 bx, .int .i64 bz] 23)).alloc (.cells #[.int .i64 cx, .int .i64 cy] 23)).kp h id
    have h1 := ((Blk.new_at (w.alloc (.cells #[.int .i64 ax, .int .i64 ay] 23)) 23 #[.int .i64 bx, .int .i64 bz] (n := w.heap.size + 1) (by simp)).alloc (.cells #[.int .i64 cx, .int .i64 cy] 23)).kp h id
    have h2 := (Blk.new_at ((w.alloc (.cells #[.int .i64 ax, .int .i64 ay] 23)).alloc (.cells #[.int .i64 bx, .int .i64 bz] 23)) 23 #[.int .i64 cx, .int .i64 cy] (n := w.heap.size + 1 + 1) (by simp)).kp h id
    exact ⟨h0.cell 0, h0.cell 1, h1.cell 0, h1.cell 1, h2.cell 0, h2.cell 1⟩
  have HB := Lib.hid hB
  clear hB
  have HK := Lib.hid (show Nw w (((w.alloc (.cells #[.int .i64 ax, .int .i64 ay] 23)).alloc (.cells #[.int .i64 bx, .int .i64 bz] 23)).alloc (.cells #[.int .i64 cx, .int .i64 cy] 23)) from (((Kp.refl _ w).alloc _).alloc _).alloc _)
  go_enter Try.func6, Try.ntmps6
  go_wp2_with fail
  with_reducible refine (awake_any _).mono ?_
  rintro e w1 ⟨rfl, hk⟩
  have HP := Lib.hid (fun (w' : World) (h : Nw w1 w') => HB.out w' (hk.tr h))
  have HK := Lib.hid (HK.out.tr hk)
  clear hk
  have HP := Lib.hid (show ∀ w' : World, Nw (w1.alloc (.cells #[.int .i64 0, .int .i64 0] 23)) w' → w'.cell? (⟨w.heap.size, 0, none⟩ : Addr) = some (.int .i64 ax) ∧ w'.cell? (⟨w.heap.size, 1, none⟩ : Addr) = some (.int .i64 ay) ∧ w'.cell? (⟨w.heap.size + 1, 0, none⟩ : Addr) = some (.int .i64 bx) ∧ w'.cell? (⟨w.heap.size + 1, 1, none⟩ : Addr) = some (.int .i64 bz) ∧ w'.cell? (⟨w.heap.size + 1 + 1, 0, none⟩ : Addr) = some (.int .i64 cx) ∧ w'.cell? (⟨w.heap.size + 1 + 1, 1, none⟩ : Addr) = some (.int .i64 cy) ∧ w'.cell? (⟨w1.heap.size, 0, none⟩ : Addr) = some (.int .i64 0) ∧ w'.cell? (⟨w1.heap.size, 1, none⟩ : Addr) = some (.int .i64 0) from fun w' h => by
    obtain ⟨a, b, c, d, e, f⟩ := HP.out w' ((nw_alloc w1 _).tr h)
    obtain ⟨x, y, _, _⟩ := ((Blk.new w1 23 #[.int .i64 0, .int .i64 0]).kp h id).two
    exact ⟨a, b, c, d, e, f, x, y⟩)
  have HK := Lib.hid (HK.out.tr (nw_alloc w1 (.cells #[.int .i64 0, .int .i64 0] 23)))
  have hQ := fun (n : Nat) (os : Array Obj) => HP.out (Sort.grow ((w1.alloc (.cells #[.int .i64 0, .int .i64 0] 23)).drewN n) os) (nw_grown ⟨n, os, rfl⟩)
  have q0 := fun (n : Nat) (os : Array Obj) => (hQ n os).1
  have q1 := fun (n : Nat) (os : Array Obj) => (hQ n os).2.1
  have q2 := fun (n : Nat) (os : Array Obj) => (hQ n os).2.2.1
  have q3 := fun (n : Nat) (os : Array Obj) => (hQ n os).2.2.2.1
  have q4 := fun (n : Nat) (os : Array Obj) => (hQ n os).2.2.2.2.1
  have q5 := fun (n : Nat) (os : Array Obj) => (hQ n os).2.2.2.2.2.1
  have q6 := fun (n : Nat) (os : Array Obj) => (hQ n os).2.2.2.2.2.2.1
  have q7 := fun (n : Nat) (os : Array Obj) => (hQ n os).2.2.2.2.2.2.2
  clear hQ
  have hmix := mixed
  go_wp2_with fail
  go_quiet_grown (first
      | (go_at_call 12; with_reducible exact Calls.grown_of (cab _))
      | (go_at_call 12; with_reducible exact Calls.grown_of (cba _))
      | (go_at_call 12; with_reducible exact Calls.grown_of (cpc _))
      | (go_at_call 12; with_reducible exact Calls.grown_of (cbc _))
      | (go_at_call 12; with_reducible exact Calls.grown_of (cas _))
      | (go_at_call 12; with_reducible exact Calls.grown_of (ca0 _))
      | (go_at_call 12; with_reducible exact Calls.grown_of (can _))
      | (go_at_call 12; with_reducible exact Calls.grown_of (cam _))
      | (go_at_call 16; with_reducible exact Calls.grown_of (cna _))
      | (go_at_call 16; with_reducible exact Calls.grown_of (cnb _))
      | (go_at_call 14; with_reducible exact Calls.grown_of (csb _)))
  obtain ⟨w2, hw2⟩ : ∃ w2, Sort.grow ((w1.alloc (.cells #[.int .i64 0, .int .i64 0] 23)).drewN nq) osq = w2 := ⟨_, rfl⟩
  rw [hw2]
  have hn2 : Nw (w1.alloc (.cells #[.int .i64 0, .int .i64 0] 23)) w2 := by rw [← hw2]; exact nw_grown ⟨nq, osq, rfl⟩
  have HP := Lib.hid (fun (w' : World) (h : Nw w2 w') => HP.out w' (hn2.tr h))
  have HK := Lib.hid (HK.out.tr hn2)
  clear hw2 hn2 q0 q1 q2 q3 q4 q5 q6 q7 cab cba cpc cbc cas ca0 cna can csb cnb cam
  obtain ⟨q0, q1, q2, q3, q4, q5, q6, q7⟩ := HP.out _ (Kp.refl _ _)
  go_wp2_with fail
  have hb0 := Blk.new w2 23 #[.int .i64 0, .int .i64 0]
  have hk0 := nw_alloc w2 (.cells #[.int .i64 0, .int .i64 0] 23)
  obtain ⟨G, hG⟩ : ∃ G, w2.heap.size = G := ⟨_, rfl⟩
  rw [hG] at hb0 ⊢
  have HA := Lib.hid (fun (w' : World) (h : Nw w2 w') => (show w'.cell? (⟨w.heap.size, 0, none⟩ : Addr) = some (.int .i64 ax) ∧ w'.cell? (⟨w.heap.size, 1, none⟩ : Addr) = some (.int .i64 ay) from ⟨(HP.out w' h).1, (HP.out w' h).2.1⟩))
  have HG := Lib.hid hG
  have HB0 := Lib.hid hb0
  have HK0 := Lib.hid hk0
  clear hb0 hk0 hG q0 q1 q2 q3 q4 q5 q6 q7
  go_loopw [9] (fun i wr => ∃ k : Nat, i = .int .i64 k ∧ k ≤ 5 ∧ Nw w2 wr ∧ Blk wr G 23 #[.int .i64 (w64 (k * ax)), .int .i64 (w64 (k * ay))]) (fun i _ => 5 - (intOf i).toNat)
  case atStart =>
    refine ⟨0, rfl, by omega, HK0.out, ?_⟩
    have h0 : ∀ y : Int, w64 (((0 : Nat) : Int) * y) = 0 := fun y => by rw [show ((0 : Nat) : Int) * y = 0 by simp]; exact w64_id ⟨by omega, by omega⟩
    rw [h0, h0]
    exact HB0.out
  case round =>
    obtain ⟨k, rfl, hk5, hn, hb⟩ := hrel
    have HN := Lib.hid hn
    have HBk := Lib.hid hb
    clear hn hb
    by_cases hkn : k < 5
    · skip
      have i4 : decide ((k : Int) < 5) = true := decide_eq_true (by omega)
      have e0 : IntKind.i64.wrap (-(k : Int)) = -(k : Int) := by rw [IntKind.wrap_i64]; omega
      have e2 : IntKind.i64.wrap ((k : Int) + 1) = ((k + 1 : Nat) : Int) := by rw [IntKind.wrap_i64]; omega
      have c1 := fun w1 => scale_gw ax ay k w1
      have c2 := fun w1 => scale_gw ax ay (-(k : Int)) w1
      have c3 := fun w1 => neg_gw (w64 (k * ax)) (w64 (k * ay)) w1
      have c4 := fun w1 => add_gw (w64 (k * ax)) (w64 (k * ay)) ax ay w1
      rw [w64_neg, w64_neg, ← Int.neg_mul, ← Int.neg_mul] at c3
      rw [w64_addl, w64_addl] at c4
      have hx1 : w64 (((k + 1 : Nat) : Int) * ax) = w64 (k * ax + ax) := by rw [Int.natCast_add, Int.add_mul]; simp
      have hx2 : w64 (((k + 1 : Nat) : Int) * ay) = w64 (k * ay + ay) := by rw [Int.natCast_add, Int.add_mul]; simp
      have HX := Lib.hid (And.intro hx1 hx2)
      clear hx1 hx2
      generalize w64 (k * ax + ax) = u1 at *
      generalize w64 (k * ay + ay) = u2 at *
      generalize w64 (-(k : Int) * ax) = t1 at *
      generalize w64 (-(k : Int) * ay) = t2 at *
      generalize w64 (k * ax) = s1 at *
      generalize w64 (k * ay) = s2 at *
      have HP := Lib.hid (show ∀ w' : World, Nw wr w' → w'.cell? (⟨w.heap.size, 0, none⟩ : Addr) = some (.int .i64 ax) ∧ w'.cell? (⟨w.heap.size, 1, none⟩ : Addr) = some (.int .i64 ay) ∧ w'.cell? (⟨G, 0, none⟩ : Addr) = some (.int .i64 s1) ∧ w'.cell? (⟨G, 1, none⟩ : Addr) = some (.int .i64 s2) from fun w' h => by
        obtain ⟨a, b⟩ := HA.out w' (HN.out.tr h)
        obtain ⟨x, y, _, _⟩ := (HBk.out.kp h id).two
        exact ⟨a, b, x, y⟩)
      have hQ := fun (n : Nat) (os : Array Obj) => HP.out (Sort.grow (wr.drewN n) os) (nw_grown ⟨n, os, rfl⟩)
      have q0 := fun (n : Nat) (os : Array Obj) => (hQ n os).1
      have q1 := fun (n : Nat) (os : Array Obj) => (hQ n os).2.1
      have q2 := fun (n : Nat) (os : Array Obj) => (hQ n os).2.2.1
      have q3 := fun (n : Nat) (os : Array Obj) => (hQ n os).2.2.2
      clear hQ
      have hmix := mixed
      go_wp2_with fail
      go_quiet_grown (first
          | (go_at_call 18; with_reducible exact Calls.grown_of (c1 _))
          | (go_at_call 18; with_reducible exact Calls.grown_of (c2 _))
          | (go_at_call 16; with_reducible exact Calls.grown_of (c3 _)))
      obtain ⟨w3, hw3⟩ : ∃ w3, Sort.grow (wr.drewN nq) osq = w3 := ⟨_, rfl⟩
      rw [hw3]
      have hn3 : Nw wr w3 := by rw [← hw3]; exact nw_grown ⟨nq, osq, rfl⟩
      clear hw3 q0 q1 q2 q3
      obtain ⟨q0, q1, q2, q3⟩ := HP.out _ hn3
      go_wp2_with fail
      with_reducible refine (c4 _).mono ?_
      rintro e w4 ⟨rfl, hk⟩
      have hk := hn3.tr (nw_grown hk)
      have HM := Lib.hid hk
      have HB4 := Lib.hid (HBk.out.kp hk id)
      clear hk hn3 q0 q1 q2 q3
      obtain ⟨q0, q1, f0, f1⟩ := HB4.out.two
      go_wp2_with fail
      go_roundw
      case rel =>
        refine ⟨k + 1, rfl, by omega, ((HN.out.tr HM.out).new (Nat.le_of_eq HG.out) _ _).new (Nat.le_of_eq HG.out) _ _, ?_⟩
        rw [HX.out.1, HX.out.2]
        exact HB4.out.lay2 _ _
      case measure => simp [intOf]; omega
    · obtain rfl : k = 5 := by omega
      go_wp2
      go_ret
      exact ⟨rfl, HK.out.tr HN.out⟩

end Go.Proofs.Ytmmoanclmngnjaa.W
