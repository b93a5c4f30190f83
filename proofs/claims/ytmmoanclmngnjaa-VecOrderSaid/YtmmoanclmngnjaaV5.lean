/-
  VecOrder: the call returns true. No condition.
-/
import Derived.Test.YtmmoanclmngnjaaVG
import Derived.Test.YtmmoanclmngnjaaVPm
namespace Go.Proofs.Ytmmoanclmngnjaa.W
open Go.RowKit Go.Proofs.Ytmmoanclmngnjaa.V

set_option maxRecDepth 100000 in
set_option maxHeartbeats 6400000 in
theorem vecOrder_any (ax ay bx bz cx cy vx vy : Int) (w : World) : Calls Try.prog 9 #[.agg #[.int .i64 ax, .int .i64 ay, .int .i64 bx, .int .i64 bz, .int .i64 cx, .int .i64 cy, .int .i64 vx, .int .i64 vy]] w fun e w' => e = .returned (.bool true) ∧ Nw w w' := by
  have hs := fun w1 => small_any ax ay bx bz cx cy vx vy w1
  by_cases hsm : (withinV ax ay 268435456 && withinV bx bz 268435456 && withinV cx cy 268435456 && withinV vx vy 268435456) = true
  · rw [hsm] at hs
    simp only [Bool.and_eq_true] at hsm
    obtain ⟨⟨⟨s0, s1⟩, s2⟩, s3⟩ := hsm
    have s0 := within_sm s0
    have s1 := within_sm s1
    have s2 := within_sm s2
    have s3 := within_sm s3
    have ct := fun w1 => compare_nw ax ay bx bz w1
    have cu := fun w1 => compare_nw bx bz cx cy w1
    have c1 := fun w1 => compare_any bx bz ax ay w1
    have c2 := fun w1 => compare_any ax ay cx cy w1
    have c5 := fun w1 => less_gw ax ay bx bz w1
    have d0 := fun w1 => add_gw ax ay vx vy w1
    have d1 := fun w1 => add_gw bx bz vx vy w1
    have c3 := fun w1 => compare_any (w64 (ax + vx)) (w64 (ay + vy)) (w64 (bx + vx)) (w64 (bz + vy)) w1
    rw [cmp_opp] at c1
    rw [cmp_moved s0 s1 s3] at c3
    rw [less_cmp] at c5
    have hz := cmp_zero ax ay bx bz
    have hr := cmp_range ax ay bx bz
    have htr := fun h1 h2 => cmp_trans (ax := ax) (ay := ay) (bx := bx) (bz := bz) (cx := cx) (cy := cy) h1 h2
    clear s0 s1 s2 s3
    have hq := fun w1 => eql_vec ax ay bx bz w1
    generalize cmpV ax ay bx bz = x at *
    generalize cmpV bx bz cx cy = y at *
    generalize cmpV ax ay cx cy = z at *
    obtain ⟨x', ht⟩ : ∃ x', -x = x' := ⟨_, rfl⟩
    rw [ht] at c1
    have e0 : IntKind.i64.wrap (-x) = x' := by rw [IntKind.wrap_i64]; omega
    have e1 : (x == 0) = (ax == bx && ay == bz) := by apply Bool.eq_iff_iff.2; simp [hz]
    generalize (ax == bx && ay == bz) = γ at *
    obtain ⟨s, hs1⟩ : ∃ s, decide (x < 0) = s := ⟨_, rfl⟩
    rw [hs1] at c5
    clear ht hr hz
    generalize w64 (ax + vx) = ux at *
    generalize w64 (ay + vy) = uy at *
    generalize w64 (bx + vx) = tx at *
    generalize w64 (bz + vy) = ty at *
    have hB : ∀ w' : World, Nw (w.alloc (.cells #[.int .i64 ax, .int .i64 ay, .int .i64 bx, .int .i64 bz, .int .i64 cx, .int .i64 cy, .int .i64 vx, .int .i64 vy] 46)) w' → w'.cell? (⟨w.heap.size, 0, none⟩ : Addr) = some (.int .i64 ax) ∧ w'.cell? (⟨w.heap.size, 1, none⟩ : Addr) = some (.int .i64 ay) ∧ w'.cell? (⟨w.heap.size, 2, none⟩ : Addr) = some (.int .i64 bx) ∧ w'.cell? (⟨w.heap.size, 3, none⟩ : Addr) = some (.int .i64 bz) ∧ w'.cell? (⟨w.heap.size, 4, none⟩ : Addr) = some (.int .i64 cx) ∧ w'.cell? (⟨w.heap.size, 5, none⟩ : Addr) = some (.int .i64 cy) ∧ w'.cell? (⟨w.heap.size, 6, none⟩ : Addr) = some (.int .i64 vx) ∧ w'.cell? (⟨w.heap.size, 7, none⟩ : Addr) = some (.int .i64 vy) := fun w' h => by
      have h0 := (Blk.new_at w 46 #[.int .i64 ax, .int .i64 ay, .int .i64 bx, .int .i64 bz, .int .i64 cx, .int .i64 cy, .int .i64 vx, .int .i64 vy] (n := w.heap.size) (by simp)).kp h id
      exact ⟨h0.cell 0, h0.cell 1, h0.cell 2, h0.cell 3, h0.cell 4, h0.cell 5, h0.cell 6, h0.cell 7⟩
    have HB := Lib.hid hB
    clear hB
    have HK := Lib.hid (show Nw w (w.alloc (.cells #[.int .i64 ax, .int .i64 ay, .int .i64 bx, .int .i64 bz, .int .i64 cx, .int .i64 cy, .int .i64 vx, .int .i64 vy] 46)) from (Kp.refl _ w).alloc _)
    go_enter Try.func9, Try.ntmps9
    go_wp2_with fail
    with_reducible refine (awake_any _).mono ?_
    rintro e w1 ⟨rfl, hk⟩
    have HP := Lib.hid (fun (w' : World) (h : Nw w1 w') => HB.out w' (hk.tr h))
    have HK := Lib.hid (HK.out.tr hk)
    clear hk
    obtain ⟨q0, q1, q2, q3, q4, q5, q6, q7⟩ := HP.out _ (Kp.refl _ _)
    go_wp2_with fail
    with_reducible refine (hs _).mono ?_
    rintro e w2 ⟨rfl, hk⟩
    have HP := Lib.hid (fun (w' : World) (h : Nw w2 w') => HP.out w' (hk.tr h))
    have HK := Lib.hid (HK.out.tr hk)
    have hlt : w.heap.size < w2.heap.size := by have := HK.out.size; have h0 := World.block_lt_of_cell? w2 _ (HP.out _ (Kp.refl _ _)).1; exact h0
    clear hk q0 q1 q2 q3 q4 q5 q6 q7
    go_upto_region 5 with fail
    go_cut [3, 4, 5, 6] from 14 to 21 (fun p3 p4 p5 p6 wx => ∃ g3 g4 g5 g6, p3 = .pointer (some ⟨g3, 0, none⟩) ∧ p4 = .pointer (some ⟨g4, 0, none⟩) ∧ p5 = .pointer (some ⟨g5, 0, none⟩) ∧ p6 = .pointer (some ⟨g6, 0, none⟩) ∧ Blk wx g3 23 #[.int .i64 ax, .int .i64 ay] ∧ Blk wx g4 23 #[.int .i64 bx, .int .i64 bz] ∧ Blk wx g5 23 #[.int .i64 cx, .int .i64 cy] ∧ Blk wx g6 23 #[.int .i64 vx, .int .i64 vy] ∧ Nw w2 wx)
    case first =>
      go_wp2_with fail
      go_region_held3 (fun w' : World => w'.cell? (⟨w.heap.size, 0, none⟩ : Addr) = some (.int .i64 ax) ∧ w'.cell? (⟨w.heap.size, 1, none⟩ : Addr) = some (.int .i64 ay) ∧ w'.cell? (⟨w.heap.size, 2, none⟩ : Addr) = some (.int .i64 bx) ∧ w'.cell? (⟨w.heap.size, 3, none⟩ : Addr) = some (.int .i64 bz) ∧ w'.cell? (⟨w.heap.size, 4, none⟩ : Addr) = some (.int .i64 cx) ∧ w'.cell? (⟨w.heap.size, 5, none⟩ : Addr) = some (.int .i64 cy) ∧ w'.cell? (⟨w.heap.size, 6, none⟩ : Addr) = some (.int .i64 vx) ∧ w'.cell? (⟨w.heap.size, 7, none⟩ : Addr) = some (.int .i64 vy))
        (first | ((refine HP.out _ ?_); (repeat (first | exact Kp.refl _ _ | refine Kp.alloc ?_ _ | refine Kp.drew ?_ | refine Kp.new ?_ (by simp; try omega) _ _))))
        (fail)
      all_goals (go_wp2_with fail; go_meet; case rel => (obtain ⟨k0, k1, k2, k3, k4⟩ := four_new w2 23 _ _ _ _; exact ⟨_, _, _, _, rfl, rfl, rfl, rfl, by first | exact k0 | exact k1 | exact k2 | exact k3, by first | exact k0 | exact k1 | exact k2 | exact k3, by first | exact k0 | exact k1 | exact k2 | exact k3, by first | exact k0 | exact k1 | exact k2 | exact k3, k4⟩))
    case rest =>
      obtain ⟨g3, g4, g5, g6, rfl, rfl, rfl, rfl, b3, b4, b5, b6, hk⟩ := hcut
      have hp : ∀ w' : World, Nw wc w' → w'.cell? (⟨g3, 0, none⟩ : Addr) = some (.int .i64 ax) ∧ w'.cell? (⟨g3, 1, none⟩ : Addr) = some (.int .i64 ay) ∧ w'.cell? (⟨g4, 0, none⟩ : Addr) = some (.int .i64 bx) ∧ w'.cell? (⟨g4, 1, none⟩ : Addr) = some (.int .i64 bz) ∧ w'.cell? (⟨g5, 0, none⟩ : Addr) = some (.int .i64 cx) ∧ w'.cell? (⟨g5, 1, none⟩ : Addr) = some (.int .i64 cy) ∧ w'.cell? (⟨g6, 0, none⟩ : Addr) = some (.int .i64 vx) ∧ w'.cell? (⟨g6, 1, none⟩ : Addr) = some (.int .i64 vy) := fun w' h => by
        have b3 := b3.kp h id
        have b4 := b4.kp h id
        have b5 := b5.kp h id
        have b6 := b6.kp h id
        exact ⟨b3.cell 0, b3.cell 1, b4.cell 0, b4.cell 1, b5.cell 0, b5.cell 1, b6.cell 0, b6.cell 1⟩
      have HP := Lib.hid hp
      have HK := Lib.hid (HK.out.tr hk)
      clear hp hk b3 b4 b5 b6 hlt
      have HT := Lib.hid htr
      have H1 := Lib.hid e1
      have HA := Lib.hid hq
      have HS := Lib.hid hs1
      have H0 := Lib.hid e0
      clear htr e1 hq hs1 e0
      go_wp2_with fail
      go_region_held3 (fun w' : World => w'.cell? (⟨g3, 0, none⟩ : Addr) = some (.int .i64 ax) ∧ w'.cell? (⟨g3, 1, none⟩ : Addr) = some (.int .i64 ay) ∧ w'.cell? (⟨g4, 0, none⟩ : Addr) = some (.int .i64 bx) ∧ w'.cell? (⟨g4, 1, none⟩ : Addr) = some (.int .i64 bz) ∧ w'.cell? (⟨g5, 0, none⟩ : Addr) = some (.int .i64 cx) ∧ w'.cell? (⟨g5, 1, none⟩ : Addr) = some (.int .i64 cy) ∧ w'.cell? (⟨g6, 0, none⟩ : Addr) = some (.int .i64 vx) ∧ w'.cell? (⟨g6, 1, none⟩ : Addr) = some (.int .i64 vy))
        (first | exact HP.out _ (Kp.refl _ _) | exact HP.out _ (Kp.drew (Kp.refl _ _)) | exact HP.out _ hb | fail)
        (first
          | (go_at_call 28; ((with_reducible refine (ct _).mono ?_); rintro e y0 ⟨rfl, hk⟩; (first | (have hb : Nw wc y0 := hb.tr hk) | (have hb : Nw wc y0 := (Kp.drew (Kp.refl _ _)).tr hk))))
          | (go_at_call 28; ((with_reducible refine (cu _).mono ?_); rintro e y1 ⟨rfl, hk⟩; (first | (have hb : Nw wc y1 := hb.tr hk) | (have hb : Nw wc y1 := (Kp.drew (Kp.refl _ _)).tr hk)))))
      have HP := Lib.hid (fun (w' : World) (h : Nw y1 w') => HP.out w' (hb.tr h))
      have HK := Lib.hid (HK.out.tr hb)
      clear hb hk
      have e0 := H0.out
      have e1 := H1.out
      have hq := HA.out
      have hs1 := HS.out
      by_cases hp : x > 0
      · skip
        have e2 : decide (x > 0) = true := decide_eq_true hp
        have e3 : decide (0 < x) = true := e2
        clear hp
        have hQ := fun (n : Nat) (os : Array Obj) => HP.out (Sort.grow (y1.drewN n) os) (nw_grown ⟨n, os, rfl⟩)
        have q0 := fun (n : Nat) (os : Array Obj) => (hQ n os).1
        have q1 := fun (n : Nat) (os : Array Obj) => (hQ n os).2.1
        have q2 := fun (n : Nat) (os : Array Obj) => (hQ n os).2.2.1
        have q3 := fun (n : Nat) (os : Array Obj) => (hQ n os).2.2.2.1
        have q4 := fun (n : Nat) (os : Array Obj) => (hQ n os).2.2.2.2.1
        have q5 := fun (n : Nat) (os : Array Obj) => (hQ n os).2.2.2.2.2.1
        have q6 := fun (n : Nat) (os : Array Obj) => (hQ n os).2.2.2.2.2.2.1
        have q7 := fun (n : Nat) (os : Array Obj) => (hQ n os).2.2.2.2.2.2.2
        clear hQ
        have hmix := mixed
        go_wp2_with fail
        go_quiet_grown (first
            | (go_at_call 28; with_reducible exact Calls.grown_of (c1 _))
            | (go_at_call 28; with_reducible exact Calls.grown_of (c2 _))
            | (go_at_call 30; with_reducible exact Calls.grown_of (c5 _))
            | (go_at_call 12; with_reducible exact Calls.grown_of (d0 _))
            | (go_at_call 12; with_reducible exact Calls.grown_of (d1 _))
            | (go_at_call 28; with_reducible exact Calls.grown_of (c3 _)))
        go_wp2
        go_ret
        exact ⟨rfl, HK.out.tr (nw_grown ⟨nq, osq, rfl⟩)⟩
      · have e2 : decide (x > 0) = false := decide_eq_false hp
        have e3 : decide (0 < x) = false := e2
        by_cases hq : y > 0
        · skip
          have e4 : decide (y > 0) = true := decide_eq_true hq
          have e5 : decide (0 < y) = true := e4
          clear hp hq
          have hQ := fun (n : Nat) (os : Array Obj) => HP.out (Sort.grow (y1.drewN n) os) (nw_grown ⟨n, os, rfl⟩)
          have q0 := fun (n : Nat) (os : Array Obj) => (hQ n os).1
          have q1 := fun (n : Nat) (os : Array Obj) => (hQ n os).2.1
          have q2 := fun (n : Nat) (os : Array Obj) => (hQ n os).2.2.1
          have q3 := fun (n : Nat) (os : Array Obj) => (hQ n os).2.2.2.1
          have q4 := fun (n : Nat) (os : Array Obj) => (hQ n os).2.2.2.2.1
          have q5 := fun (n : Nat) (os : Array Obj) => (hQ n os).2.2.2.2.2.1
          have q6 := fun (n : Nat) (os : Array Obj) => (hQ n os).2.2.2.2.2.2.1
          have q7 := fun (n : Nat) (os : Array Obj) => (hQ n os).2.2.2.2.2.2.2
          clear hQ
          have hmix := mixed
          go_wp2_with fail
          go_quiet_grown (first
              | (go_at_call 28; with_reducible exact Calls.grown_of (c1 _))
              | (go_at_call 28; with_reducible exact Calls.grown_of (c2 _))
              | (go_at_call 30; with_reducible exact Calls.grown_of (c5 _))
              | (go_at_call 12; with_reducible exact Calls.grown_of (d0 _))
              | (go_at_call 12; with_reducible exact Calls.grown_of (d1 _))
              | (go_at_call 28; with_reducible exact Calls.grown_of (c3 _)))
          go_wp2
          go_ret
          exact ⟨rfl, HK.out.tr (nw_grown ⟨nq, osq, rfl⟩)⟩
        · skip
          have e4 : decide (y > 0) = false := decide_eq_false hq
          have e5 : decide (0 < y) = false := e4
          have e6 : decide (z ≤ 0) = true := decide_eq_true (HT.out (by omega) (by omega))
          clear hp hq
          have hQ := fun (n : Nat) (os : Array Obj) => HP.out (Sort.grow (y1.drewN n) os) (nw_grown ⟨n, os, rfl⟩)
          have q0 := fun (n : Nat) (os : Array Obj) => (hQ n os).1
          have q1 := fun (n : Nat) (os : Array Obj) => (hQ n os).2.1
          have q2 := fun (n : Nat) (os : Array Obj) => (hQ n os).2.2.1
          have q3 := fun (n : Nat) (os : Array Obj) => (hQ n os).2.2.2.1
          have q4 := fun (n : Nat) (os : Array Obj) => (hQ n os).2.2.2.2.1
          have q5 := fun (n : Nat) (os : Array Obj) => (hQ n os).2.2.2.2.2.1
          have q6 := fun (n : Nat) (os : Array Obj) => (hQ n os).2.2.2.2.2.2.1
          have q7 := fun (n : Nat) (os : Array Obj) => (hQ n os).2.2.2.2.2.2.2
          clear hQ
          have hmix := mixed
          go_wp2_with fail
          go_quiet_grown (first
              | (go_at_call 28; with_reducible exact Calls.grown_of (c1 _))
              | (go_at_call 28; with_reducible exact Calls.grown_of (c2 _))
              | (go_at_call 30; with_reducible exact Calls.grown_of (c5 _))
              | (go_at_call 12; with_reducible exact Calls.grown_of (d0 _))
              | (go_at_call 12; with_reducible exact Calls.grown_of (d1 _))
              | (go_at_call 28; with_reducible exact Calls.grown_of (c3 _)))
          go_wp2
          go_ret
          exact ⟨rfl, HK.out.tr (nw_grown ⟨nq, osq, rfl⟩)⟩
  · rw [show (withinV ax ay 268435456 && withinV bx bz 268435456 && withinV cx cy 268435456 && withinV vx vy 268435456) = false by simpa using hsm] at hs
    clear hsm
    have hB : ∀ w' : World, Nw (w.alloc (.cells #[.int .i64 ax, .int .i64 ay, .int .i64 bx, .int .i64 bz, .int .i64 cx, .int .i64 cy, .int .i64 vx, .int .i64 vy] 46)) w' → w'.cell? (⟨w.heap.size, 0, none⟩ : Addr) = some (.int .i64 ax) ∧ w'.cell? (⟨w.heap.size, 1, none⟩ : Addr) = some (.int .i64 ay) ∧ w'.cell? (⟨w.heap.size, 2, none⟩ : Addr) = some (.int .i64 bx) ∧ w'.cell? (⟨w.heap.size, 3, none⟩ : Addr) = some (.int .i64 bz) ∧ w'.cell? (⟨w.heap.size, 4, none⟩ : Addr) = some (.int .i64 cx) ∧ w'.cell? (⟨w.heap.size, 5, none⟩ : Addr) = some (.int .i64 cy) ∧ w'.cell? (⟨w.heap.size, 6, none⟩ : Addr) = some (.int .i64 vx) ∧ w'.cell? (⟨w.heap.size, 7, none⟩ : Addr) = some (.int .i64 vy) := fun w' h => by
      have h0 := (Blk.new_at w 46 #[.int .i64 ax, .int .i64 ay, .int .i64 bx, .int .i64 bz, .int .i64 cx, .int .i64 cy, .int .i64 vx, .int .i64 vy] (n := w.heap.size) (by simp)).kp h id
      exact ⟨h0.cell 0, h0.cell 1, h0.cell 2, h0.cell 3, h0.cell 4, h0.cell 5, h0.cell 6, h0.cell 7⟩
    have HB := Lib.hid hB
    clear hB
    have HK := Lib.hid (show Nw w (w.alloc (.cells #[.int .i64 ax, .int .i64 ay, .int .i64 bx, .int .i64 bz, .int .i64 cx, .int .i64 cy, .int .i64 vx, .int .i64 vy] 46)) from (Kp.refl _ w).alloc _)
    go_enter Try.func9, Try.ntmps9
    go_wp2_with fail
    with_reducible refine (awake_any _).mono ?_
    rintro e w1 ⟨rfl, hk⟩
    have HP := Lib.hid (fun (w' : World) (h : Nw w1 w') => HB.out w' (hk.tr h))
    have HK := Lib.hid (HK.out.tr hk)
    clear hk
    obtain ⟨q0, q1, q2, q3, q4, q5, q6, q7⟩ := HP.out _ (Kp.refl _ _)
    go_wp2_with fail
    with_reducible refine (hs _).mono ?_
    rintro e w2 ⟨rfl, hk⟩
    go_wp2
    go_ret
    exact ⟨rfl, HK.out.tr hk⟩

end Go.Proofs.Ytmmoanclmngnjaa.W
