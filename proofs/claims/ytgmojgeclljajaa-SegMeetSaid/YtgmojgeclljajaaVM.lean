/-
  small: whether all coordinates are within 2^28: the call returns true. No condition.
-/
import Derived.Test.YtgmojgeclljajaaVA
import Derived.Laws.StructEq
namespace Go.Proofs.Ytgmojgeclljajaa.W
open Go.RowKit Go.Proofs.Ytgmojgeclljajaa.V

theorem eql_vec (x1 x2 y1 y2 : Int) (w : World) : (binOp .eql 23 (.agg #[.int .i64 x1, .int .i64 x2]) (.agg #[.int .i64 y1, .int .i64 y2])).run Try.prog w = .ok (.bool (x1 == y1 && x2 == y2)) w := by
  have u3 := Try.underlying3
  have a3 := Try.isAgg3
  have z3 := Try.sizeOf3
  have hS : Try.prog.underlying 23 = some (.struct (Try.prog.fieldsOf 23)) := by kernel_rfl
  have hp : Try.prog.stoodInHeld 23 = false := by kernel_rfl
  rw [run_eql_struct, show (10000 : Nat) = 9999 + 1 from rfl, run_equalIn_agg w 9999 23 _ _ hS hp]
  simp only [Program.fieldsOf, Try.underlying23]
  go_simp
  by_cases h1 : x1 = y1 <;> by_cases h2 : x2 = y2 <;> simp [h1, h2]
theorem four_new (w : World) (t : TypeId) (a b c d : Array Value) : Blk ((((w.alloc (.cells a t)).alloc (.cells b t)).alloc (.cells c t)).alloc (.cells d t)).drew w.heap.size t a ∧ Blk ((((w.alloc (.cells a t)).alloc (.cells b t)).alloc (.cells c t)).alloc (.cells d t)).drew (w.heap.size + 1) t b ∧ Blk ((((w.alloc (.cells a t)).alloc (.cells b t)).alloc (.cells c t)).alloc (.cells d t)).drew (w.heap.size + 1 + 1) t c ∧ Blk ((((w.alloc (.cells a t)).alloc (.cells b t)).alloc (.cells c t)).alloc (.cells d t)).drew (w.heap.size + 1 + 1 + 1) t d ∧ Nw w ((((w.alloc (.cells a t)).alloc (.cells b t)).alloc (.cells c t)).alloc (.cells d t)).drew :=
  ⟨((((Blk.new w t a).alloc _).alloc _).alloc _).drew, (((Blk.new_at _ t b (by simp)).alloc _).alloc _).drew, ((Blk.new_at _ t c (by simp)).alloc _).drew, (Blk.new_at _ t d (by simp)).drew, ((((nw_alloc w _).alloc _).alloc _).alloc _).drew⟩

set_option maxRecDepth 100000 in
set_option maxHeartbeats 6400000 in
theorem small_any (ax ay bx bz cx cy vx vy : Int) (w : World) : Calls Try.prog 48 #[.agg #[.int .i64 ax, .int .i64 ay, .int .i64 bx, .int .i64 bz, .int .i64 cx, .int .i64 cy, .int .i64 vx, .int .i64 vy]] w fun e w' => e = .returned (.bool (withinV ax ay 268435456 && withinV bx bz 268435456 && withinV cx cy 268435456 && withinV vx vy 268435456)) ∧ Nw w w' := by
  have c0 := fun w1 => rwithin_any ax ay 268435456 w1
  have c1 := fun w1 => rwithin_any bx bz 268435456 w1
  have c2 := fun w1 => rwithin_any cx cy 268435456 w1
  have c3 := fun w1 => rwithin_any vx vy 268435456 w1
  generalize withinV ax ay 268435456 = b0 at *
  generalize withinV bx bz 268435456 = b1 at *
  generalize withinV cx cy 268435456 = b2 at *
  generalize withinV vx vy 268435456 = b3 at *
  have hB : ∀ w' : World, Nw (w.alloc (.cells #[.int .i64 ax, .int .i64 ay, .int .i64 bx, .int .i64 bz, .int .i64 cx, .int .i64 cy, .int .i64 vx, .int .i64 vy] 46)) w' → w'.cell? (⟨w.heap.size, 0, none⟩ : Addr) = some (.int .i64 ax) ∧ w'.cell? (⟨w.heap.size, 1, none⟩ : Addr) = some (.int .i64 ay) ∧ w'.cell? (⟨w.heap.size, 2, none⟩ : Addr) = some (.int .i64 bx) ∧ w'.cell? (⟨w.heap.size, 3, none⟩ : Addr) = some (.int .i64 bz) ∧ w'.cell? (⟨w.heap.size, 4, none⟩ : Addr) = some (.int .i64 cx) ∧ w'.cell? (⟨w.heap.size, 5, none⟩ : Addr) = some (.int .i64 cy) ∧ w'.cell? (⟨w.heap.size, 6, none⟩ : Addr) = some (.int .i64 vx) ∧ w'.cell? (⟨w.heap.size, 7, none⟩ : Addr) = some (.int .i64 vy) := fun w' h => by
    have h0 := (Blk.new_at w 46 #[.int .i64 ax, .int .i64 ay, .int .i64 bx, .int .i64 bz, .int .i64 cx, .int .i64 cy, .int .i64 vx, .int .i64 vy] (n := w.heap.size) (by simp)).kp h id
    exact ⟨h0.cell 0, h0.cell 1, h0.cell 2, h0.cell 3, h0.cell 4, h0.cell 5, h0.cell 6, h0.cell 7⟩
  have HB := Lib.hid hB
  clear hB
  have HK := Lib.hid (show Nw w (w.alloc (.cells #[.int .i64 ax, .int .i64 ay, .int .i64 bx, .int .i64 bz, .int .i64 cx, .int .i64 cy, .int .i64 vx, .int .i64 vy] 46)) from (Kp.refl _ w).alloc _)
  go_enter Try.func48, Try.ntmps48
  go_wp2
  go_loopw [3] (fun i wr => ∃ k : Nat, i = .int .i64 k ∧ k ≤ 4 ∧ (1 ≤ k → b0 = true) ∧ (2 ≤ k → b1 = true) ∧ (3 ≤ k → b2 = true) ∧ (4 ≤ k → b3 = true) ∧ Nw (w.alloc (.cells #[.int .i64 ax, .int .i64 ay, .int .i64 bx, .int .i64 bz, .int .i64 cx, .int .i64 cy, .int .i64 vx, .int .i64 vy] 46)) wr) (fun i _ => 4 - (intOf i).toNat)
  case atStart => exact ⟨0, rfl, by omega, by omega, by omega, by omega, by omega, Kp.refl _ _⟩
  case round =>
    obtain ⟨k, rfl, hk, h0, h1, h2, h3, hn⟩ := hrel
    obtain ⟨q0, q1, q2, q3, q4, q5, q6, q7⟩ := HB.out _ hn
    have HN := Lib.hid hn
    clear hn
    obtain rfl | rfl | rfl | rfl | rfl : k = 0 ∨ k = 1 ∨ k = 2 ∨ k = 3 ∨ k = 4 := by omega
    · clear hk h0 h1 h2 h3
      cases b0
      · go_wp2_with fail
        with_reducible refine (c0 _).mono ?_
        rintro e w2 ⟨rfl, hk⟩
        go_wp2
        go_ret
        exact ⟨by simp, HK.out.tr (HN.out.tr hk)⟩
      · go_wp2_with fail
        with_reducible refine (c0 _).mono ?_
        rintro e w2 ⟨rfl, hk⟩
        go_wp2_with fail
        go_roundw
        case rel => exact ⟨1, rfl, by omega, by simp, by simp, by simp, by simp, HN.out.tr hk⟩
        case measure => simp [intOf]
    · obtain rfl := h0 (by omega)
      clear hk h0 h1 h2 h3
      cases b1
      · go_wp2_with fail
        with_reducible refine (c1 _).mono ?_
        rintro e w2 ⟨rfl, hk⟩
        go_wp2
        go_ret
        exact ⟨by simp, HK.out.tr (HN.out.tr hk)⟩
      · go_wp2_with fail
        with_reducible refine (c1 _).mono ?_
        rintro e w2 ⟨rfl, hk⟩
        go_wp2_with fail
        go_roundw
        case rel => exact ⟨2, rfl, by omega, by simp, by simp, by simp, by simp, HN.out.tr hk⟩
        case measure => simp [intOf]
    · obtain rfl := h0 (by omega)
      obtain rfl := h1 (by omega)
      clear hk h0 h1 h2 h3
      cases b2
      · go_wp2_with fail
        with_reducible refine (c2 _).mono ?_
        rintro e w2 ⟨rfl, hk⟩
        go_wp2
        go_ret
        exact ⟨by simp, HK.out.tr (HN.out.tr hk)⟩
      · go_wp2_with fail
        with_reducible refine (c2 _).mono ?_
        rintro e w2 ⟨rfl, hk⟩
        go_wp2_with fail
        go_roundw
        case rel => exact ⟨3, rfl, by omega, by simp, by simp, by simp, by simp, HN.out.tr hk⟩
        case measure => simp [intOf]
    · obtain rfl := h0 (by omega)
      obtain rfl := h1 (by omega)
      obtain rfl := h2 (by omega)
      clear hk h0 h1 h2 h3
      cases b3
      · go_wp2_with fail
        with_reducible refine (c3 _).mono ?_
        rintro e w2 ⟨rfl, hk⟩
        go_wp2
        go_ret
        exact ⟨by simp, HK.out.tr (HN.out.tr hk)⟩
      · go_wp2_with fail
        with_reducible refine (c3 _).mono ?_
        rintro e w2 ⟨rfl, hk⟩
        go_wp2_with fail
        go_roundw
        case rel => exact ⟨4, rfl, by omega, by simp, by simp, by simp, by simp, HN.out.tr hk⟩
        case measure => simp [intOf]
    · obtain rfl := h0 (by omega)
      obtain rfl := h1 (by omega)
      obtain rfl := h2 (by omega)
      obtain rfl := h3 (by omega)
      clear hk h0 h1 h2 h3
      go_wp2
      go_ret
      exact ⟨by simp, HK.out.tr HN.out⟩

end Go.Proofs.Ytgmojgeclljajaa.W
