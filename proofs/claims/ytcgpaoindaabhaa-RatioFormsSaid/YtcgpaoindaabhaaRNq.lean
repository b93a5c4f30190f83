/-
  The reference's Of: what it returns. Condition: the parts are ints.
-/
import Derived.Test.YtcgpaoindaabhaaRNn
namespace Go.Proofs.Ytcgpaoindaabhaa.W
open Go.RowKit Go.Proofs.Ytcgpaoindaabhaa.Q

set_option maxRecDepth 100000 in
set_option maxHeartbeats 3200000 in
theorem refOf_any (n d : Int) (hn : I64 n) (hd : I64 d) (w : World) : Calls Try.prog 19 #[.int .i64 n, .int .i64 d] w fun e w' => e = .returned (resV (ofR n d)) ∧ Nw w w' := by
  have HB := Lib.hid (blk1 w 23 #[.int .i64 0, .int .i64 0])
  by_cases h : d = 0
  · subst h
    rw [show ofR n 0 = (0, 0, 1) from rfl]
    go_enter Try.func19, Try.ntmps19
    go_wp2
    exact bodyPost_ret (v := resV (0, 0, 1)) (by simp [results, Try.results19, go_sem]) rfl ⟨rfl, nw_alloc _ _⟩
  · rw [show ofR n d = out (Rat.divInt n d) from if_neg h, of_way n d h]
    have p1 := fun w1 => part_any n hn w1
    have p2 := fun w1 => part_any d hd w1
    obtain ⟨n1, n2⟩ := hn
    obtain ⟨d1, d2⟩ := hd
    have c3 := fun v w1 h1 => narrow_any (decide (n < 0) != decide (d < 0)) n.natAbs d.natAbs v w1 h1 (by omega) (dfew_of (m := 10) (by rw [b15_eq]; omega) (by omega))
    generalize lowR (decide (n < 0) != decide (d < 0)) (n.natAbs / Nat.gcd n.natAbs d.natAbs) (d.natAbs / Nat.gcd n.natAbs d.natAbs) = r at *
    have hne : (d == 0) = false := by simp [h]
    obtain ⟨bn, ebn⟩ : ∃ b, decide (n < 0) = b := ⟨_, rfl⟩
    obtain ⟨bd, ebd⟩ : ∃ b, decide (d < 0) = b := ⟨_, rfl⟩
    rw [ebn, ebd] at c3
    have c4 : ∀ A k c A2 k2 c2 w1, Js w1 (.slice A k c) n.natAbs → Js w1 (.slice A2 k2 c2) d.natAbs → Calls Try.prog 38 #[.agg #[.bool (!(bn == bd)), .slice A k c, .slice A2 k2 c2]] w1 fun e w' => e = .returned (resV r) ∧ Nw w1 w' := fun A k c A2 k2 c2 w1 h1 h2 => c3 _ w1 ⟨A, k, c, A2, k2, c2, rfl, h1, h2⟩
    have HK0 := Lib.hid (nw_alloc w (.cells #[.int .i64 0, .int .i64 0] 23))
    obtain ⟨r0, r1, r2, r3⟩ := HB.out.two
    clear c3 n1 n2 d1 d2 h
    go_enter Try.func19, Try.ntmps19
    go_wp2_with fail
    generalize hw0 : w.alloc (.cells #[.int .i64 0, .int .i64 0] 23) = w0 at *
    clear r0 r1 r2 r3
    refine (p1 _).mono ?_
    rintro e w1 ⟨v1, rfl, hj1, hk1⟩
    obtain ⟨A1, m1, c1, rfl⟩ := hj1.shape
    go_wp2_with fail
    refine (p2 _).mono ?_
    rintro e w2 ⟨v2, rfl, hj2, hk2⟩
    obtain ⟨A2, m2, c2, rfl⟩ := hj2.shape
    go_wp2_with fail
    refine (c4 _ _ _ _ _ _ _ (hj1.nw hk2) hj2).mono ?_
    rintro e w3 ⟨rfl, hk3⟩
    have hb : Nw w0 w3 := (hk1.tr hk2).tr hk3
    obtain ⟨t0, t1, t2, t3⟩ := (HB.out.kp hb id).two
    go_wp2
    refine bodyPost_ret (v := resV r) (by simp [results, Try.results19, go_sem, t0, t1]) rfl ⟨rfl, ?_⟩
    exact ((HK0.out.tr hb).new (by omega) _ _).new (by omega) _ _
end Go.Proofs.Ytcgpaoindaabhaa.W
