/-
  Heap[int]: the order function, isBefore, ahead. Condition: the heap's block holds the order function; the counter's block, if there is one, is known.
-/
import Derived.Test.YtogfcenebbipeaaHB
import Derived.Test.YtogfcenebbipeaaHPl
import Derived.Recover
import Derived.StillTailTactics
import Derived.Deep.RegionHeld3
namespace Go.Proofs.Ytogfcenebbipeaa.W
open Go.RowKit Go.Proofs.Ytogfcenebbipeaa.Pl
/-- the heap's counter of calls: here there is none -/
def CntN (_C : Nat) (_w : World) (_c : Nat) : Prop := True
def CsN (_C : Nat) : Nat → Prop := fun _ => False
theorem cntN_t (C : Nat) (w : World) (c : Nat) : CntN C w c := trivial
theorem cntN_kp {S : Nat → Prop} {C c : Nat} {w w' : World} (_h : CntN C w c) (_hk : Kp S w w') (_hS : ∀ k, CsN C k → ¬ S k) : CntN C w' c := trivial
theorem cntN_drew {C c : Nat} {w : World} (h : CntN C w c) : CntN C w.drew c := h
theorem cntN_drewN {C c : Nat} {w : World} (h : CntN C w c) (n : Nat) : CntN C (w.drewN n) c := h
theorem cntN_blk {C c g : Nat} {w : World} {cs : Array Value} (_h : CntN C w c) (_hg : Blk w g 92 cs) : ∀ k, CsN C k → k ≠ g := fun _ e => e.elim
theorem cntN_own {C c n B size : Nat} {w : World} {v : Value} {vs : List Value} (_h : CntN C w c) (_hg : w.ownsRow B 94 size v n vs) : ∀ k, CsN C k → v.ownBlock ≠ some k := fun _ e => e.elim
def rkN (k : Int) : Int := wrap64 (k.tdiv 10)
theorem orderN_any (C c : Nat) (a b : Int) (w : World) (_hc : CntN C w c) :
    Calls Try.prog 31 #[.int .i64 a, .int .i64 b] w fun e w' => e = .returned (.bool (decide (rkN a < rkN b))) ∧ Kp (CsN C) w w' ∧ CntN C w' (c + 1) := by
  unfold rkN
  go_enter Try.func31, Try.ntmps31
  go_wp2
  go_ret
  exact ⟨rfl, Kp.refl _ _, trivial⟩

theorem catchN (w : World) :
    CallsD Try.prog 57 #[] .returning w fun e u' w' => e = .returned (.tuple #[]) ∧ u' = .returning ∧ w' = w := by
  refine callsD_of_wpS Try.func57 rfl fun c₀ cs hu => ?_
  apply wpS_region
  simp [wpOpsS, go_sem, recoverD, hu, Try.ntmps57, bodyPostS, results, Try.results57]
  cases c₀
  simp_all

set_option maxRecDepth 100000 in
theorem isBeforeN_any (C H c : Nat) (a b : Int) (w : World) (hH : w.cell? ⟨H, 0, none⟩ = some (.func (.func 31) #[] #[])) (hc : CntN C w c) :
    Calls Try.prog 56 #[.pointer (some ⟨H, 0, none⟩), .int .i64 a, .int .i64 b] w fun e w' => e = .returned (.bool (decide (rkN a < rkN b))) ∧ Kp (CsN C) w w' ∧ CntN C w' (c + 1) := by
  go_enter_defers Try.func56, Try.ntmps56
  go_wp2_with (go_at_call 31; ((with_reducible refine (orderN_any C c a b w hc).mono ?_); rintro e w1 ⟨rfl, hk, hc1⟩))
  refine leaves_cons (f := 57) (args := #[]) (by simp) (by simp [go_sem]) ?_
  refine (catchN _).mono ?_
  rintro e u' w'' ⟨rfl, rfl, rfl⟩
  simp [Leaves, settle, results, Try.results56, go_sem]
  exact ⟨hk, hc1⟩

set_option maxRecDepth 100000 in
theorem aheadN_any (C H c : Nat) (a b : Ent) (w : World) (hH : w.cell? ⟨H, 0, none⟩ = some (.func (.func 31) #[] #[])) (hc : CntN C w c) :
    Calls Try.prog 54 #[.pointer (some ⟨H, 0, none⟩), .agg #[.int .i64 a.1.1, .int .u64 a.2], .agg #[.int .i64 b.1.1, .int .u64 b.2]] w
      fun e w' => e = .returned (.bool (aheadE rkN a b)) ∧ Kp (CsN C) w w' ∧ CntN C w' (c + 1) := by
  have hHl : H < w.heap.size := World.block_lt_of_cell? w _ hH
  have hk2 : Nw w ((w.alloc (.cells #[.int .i64 a.1.1, .int .u64 a.2] 94)).alloc (.cells #[.int .i64 b.1.1, .int .u64 b.2] 94)) := ((Kp.refl _ _).alloc _).alloc _
  have k0 := (Kp.cell hk2 (p := ⟨H, 0, none⟩) hHl (fun e => e)).trans hH
  have hc2 := cntN_kp hc hk2 (fun _ _ e => e)
  by_cases hn : a.2 < b.2
  · have hn' : (a.2 : Int) < b.2 := by omega
    have HE := Lib.hid (aheadE_lt (rk := rkN) hn)
    clear hn
    go_enter Try.func54, Try.ntmps54
    go_wp2_with (go_at_call 56; ((with_reducible refine (isBeforeN_any C H c b.1.1 a.1.1 _ k0 hc2).mono ?_); rintro e w1 ⟨rfl, hk, hc1⟩))
    go_ret
    exact ⟨by rw [← HE.out]; rfl, (Nw.kp hk2).tr hk, hc1⟩
  · have hn' : (b.2 : Int) ≤ a.2 := by omega
    have HE := Lib.hid (aheadE_ge (rk := rkN) hn)
    clear hn
    go_enter Try.func54, Try.ntmps54
    go_wp2_with (go_at_call 56; ((with_reducible refine (isBeforeN_any C H c a.1.1 b.1.1 _ k0 hc2).mono ?_); rintro e w1 ⟨rfl, hk, hc1⟩))
    go_ret
    exact ⟨by rw [← HE.out]; rfl, (Nw.kp hk2).tr hk, hc1⟩
end Go.Proofs.Ytogfcenebbipeaa.W
