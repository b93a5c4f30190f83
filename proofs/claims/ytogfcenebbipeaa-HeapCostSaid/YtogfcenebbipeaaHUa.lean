/-
  Heap[uint16]: the order function, isBefore, ahead. Condition: the heap's block holds the order function; the counter's block, if there is one, is known.
-/
import Derived.Test.YtogfcenebbipeaaHB
import Derived.Test.YtogfcenebbipeaaHPl
import Derived.Recover
import Derived.StillTailTactics
import Derived.Deep.RegionHeld3
namespace Go.Proofs.Ytogfcenebbipeaa.W
open Go.RowKit Go.Proofs.Ytogfcenebbipeaa.Pl
/-- the counter of calls: an int in a block of its own -/
def CntU (C : Nat) (w : World) (c : Nat) : Prop := Blk w C 3 #[.int .i64 (wrap64 c)]
def CsU (C : Nat) : Nat → Prop := fun k => k = C
theorem cntU_kp {S : Nat → Prop} {C c : Nat} {w w' : World} (h : CntU C w c) (hk : Kp S w w') (hS : ∀ k, CsU C k → ¬ S k) : CntU C w' c := Blk.kp h hk (hS C rfl)
theorem cntU_drew {C c : Nat} {w : World} (h : CntU C w c) : CntU C w.drew c := h
theorem cntU_drewN {C c : Nat} {w : World} (h : CntU C w c) (n : Nat) : CntU C (w.drewN n) c := h
theorem cntU_blk {C c g : Nat} {w : World} {cs : Array Value} (h : CntU C w c) (hg : Blk w g 74 cs) : ∀ k, CsU C k → k ≠ g := fun k e => e ▸ Blk.ne_ h hg (by decide)
theorem cntU_own {C c n B size : Nat} {w : World} {v : Value} {vs : List Value} (h : CntU C w c) (hg : w.ownsRow B 76 size v n vs) : ∀ k, CsU C k → v.ownBlock ≠ some k := fun k e => e ▸ own_ne hg h (by decide)
def rkU (k : Int) : Int := k
theorem wrap_step (c : Nat) : wrap64 (wrap64 (c : Int) + 1) = wrap64 ((c + 1 : Nat) : Int) := by
  unfold wrap64
  omega
theorem orderU_any (C c : Nat) (a b : Int) (w : World) (hc : CntU C w c) :
    Calls Try.prog 26 #[.int .u16 a, .int .u16 b, .pointer (some ⟨C, 0, none⟩)] w fun e w' => e = .returned (.bool (decide (rkU a < rkU b))) ∧ Kp (CsU C) w w' ∧ CntU C w' (c + 1) := by
  unfold rkU
  obtain ⟨x, hx⟩ : ∃ x, wrap64 (c : Int) = x := ⟨_, rfl⟩
  have HW := Lib.hid (wrap_step c)
  have hb : Blk w C 3 #[.int .i64 x] := hx ▸ hc
  have HX := Lib.hid hx
  clear hx hc
  obtain ⟨c0, f0⟩ := hb.one
  go_enter Try.func26, Try.ntmps26
  go_wp2
  go_ret
  refine ⟨rfl, (Kp.refl (CsU C) w).setCell (p := ⟨C, 0, none⟩) (fun _ => rfl) _, ?_⟩
  have := hb.set_ 0 (.int .i64 (wrap64 (x + 1)))
  rw [← HX.out, HW.out] at this
  unfold CntU
  rw [← HX.out, HW.out]
  exact this

theorem catchU (w : World) :
    CallsD Try.prog 53 #[] .returning w fun e u' w' => e = .returned (.tuple #[]) ∧ u' = .returning ∧ w' = w := by
  refine callsD_of_wpS Try.func53 rfl fun c₀ cs hu => ?_
  apply wpS_region
  simp [wpOpsS, go_sem, recoverD, hu, Try.ntmps53, bodyPostS, results, Try.results53]
  cases c₀
  simp_all

set_option maxRecDepth 100000 in
theorem isBeforeU_any (C H c : Nat) (a b : Int) (w : World) (hH : w.cell? ⟨H, 0, none⟩ = some (.func (.func 26) #[] #[.pointer (some ⟨C, 0, none⟩)])) (hc : CntU C w c) :
    Calls Try.prog 48 #[.pointer (some ⟨H, 0, none⟩), .int .u16 a, .int .u16 b] w fun e w' => e = .returned (.bool (decide (rkU a < rkU b))) ∧ Kp (CsU C) w w' ∧ CntU C w' (c + 1) := by
  go_enter_defers Try.func48, Try.ntmps48
  go_wp2_with (go_at_call 26; ((with_reducible refine (orderU_any C c a b w hc).mono ?_); rintro e w1 ⟨rfl, hk, hc1⟩))
  refine leaves_cons (f := 53) (args := #[]) (by simp) (by simp [go_sem]) ?_
  refine (catchU _).mono ?_
  rintro e u' w'' ⟨rfl, rfl, rfl⟩
  simp [Leaves, settle, results, Try.results48, go_sem]
  exact ⟨hk, hc1⟩

set_option maxRecDepth 100000 in
theorem aheadU_any (C H c : Nat) (a b : Ent) (w : World) (hH : w.cell? ⟨H, 0, none⟩ = some (.func (.func 26) #[] #[.pointer (some ⟨C, 0, none⟩)])) (hc : CntU C w c) :
    Calls Try.prog 41 #[.pointer (some ⟨H, 0, none⟩), .agg #[.int .u16 a.1.1, .int .u64 a.2], .agg #[.int .u16 b.1.1, .int .u64 b.2]] w
      fun e w' => e = .returned (.bool (aheadE rkU a b)) ∧ Kp (CsU C) w w' ∧ CntU C w' (c + 1) := by
  have hHl : H < w.heap.size := World.block_lt_of_cell? w _ hH
  have hk2 : Nw w ((w.alloc (.cells #[.int .u16 a.1.1, .int .u64 a.2] 76)).alloc (.cells #[.int .u16 b.1.1, .int .u64 b.2] 76)) := ((Kp.refl _ _).alloc _).alloc _
  have k0 := (Kp.cell hk2 (p := ⟨H, 0, none⟩) hHl (fun e => e)).trans hH
  have hc2 := cntU_kp hc hk2 (fun _ _ e => e)
  by_cases hn : a.2 < b.2
  · have hn' : (a.2 : Int) < b.2 := by omega
    have HE := Lib.hid (aheadE_lt (rk := rkU) hn)
    clear hn
    go_enter Try.func41, Try.ntmps41
    go_wp2_with (go_at_call 48; ((with_reducible refine (isBeforeU_any C H c b.1.1 a.1.1 _ k0 hc2).mono ?_); rintro e w1 ⟨rfl, hk, hc1⟩))
    go_ret
    exact ⟨by rw [← HE.out]; rfl, (Nw.kp hk2).tr hk, hc1⟩
  · have hn' : (b.2 : Int) ≤ a.2 := by omega
    have HE := Lib.hid (aheadE_ge (rk := rkU) hn)
    clear hn
    go_enter Try.func41, Try.ntmps41
    go_wp2_with (go_at_call 48; ((with_reducible refine (isBeforeU_any C H c a.1.1 b.1.1 _ k0 hc2).mono ?_); rintro e w1 ⟨rfl, hk, hc1⟩))
    go_ret
    exact ⟨by rw [← HE.out]; rfl, (Nw.kp hk2).tr hk, hc1⟩
end Go.Proofs.Ytogfcenebbipeaa.W
