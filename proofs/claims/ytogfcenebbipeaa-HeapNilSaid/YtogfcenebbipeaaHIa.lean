/-
  Heap[Item]: the order function, isBefore, ahead. Condition: the heap's block holds the order function.
-/
import Derived.Test.YtogfcenebbipeaaHB
import Derived.Test.YtogfcenebbipeaaHPl
import Derived.Recover
import Derived.StillTailTactics
import Derived.Deep.RegionHeld3
namespace Go.Proofs.Ytogfcenebbipeaa.W
open Go.RowKit Go.Proofs.Ytogfcenebbipeaa.Pl

theorem before_any (a b : Int × Int) (w : World) :
    Calls Try.prog 12 #[.agg #[.int .i64 a.1, .int .i64 a.2], .agg #[.int .i64 b.1, .int .i64 b.2]] w fun e w' => e = .returned (.bool (decide (a.1 < b.1))) ∧ Nw w w' := by
  go_enter Try.func12, Try.ntmps12
  go_wp2
  go_ret
  exact ⟨rfl, ((Kp.refl _ _).alloc _).alloc _⟩

theorem catchI (w : World) :
    CallsD Try.prog 52 #[] .returning w fun e u' w' => e = .returned (.tuple #[]) ∧ u' = .returning ∧ w' = w := by
  refine callsD_of_wpS Try.func52 rfl fun c₀ cs hu => ?_
  apply wpS_region
  simp [wpOpsS, go_sem, recoverD, hu, Try.ntmps52, bodyPostS, results, Try.results52]
  cases c₀
  simp_all

set_option maxRecDepth 100000 in
theorem isBeforeI_any (H : Nat) (a b : Int × Int) (w : World) (hH : w.cell? ⟨H, 0, none⟩ = some (.func (.func 12) #[] #[])) :
    Calls Try.prog 47 #[.pointer (some ⟨H, 0, none⟩), .agg #[.int .i64 a.1, .int .i64 a.2], .agg #[.int .i64 b.1, .int .i64 b.2]] w fun e w' => e = .returned (.bool (decide (a.1 < b.1))) ∧ Nw w w' := by
  have hHl : H < w.heap.size := World.block_lt_of_cell? w _ hH
  go_enter_defers Try.func47, Try.ntmps47
  go_wp2
  generalize hw2 : (w.alloc (.cells #[.int .i64 a.1, .int .i64 a.2] 27)).alloc (.cells #[.int .i64 b.1, .int .i64 b.2] 27) = w2
  have hb1 : Blk w2 w.heap.size 27 #[.int .i64 a.1, .int .i64 a.2] := hw2 ▸ (Blk.new _ _ _).alloc _
  have hb2 : Blk w2 (w.heap.size + 1) 27 #[.int .i64 b.1, .int .i64 b.2] := hw2 ▸ Blk.new_at (w.alloc (.cells #[.int .i64 a.1, .int .i64 a.2] 27)) _ _ (by simp)
  have hk2 : Nw w w2 := hw2 ▸ ((Kp.refl _ _).alloc _).alloc _
  clear hw2
  obtain ⟨k1, k2, _, _⟩ := hb1.two
  obtain ⟨k3, k4, _, _⟩ := hb2.two
  have k0 := (Kp.cell hk2 (p := ⟨H, 0, none⟩) hHl (fun e => e)).trans hH
  have l1 := hb1.lt
  have l2 := hb2.lt
  have l0 := Nat.lt_trans hHl l1
  go_region_held3 (fun w' : World => w'.cell? (⟨H, 0, none⟩ : Addr) = some (Value.func (.func 12) #[] #[]) ∧ w'.cell? (⟨w.heap.size, 0, none⟩ : Addr) = some (.int .i64 a.1) ∧ w'.cell? (⟨w.heap.size, 1, none⟩ : Addr) = some (.int .i64 a.2) ∧ w'.cell? (⟨w.heap.size + 1, 0, none⟩ : Addr) = some (.int .i64 b.1) ∧ w'.cell? (⟨w.heap.size + 1, 1, none⟩ : Addr) = some (.int .i64 b.2))
    (first | go_keep | exact ⟨(hk.cell (p := ⟨H, 0, none⟩) l0 (fun e => e)).trans k0, (hk.cell (p := ⟨w.heap.size, 0, none⟩) l1 (fun e => e)).trans k1, (hk.cell (p := ⟨w.heap.size, 1, none⟩) l1 (fun e => e)).trans k2, (hk.cell (p := ⟨w.heap.size + 1, 0, none⟩) l2 (fun e => e)).trans k3, (hk.cell (p := ⟨w.heap.size + 1, 1, none⟩) l2 (fun e => e)).trans k4⟩)
    ((go_at_call 12; ((with_reducible refine (before_any a b _).mono ?_); rintro e w1 ⟨rfl, hk⟩)))
  go_wp2
  refine leaves_cons (f := 52) (args := #[]) (by simp) (by simp [go_sem]) ?_
  refine (catchI _).mono ?_
  rintro e u' w'' ⟨rfl, rfl, rfl⟩
  simp [Leaves, settle, results, Try.results47, go_sem]
  exact hk2.tr hk.undrew

/-- the heap's counter of calls: here there is none -/
def CntI (_C : Nat) (_w : World) (_c : Nat) : Prop := True
def CsI (_C : Nat) : Nat → Prop := fun _ => False
theorem cntI_t (C : Nat) (w : World) (c : Nat) : CntI C w c := trivial
theorem cntI_kp {S : Nat → Prop} {C c : Nat} {w w' : World} (_h : CntI C w c) (_hk : Kp S w w') (_hS : ∀ k, CsI C k → ¬ S k) : CntI C w' c := trivial
theorem cntI_drew {C c : Nat} {w : World} (h : CntI C w c) : CntI C w.drew c := h
theorem cntI_drewN {C c : Nat} {w : World} (h : CntI C w c) (n : Nat) : CntI C (w.drewN n) c := h
theorem cntI_blk {C c g : Nat} {w : World} {cs : Array Value} (_h : CntI C w c) (_hg : Blk w g 68 cs) : ∀ k, CsI C k → k ≠ g := fun _ e => e.elim
theorem cntI_own {C c n B size : Nat} {w : World} {v : Value} {vs : List Value} (_h : CntI C w c) (_hg : w.ownsRow B 70 size v n vs) : ∀ k, CsI C k → v.ownBlock ≠ some k := fun _ e => e.elim
def rkI (k : Int) : Int := k

set_option maxRecDepth 100000 in
theorem aheadI_any (C H c : Nat) (a b : Ent) (w : World) (hH : w.cell? ⟨H, 0, none⟩ = some (.func (.func 12) #[] #[])) (_hc : CntI C w c) :
    Calls Try.prog 40 #[.pointer (some ⟨H, 0, none⟩), .agg #[.int .i64 a.1.1, .int .i64 a.1.2, .int .u64 a.2], .agg #[.int .i64 b.1.1, .int .i64 b.1.2, .int .u64 b.2]] w
      fun e w' => e = .returned (.bool (aheadE rkI a b)) ∧ Kp (CsI C) w w' ∧ CntI C w' (c + 1) := by
  have hHl : H < w.heap.size := World.block_lt_of_cell? w _ hH
  have hk2 : Nw w ((w.alloc (.cells #[.int .i64 a.1.1, .int .i64 a.1.2, .int .u64 a.2] 70)).alloc (.cells #[.int .i64 b.1.1, .int .i64 b.1.2, .int .u64 b.2] 70)) := ((Kp.refl _ _).alloc _).alloc _
  have k0 := (Kp.cell hk2 (p := ⟨H, 0, none⟩) hHl (fun e => e)).trans hH
  by_cases hn : a.2 < b.2
  · have hn' : (a.2 : Int) < b.2 := by omega
    have HE := Lib.hid (aheadE_lt (rk := rkI) hn)
    clear hn
    go_enter Try.func40, Try.ntmps40
    go_wp2_with (go_at_call 47; ((with_reducible refine (isBeforeI_any H b.1 a.1 _ k0).mono ?_); rintro e w1 ⟨rfl, hk⟩))
    go_ret
    exact ⟨by rw [← HE.out]; rfl, Nw.kp (Kp.tr hk2 hk), trivial⟩
  · have hn' : (b.2 : Int) ≤ a.2 := by omega
    have HE := Lib.hid (aheadE_ge (rk := rkI) hn)
    clear hn
    go_enter Try.func40, Try.ntmps40
    go_wp2_with (go_at_call 47; ((with_reducible refine (isBeforeI_any H a.1 b.1 _ k0).mono ?_); rintro e w1 ⟨rfl, hk⟩))
    go_ret
    exact ⟨by rw [← HE.out]; rfl, Nw.kp (Kp.tr hk2 hk), trivial⟩
end Go.Proofs.Ytogfcenebbipeaa.W
