/-
  The reference's part, wide, lowest: what they return. Condition: the parts are ints; few digits.
-/
import Derived.Test.YthefkomalakfeaaRNh
import Derived.Test.YthefkomalakfeaaQF
import Derived.Deep.RegionHeld3
namespace Go.Proofs.Ythefkomalakfeaa.W
open Go.RowKit Go.Proofs.Ythefkomalakfeaa.Q

set_option maxHeartbeats 800000 in
theorem part_any (n : Int) (hn : I64 n) (w : World) : Calls Try.prog 46 #[.int .i64 n] w fun e w' => ∃ v', e = .returned v' ∧ Js w' v' n.natAbs ∧ Nw w w' := by
  obtain ⟨h1, h2⟩ := hn
  have hnat := fun w1 => nat_any n.natAbs (by unfold U64; omega) w1
  by_cases h : n < 0
  · have e0 : decide (n < 0) = true := decide_eq_true h
    obtain ⟨m, hm⟩ : ∃ m : Nat, n.natAbs = m + 1 := ⟨n.natAbs - 1, by omega⟩
    have e1 : IntKind.i64.wrap (n + 1) = -(m : Int) := by rw [IntKind.wrap_i64]; omega
    have e2 : IntKind.i64.wrap (- -(m : Int)) = (m : Int) := by rw [IntKind.wrap_i64]; omega
    have e2' : IntKind.i64.wrap (m : Int) = (m : Int) := by rw [IntKind.wrap_i64]; omega
    have e3 : IntKind.u64.wrap (m : Int) = (m : Int) := wrapU m (by omega)
    have e4 : IntKind.u64.wrap ((m : Int) + 1) = (n.natAbs : Int) := by rw [hm, show (m : Int) + 1 = ((m + 1 : Nat) : Int) from rfl]; exact wrapU _ (by omega)
    obtain ⟨k, hk⟩ : ∃ k, n.natAbs = k := ⟨_, rfl⟩
    rw [hk] at e4 hnat ⊢
    clear hm hk h h1 h2
    go_enter Try.func46, Try.ntmps46
    go_wp2_with fail
    refine (hnat _).mono ?_
    rintro e w1 ⟨v1, rfl, hj, hk⟩
    go_wp2
    go_ret
    exact ⟨v1, rfl, hj, hk⟩
  · have e0 : decide (n < 0) = false := decide_eq_false h
    have e1 : IntKind.u64.wrap n = (n.natAbs : Int) := by rw [IntKind.wrap_u64]; omega
    obtain ⟨k, hk⟩ : ∃ k, n.natAbs = k := ⟨_, rfl⟩
    rw [hk] at e1 hnat ⊢
    clear hk h h1 h2
    go_enter Try.func46, Try.ntmps46
    go_wp2_with fail
    refine (hnat _).mono ?_
    rintro e w1 ⟨v1, rfl, hj, hk⟩
    go_wp2
    go_ret
    exact ⟨v1, rfl, hj, hk⟩

theorem Js.kp_ {S : Nat → Prop} {w w' : World} {v : Value} {N : Nat} (h : Js w v N) (hk : Kp S w w') (hS : ∀ g cs, Blk w g 3 cs → ¬ S g) : Js w' v N := Js.kp h hk hS
theorem Js.two_ {w0 w : World} {v : Value} {N g : Nat} {t : TypeId} {cs : Array Value} (h : Js w v N) (hb : Blk w0 g t cs) (hk : Nw w0 w) (x y : Value) (ht : 3 ≠ t) : Js ((w.setCell ⟨g, 0, none⟩ x).setCell ⟨g, 1, none⟩ y) v N := by
  refine h.kp (kp_two w g x y) fun k c hc e => ?_
  subst e
  exact Blk.ne_ hc (hb.kp hk id) ht rfl
theorem Js.three_ {w0 w : World} {v : Value} {N g : Nat} {t : TypeId} {cs : Array Value} (h : Js w v N) (hb : Blk w0 g t cs) (hk : Nw w0 w) (x y z : Value) (ht : 3 ≠ t) : Js (((w.setCell ⟨g, 0, none⟩ x).setCell ⟨g, 1, none⟩ y).setCell ⟨g, 2, none⟩ z) v N := by
  refine h.kp (kp_three w g x y z) fun k c hc e => ?_
  subst e
  exact Blk.ne_ hc (hb.kp hk id) ht rfl
theorem Js.shape {w : World} {v : Value} {N : Nat} (h : Js w v N) : ∃ A n c, v = .slice A n c := by
  obtain ⟨A, n, c, h1, _⟩ := js_len h
  exact ⟨A, n, c, h1⟩
/-- a fraction of the reference: a sign and two numbers -/
def BF (w : World) (v : Value) (s : Bool) (N D : Nat) : Prop := ∃ A n c A2 n2 c2, v = .agg #[.bool s, .slice A n c, .slice A2 n2 c2] ∧ Js w (.slice A n c) N ∧ Js w (.slice A2 n2 c2) D
theorem BF.nw {w w' : World} {v : Value} {s : Bool} {N D : Nat} (h : BF w v s N D) (hk : Nw w w') : BF w' v s N D := by
  obtain ⟨A, n, c, A2, n2, c2, h1, h2, h3⟩ := h
  exact ⟨A, n, c, A2, n2, c2, h1, h2.nw hk, h3.nw hk⟩
/-- a rational number as the reference holds it -/
abbrev BR (w : World) (v : Value) (q : Rat) : Prop := BF w v (decide (q.num < 0)) q.num.natAbs q.den

set_option maxRecDepth 100000 in
set_option maxHeartbeats 3200000 in
theorem wide_any (n d : Int) (hn : I64 n) (hd : I64 d) (w : World) : Calls Try.prog 40 #[raV n d] w fun e w' => ∃ v', e = .returned v' ∧ BF w' v' (decide (n < 0)) n.natAbs d.natAbs ∧ Nw w w' := by
  have p1 := fun w1 => part_any n hn w1
  have p2 := fun w1 => part_any d hd w1
  have hB := blk2' w 23 45 #[.int .i64 n, .int .i64 d] #[.bool false, .slice none 0 0, .slice none 0 0]
  obtain ⟨s, hs⟩ : ∃ s, decide (n < 0) = s := ⟨_, rfl⟩
  rw [hs]
  go_enter Try.func40, Try.ntmps40
  go_wp2_with fail
  have HK0 := Lib.hid ((nw_alloc w (.cells #[.int .i64 n, .int .i64 d] 23)).alloc (.cells #[.bool false, .slice none 0 0, .slice none 0 0] 45))
  have HB := Lib.hid hB
  clear hB
  generalize hw0 : (w.alloc (.cells #[.int .i64 n, .int .i64 d] 23)).alloc (.cells #[.bool false, .slice none 0 0, .slice none 0 0] 45) = w0
  rw [hw0] at HK0 HB
  clear hw0
  obtain ⟨k0, k1, _, _⟩ := HB.out.1.two
  have hP : ∀ w' : World, Nw w0 w' → w'.cell? (⟨w.heap.size, 0, none⟩ : Addr) = some (.int .i64 n) ∧ w'.cell? (⟨w.heap.size, 1, none⟩ : Addr) = some (.int .i64 d) := fun w' h => by
    obtain ⟨a, b, _, _⟩ := (HB.out.1.kp h id).two
    exact ⟨a, b⟩
  have hQ : ∀ w' : World, Nw w0 w' → ∀ x y z : Value, (((w'.setCell ⟨w.heap.size + 1, 0, none⟩ x).setCell ⟨w.heap.size + 1, 1, none⟩ y).setCell ⟨w.heap.size + 1, 2, none⟩ z).cell? (⟨w.heap.size, 0, none⟩ : Addr) = some (.int .i64 n) ∧ (((w'.setCell ⟨w.heap.size + 1, 0, none⟩ x).setCell ⟨w.heap.size + 1, 1, none⟩ y).setCell ⟨w.heap.size + 1, 2, none⟩ z).cell? (⟨w.heap.size, 1, none⟩ : Addr) = some (.int .i64 d) := fun w' h x y z => by
    have l := Nat.lt_of_lt_of_le HB.out.1.lt h.size
    exact ⟨(k3cell w' x y z l (by omega)).trans (hP w' h).1, (k3cell w' x y z l (by omega)).trans (hP w' h).2⟩
  have HP := Lib.hid hP
  have HQ := Lib.hid hQ
  clear hP hQ
  go_region_held3 (fun w' : World => w'.cell? (⟨w.heap.size, 0, none⟩ : Addr) = some (.int .i64 n) ∧ w'.cell? (⟨w.heap.size, 1, none⟩ : Addr) = some (.int .i64 d))
    (first | exact HP.out _ (Kp.refl _ _) | exact HP.out _ (Kp.drew (Kp.refl _ _)) | exact HP.out _ hb | exact HQ.out _ hb _ _ _ | fail)
    (first
      | (go_at_call 46; ((with_reducible refine (p1 _).mono ?_); rintro e w1 ⟨v1, rfl, hj1, hk1⟩; obtain ⟨A1, n1, c1, rfl⟩ := hj1.shape; have hb : Nw w0 w1 := (Kp.drew (Kp.refl _ _)).tr hk1))
      | (go_at_call 46; ((with_reducible refine (p2 _).mono ?_); rintro e w2 ⟨v2, rfl, hj2, hk2⟩; obtain ⟨A2, n2, c2, rfl⟩ := hj2.shape; have hb : Nw w0 w2 := hb.tr hk2; have hj1 := hj1.nw hk2; obtain ⟨t0, t1, t2, t3, t4, t5⟩ := Blk.three (HB.out.2.kp hb id))))
  go_wp2
  refine bodyPost_ret (v := .agg #[.bool s, .slice A1 n1 c1, .slice A2 n2 c2]) (by simp [results, Try.results40, go_sem, t0, t1, t2]) rfl ⟨_, rfl, ⟨A1, n1, c1, A2, n2, c2, rfl, hj1.three_ HB.out.2 hb _ _ _ (by decide), hj2.three_ HB.out.2 hb _ _ _ (by decide)⟩, ?_⟩
  exact (((HK0.out.tr hb).new (by omega) _ _).new (by omega) _ _).new (by omega) _ _
end Go.Proofs.Ythefkomalakfeaa.W
