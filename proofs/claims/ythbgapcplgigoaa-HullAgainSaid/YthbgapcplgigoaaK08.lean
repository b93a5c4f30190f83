/-
  The statement 'for x := range seq { .. }' over an iterator that keeps state of its own in cells: a law of the walk. The loop's body owns blocks that a word O tells of every world; whatever the iterator changes is none of them, and the body changes none of the iterator's. Conditions: the iterator's contract, and the caller's walks.
  The statement 'for x := range seq { .. }' over an iterator that reads blocks which were there: a law of the walk. Conditions: the iterator's contract, and the caller's walks.
  vec: Sorted of a list whose sorted form has no two equal neighbours, and what it calls: what they return. Condition: the list is not longer than a slice may be.
  vec, plain: a list in ascending order, each vector once: sorted and then rid of equal neighbours, or inserted one by one; no program. No condition.
  vec, plain: a list that is rid of equal neighbours from its end; no program. No condition.
  vec: Compact where no two neighbours are equal; Sorted there: what they return. Condition: the list is not longer than a slice may be.
  vec: Clone; Sorted of a list whose sorted form has no two equal neighbours: what they return. Condition: the list is not longer than a slice may be.
-/
import Derived.Test.YthbgapcplgigoaaK01
import Derived.RangeFuncNested
import Derived.RangeFuncBound
import Derived.RangeFuncCalls
import Derived.RangeFuncLeaves
import Derived.Shelf.Abstract
import Derived.Shelf.RegionOpen
import Derived.OwnWalkIn
import Derived.TacticsInMore
import Derived.LoopNIn
import Derived.LoopIn
import Derived.Test.YthbgapcplgigoaaK02
import Derived.Test.YthbgapcplgigoaaLayV
namespace Go.Proofs.Ythbgapcplgigoaa.W
open Go.RowKit

/-- a round changes blocks of the body's own and new ones; what is its own behind it was its own or is new -/
structure Rd (O : World → Nat → Prop) (W W' : World) : Prop where
  kp : Kp (O W) W W'
  own : ∀ k, O W' k → O W k ∨ W.heap.size ≤ k

/-- an invariant of the body: it abides whatever changes none of its own blocks, and none below n -/
structure OwnJ {β : Type} (n : Nat) (O : World → Nat → Prop) (J : β → World → Prop) : Prop where
  abide : ∀ s W S W', J s W → Kp S W W' → (∀ k, S k → n ≤ k ∧ ¬ O W k) → J s W'
  keep : ∀ s W S W', J s W → Kp S W W' → (∀ k, S k → n ≤ k ∧ ¬ O W k) → ∀ k, O W' k → O W k
  lt : ∀ s W k, J s W → O W k → k < W.heap.size

/-- an iterator's contract: it hands the elements xs to yield, in their order, until a round says 'no more' -/
def SeqIt {α : Type} (f : FuncId) (lb : Array Value) (enc : α → Value) (xs : List α) (w : World) : Prop :=
  ∀ (l : Nat) (O : World → Nat → Prop) (J Jx : List α → World → Prop) (W : World), Nw w W → OwnJ w.heap.size O J →
    (∀ pre x W1, J pre W1 → pre ++ [x] <+: xs → YieldAt Fence.wide 1 Try.prog l #[enc x] W1 fun e W' =>
      (e = .returned (.bool true) ∧ J (pre ++ [x]) W' ∧ Rd O W1 W') ∨ (e = .returned (.bool false) ∧ Jx (pre ++ [x]) W')) →
    J [] W →
    CallsIn Fence.wide 2 Try.prog f (#[.func (.yield l) #[] #[]] ++ lb) W fun e W' => (∃ v, e = .returned v) ∧ (J xs W' ∨ ∃ pre, pre <+: xs ∧ Jx pre W')

/-- how a body may be left -/
def rdPost {α : Type} (O : World → Nat → Prop) (I : List α → World → Prop) (Ix : Code → List α → World → Prop) (xs : List α) (W : World) : Exit → Act → World → Prop
  | .normal, _, W' => Rd O W W' ∧ I xs W'
  | .ret, _, W' => Rd O W W' ∧ Ix .ret xs W'
  | .exit id, _, W' => Rd O W W' ∧ Ix (.exit id) xs W'
  | .goto t, _, W' => Rd O W W' ∧ Ix (.goto t) xs W'
  | .panic _, _, _ => False
  | .outgrown, _, _ => False

theorem kp_putObj (W : World) (l : Nat) (o : Obj) : Kp (fun k => k = l) W (W.putObj l o) :=
  ⟨rfl, rfl, rfl, by simp, fun k _ hn => World.putObj_heap_other (fun e => hn (by first | exact e | exact e.symm))⟩

/-- the mark that a range over a function leaves among the deferred calls -/
def mark (D : Nat) : Deferred := { target := .collected D, args := #[] }

theorem range_wp {α : Type} {g : Operand} {p : Tmp} {assign body : Code} {Q : Exit → Act → World → Prop} {a : Act} {w : World} {gf : Nat} {lb : Array Value} {enc : α → Value} {xs : List α}
    (hg : a.eval g = .func (.func gf) #[] lb) (eg : ∀ args w, (callFunc gf args).run Try.prog w = .ok (.enter gf args) w)
    (hit : SeqIt gf lb enc xs w)
    (O : World → Nat → Prop) (I : List α → World → Prop) (Ix : Code → List α → World → Prop) (hI : OwnJ w.heap.size O I) (hIx : ∀ c, OwnJ w.heap.size O (Ix c)) (h0 : I [] w)
    (Ax : α → Act → World → Prop) (hAx : ∀ x a' W W' l r, Ax x a' W → W.heap[l]? = some (.loop r) → Kp (fun k => k = l) W W' → Ax x a' W')
    (hassign : ∀ (l : Nat) (x : α) (W : World) (K : Act → World → Prop), (∀ a' W', Nw W W' → Ax x a' W' → K a' W') →
      assign.wpIn (Fence.wide.inRound l) 1 Try.prog (Exit.then K (fun _ _ _ => False)) { tmps := a.tmps.setIfInBounds p (enc x), defers := [] } W)
    (hbody : ∀ (l : Nat) (pre : List α) (x : α) (a' : Act) (W : World), I pre W → pre ++ [x] <+: xs → Ax x a' W → body.wpIn (Fence.wide.inRound l) 1 Try.prog (rdPost O I Ix (pre ++ [x]) W) a' W)
    (hdone : ∀ (D : Nat) (W : World), w.heap.size ≤ D → I xs W → W.heap[D]? = some (.deferred (some [])) → Q .normal { a with defers := mark D :: a.defers } W)
    (hstop : ∀ (D : Nat) (c : Code) (pre : List α) (W : World), w.heap.size ≤ D → pre <+: xs → Ix c pre W → W.heap[D]? = some (.deferred (some [])) → c.wp Try.prog Q { a with defers := mark D :: a.defers } W) :
    (Code.rangeFunc g #[p] assign body).wp Try.prog Q a w := by
  refine (wpIn_wide (n := 3)).1 ?_
  refine wpIn_rangeFunc ?_
  intro fn hfn
  have hro : Fence.wide.round = none := rfl
  rw [hro]
  obtain ⟨rec, hrec⟩ : ∃ rec : LoopState → Option Code → Loop, rec = fun st pe => { state := st, pending := pe, fn, tmps := a.tmps, params := #[p], assign, body, defers := w.heap.size } := ⟨_, rfl⟩
  obtain ⟨W1, hW1⟩ : ∃ W1, (w.alloc (.deferred (some []))).alloc (.loop (rec .ready none)) = W1 := ⟨_, rfl⟩
  have hL1 : W1.heap[w.heap.size + 1]? = some (.loop (rec .ready none)) := by
    rw [← hW1]; have := World.alloc_heap_new (w.alloc (.deferred (some []))) (.loop (rec .ready none)); rwa [World.size_alloc] at this
  have hK1 : W1.heap[w.heap.size]? = some (.deferred (some [])) := by
    rw [← hW1]; exact (Below.heap_alloc _ _ _ (by simp)).trans (World.alloc_heap_new w _)
  have hnw1 : Nw w W1 := by rw [← hW1]; exact ((Kp.refl _ w).alloc _).alloc _
  have hI1 : I [] W1 := hI.abide _ _ _ _ h0 hnw1 (fun _ e => e.elim)
  have hO1 : ∀ k, O W1 k → k < w.heap.size := fun k e => hI.lt _ _ k h0 (hI.keep _ _ _ _ h0 hnw1 (fun _ e => e.elim) k e)
  obtain ⟨l, hl⟩ : ∃ l, w.heap.size + 1 = l := ⟨_, rfl⟩
  obtain ⟨D, hD⟩ : ∃ D, w.heap.size = D := ⟨_, rfl⟩
  have hlD : l ≠ D := by omega
  have hle : w.heap.size ≤ l := by omega
  have hDe : w.heap.size ≤ D := by omega
  rw [hl] at hL1
  rw [hD] at hK1
  refine ⟨l, [mark D], W1, { target := .fn (.func gf) lb, args := #[.func (.yield l) #[] #[]] }, W1, gf,
    #[.func (.yield l) #[] #[]] ++ lb, W1, ?_, ?_, ?_, ?_, fun e => by simp [Fence.wide] at e, ?_⟩
  · rw [← hW1, hrec, ← hl, ← hD]; exact run_enterLoop_outer _ _ _ _ _
  · simp only [resolve, hg]
    simp [go_sem]
  · intro f' hf'; trivial
  · simp [invoke, go_sem, eg]
  · -- the iterator's contract, at the caller's invariant with the two blocks of book-keeping
    have hJ : OwnJ (β := List α) w.heap.size (fun W k => O W k ∨ k = l ∨ k = D) (fun pre W => I pre W ∧ W.heap[l]? = some (.loop (rec .ready none)) ∧ W.heap[D]? = some (.deferred (some [])) ∧ ¬ O W l ∧ ¬ O W D) := by
      refine ⟨?_, ?_, ?_⟩
      · rintro s W S W' ⟨hi, hl2, hd2, nl, nd⟩ hk hS
        have hS' : ∀ k, S k → w.heap.size ≤ k ∧ ¬ O W k := fun k e => ⟨(hS k e).1, fun e2 => (hS k e).2 (.inl e2)⟩
        exact ⟨hI.abide _ _ _ _ hi hk hS', (hk.block l (Array.getElem?_eq_some_iff.1 hl2).1 (fun e => (hS l e).2 (.inr (.inl rfl)))).trans hl2, (hk.block D (Array.getElem?_eq_some_iff.1 hd2).1 (fun e => (hS D e).2 (.inr (.inr rfl)))).trans hd2,
          fun e => nl (hI.keep _ _ _ _ hi hk hS' l e), fun e => nd (hI.keep _ _ _ _ hi hk hS' D e)⟩
      · rintro s W S W' ⟨hi, _⟩ hk hS k e
        exact e.imp (fun e => hI.keep _ _ _ _ hi hk (fun k e => ⟨(hS k e).1, fun e2 => (hS k e).2 (.inl e2)⟩) k e) id
      · rintro s W k ⟨hi, hl2, hd2, _⟩ (e | rfl | rfl)
        · exact hI.lt _ _ _ hi e
        · exact (Array.getElem?_eq_some_iff.1 hl2).1
        · exact (Array.getElem?_eq_some_iff.1 hd2).1
    refine (hit l (fun W k => O W k ∨ k = l ∨ k = D) (fun pre W => I pre W ∧ W.heap[l]? = some (.loop (rec .ready none)) ∧ W.heap[D]? = some (.deferred (some [])) ∧ ¬ O W l ∧ ¬ O W D)
      (fun pre W => ∃ c, Ix c pre W ∧ W.heap[l]? = some (.loop (rec .done (some c))) ∧ W.heap[D]? = some (.deferred (some [])) ∧ ¬ O W l)
      W1 hnw1 hJ ?_ ⟨hI1, hL1, hK1, fun e => absurd (hO1 l e) (by omega), fun e => absurd (hO1 D e) (by omega)⟩).mono ?_
    · -- one round
      rintro pre x W ⟨hi, hl2, hd2, nl, nd⟩ hpre
      have hlt : l < W.heap.size := (Array.getElem?_eq_some_iff.1 hl2).1
      have hdt : D < W.heap.size := (Array.getElem?_eq_some_iff.1 hd2).1
      have hy := run_yield (P := Try.prog) (args := #[enc x]) hl2 (by rw [hrec]; rfl)
      rw [hrec] at hy
      dsimp only at hy
      have hz : (#[p].zip #[enc x]).foldl (fun (tmps : Array Value) ((t, a) : Tmp × Value) => tmps.setIfInBounds t a) a.tmps = a.tmps.setIfInBounds p (enc x) := by simp
      rw [hz] at hy
      refine ⟨fn, _, assign, body, hy, roundIn_of_wpIn hfn (hassign _ x W _ ?_)⟩
      clear hy
      intro a' Wa hka hax
      have hia := hI.abide _ _ _ _ hi hka (fun _ e => e.elim)
      have hOa := hI.keep _ _ _ _ hi hka (fun _ e => e.elim)
      have hla := (hka.block l hlt (fun e => e)).trans hl2
      have hda := (hka.block D hdt (fun e => e)).trans hd2
      refine ⟨_, run_beginRound hla (by rw [hrec]), ?_⟩
      have hkb := kp_putObj Wa l (.loop { rec .ready none with state := .busy })
      have hSb : ∀ k, k = l → w.heap.size ≤ k ∧ ¬ O Wa k := fun k e => ⟨by omega, fun e2 => nl (hOa l (e ▸ e2))⟩
      have hib := hI.abide _ _ _ _ hia hkb hSb
      have hOb := hI.keep _ _ _ _ hia hkb hSb
      have haxb := hAx x a' _ _ l _ hax hla hkb
      have hlb : (Wa.putObj l (.loop { rec .ready none with state := .busy })).heap[l]? = some (.loop { rec .ready none with state := .busy }) := World.putObj_heap_same (Array.getElem?_eq_some_iff.1 hla).1
      have hdb : (Wa.putObj l (.loop { rec .ready none with state := .busy })).heap[D]? = some (.deferred (some [])) := (World.putObj_heap_other (by omega)).trans hda
      obtain ⟨Wb, hWb⟩ : ∃ Wb, Wa.putObj l (.loop { rec .ready none with state := .busy }) = Wb := ⟨_, rfl⟩
      rw [hWb] at hkb hib hOb haxb hlb hdb ⊢
      have nlb : ¬ O Wb l := fun e => nl (hOa l (hOb l e))
      have ndb : ¬ O Wb D := fun e => nd (hOa D (hOb D e))
      have hltb : l < Wb.heap.size := (Array.getElem?_eq_some_iff.1 hlb).1
      have hdtb : D < Wb.heap.size := (Array.getElem?_eq_some_iff.1 hdb).1
      refine wpIn_mono (hbody _ pre x a' Wb hib hpre haxb) ?_
      have fin : ∀ (jump : Option Code) (W3 : World), Rd O Wb W3 →
          (Instr.endRound l jump).run Try.prog W3 = .ok (.bool jump.isNone) (W3.putObj l (.loop (rec (if jump.isNone then .ready else .done) jump))) ∧
          (W3.putObj l (.loop (rec (if jump.isNone then .ready else .done) jump))).heap[l]? = some (.loop (rec (if jump.isNone then .ready else .done) jump)) ∧
          (W3.putObj l (.loop (rec (if jump.isNone then .ready else .done) jump))).heap[D]? = some (.deferred (some [])) ∧ ¬ O W3 l ∧ ¬ O W3 D := fun jump W3 hk3 => by
        have hl3 := (hk3.kp.block l hltb nlb).trans hlb
        have hd3 := (hk3.kp.block D hdtb ndb).trans hdb
        have := run_endRound (P := Try.prog) jump hl3
        rw [hrec] at this ⊢
        exact ⟨this, World.putObj_heap_same (Array.getElem?_eq_some_iff.1 hl3).1, (World.putObj_heap_other (by omega)).trans hd3,
          fun e => (hk3.own l e).elim nlb (fun e => by omega), fun e => (hk3.own D e).elim ndb (fun e => by omega)⟩
      have out : ∀ {c : Code} {W3 : World} (o : Obj), Rd O Wb W3 → Ix c (pre ++ [x]) W3 → ¬ O W3 l → Ix c (pre ++ [x]) (W3.putObj l o) ∧ ¬ O (W3.putObj l o) l := fun {c W3} o _ hi3 n3 =>
        have hS : ∀ k, k = l → w.heap.size ≤ k ∧ ¬ O W3 k := fun k e => ⟨by omega, fun e2 => n3 (e ▸ e2)⟩
        ⟨(hIx c).abide _ _ _ _ hi3 (kp_putObj W3 l o) hS, fun e => n3 ((hIx c).keep _ _ _ _ hi3 (kp_putObj W3 l o) hS l e)⟩
      rintro e a3 W3 hp
      cases e with
      | normal =>
        obtain ⟨hk3, hi3⟩ := hp
        obtain ⟨hr, hl4, hd4, n3, m3⟩ := fin none W3 hk3
        refine ⟨_, _, hr, .inl ⟨rfl, ?_⟩⟩
        have hS : ∀ k, k = l → w.heap.size ≤ k ∧ ¬ O W3 k := fun k e => ⟨by omega, fun e2 => n3 (e ▸ e2)⟩
        have hk4 := kp_putObj W3 l (.loop (rec (if (none : Option Code).isNone then .ready else .done) none))
        have hi4 := hI.abide _ _ _ _ hi3 hk4 hS
        have hO4 := hI.keep _ _ _ _ hi3 hk4 hS
        refine ⟨⟨hi4, hl4, hd4, fun e => n3 (hO4 l e), fun e => m3 (hO4 D e)⟩, ?_, ?_⟩
        · have hk13 : Kp (fun k => O W k ∨ k = l ∨ k = D) W W3 := ((hka.kp (S := fun k => O W k ∨ k = l ∨ k = D)).trans hkb (fun i _ e => .inr (.inl e))).trans hk3.kp (fun i _ e => .inl (hOa i (hOb i e)))
          exact hk13.trans hk4 (fun i _ e => .inr (.inl e))
        · rintro k (e | e)
          · rcases hk3.own k (hO4 k e) with e | e
            · exact .inl (.inl (hOa k (hOb k e)))
            · exact .inr (Nat.le_trans hka.size (Nat.le_trans hkb.size e))
          · exact .inl (.inr e)
      | ret =>
        obtain ⟨hk3, hi3⟩ := hp
        obtain ⟨hr, hl4, hd4, n3, _⟩ := fin (some .ret) W3 hk3
        obtain ⟨hi4, n4⟩ := out _ hk3 hi3 n3
        exact ⟨_, _, hr, .inr ⟨rfl, .ret, hi4, hl4, hd4, n4⟩⟩
      | exit id =>
        obtain ⟨hk3, hi3⟩ := hp
        obtain ⟨hr, hl4, hd4, n3, _⟩ := fin (some (.exit id)) W3 hk3
        obtain ⟨hi4, n4⟩ := out _ hk3 hi3 n3
        exact ⟨_, _, hr, .inr ⟨rfl, .exit id, hi4, hl4, hd4, n4⟩⟩
      | goto t =>
        obtain ⟨hk3, hi3⟩ := hp
        obtain ⟨hr, hl4, hd4, n3, _⟩ := fin (some (.goto t)) W3 hk3
        obtain ⟨hi4, n4⟩ := out _ hk3 hi3 n3
        exact ⟨_, _, hr, .inr ⟨rfl, .goto t, hi4, hl4, hd4, n4⟩⟩
      | panic ch => exact hp.elim
      | outgrown => exact hp.elim
    · -- behind the iterator
      rintro e W2 ⟨⟨v, rfl⟩, (⟨hi, hl2, hd2, nl, _⟩ | ⟨pre, hpre, c, hi, hl2, hd2, nl⟩)⟩
      · have hS : ∀ k, k = l → w.heap.size ≤ k ∧ ¬ O W2 k := fun k e => ⟨by omega, fun e2 => nl (e ▸ e2)⟩
        exact ⟨none, _, by have := run_endLoop (P := Try.prog) hl2 (by rw [hrec]; simp); rw [hrec] at this; exact this, hdone D _ hDe (hI.abide _ _ _ _ hi (kp_putObj W2 l _) hS) ((World.putObj_heap_other (by omega)).trans hd2)⟩
      · have hS : ∀ k, k = l → w.heap.size ≤ k ∧ ¬ O W2 k := fun k e => ⟨by omega, fun e2 => nl (e ▸ e2)⟩
        refine ⟨some c, _, by have := run_endLoop (P := Try.prog) hl2 (by rw [hrec]; simp); rw [hrec] at this; exact this, ?_⟩
        exact wpIn_wide.2 (hstop D c pre _ hDe hpre ((hIx c).abide _ _ _ _ hi (kp_putObj W2 l _) hS) ((World.putObj_heap_other (by omega)).trans hd2))

/-- a function with ranges over functions, entered at the fence that asks nothing -/
theorem enter_marks {f : FuncId} {fn : Func} {c : Code} {args : Array Value} {w : World} {R : Ending → World → Prop} (hf : Try.prog.funcs[f]? = some fn) (hb : fn.body = some c)
    (h : c.wp Try.prog (bodyPostM Fence.wide 3 Try.prog fn R) { tmps := args ++ Array.replicate (fn.ntmps - args.size) undef, defers := [] } w) : Calls Try.prog f args w R :=
  (callsIn_wide (n := 3)).1 (callsIn_of_wp_marks hf hb trivial (wpIn_wide.2 h) rfl)
/-- it leaves with the marks of its loops among its deferred calls -/
theorem leaves_marks {fn : Func} {tmps : Array Value} {R : Ending → World → Prop} {r : Tmp} (hres : fn.results = #[.tmp r]) : ∀ (Ds : List Nat) (W : World), Ds.Nodup → (∀ D ∈ Ds, W.heap[D]? = some (.deferred (some []))) →
    (∀ W', Kp (fun k => k ∈ Ds) W W' → R (.returned (tmps.getD r undef)) W') → LeavesInM Fence.wide 3 Try.prog fn tmps R (Ds.map mark) .returning W
  | [], W, _, _, h => ⟨_, results_tmp hres _ _ _, h W (Kp.refl _ _)⟩
  | D :: Ds, W, hn, hd, h => by
    have hn' := List.nodup_cons.1 hn
    refine ⟨by simp, .inl ⟨D, _, rfl, run_takeDeferred (hd D (by simp)), leaves_marks hres Ds _ hn'.2 (fun D' hD' => ?_) (fun W' hk => ?_)⟩⟩
    · exact (World.putObj_heap_other (fun e => hn'.1 (by first | exact e ▸ hD' | exact e.symm ▸ hD'))).trans (hd D' (by simp [hD']))
    · exact h W' (((kp_putObj W D _).mono (T := fun k => k ∈ D :: Ds) fun _ _ e => by simp [e]).trans hk (fun _ _ e => by simp [e]))
end Go.Proofs.Ythbgapcplgigoaa.W

namespace Go.Proofs.Ythbgapcplgigoaa.W
open Go.RowKit

attribute [local go_sem] Oper.semAt_some

/-- an iterator's contract: as SeqIt, where the body changes no block of S -/
def SeqItS {α : Type} (S0 : Nat → Prop) (f : FuncId) (lb : Array Value) (enc : α → Value) (xs : List α) (w : World) : Prop :=
  ∀ (l : Nat) (O : World → Nat → Prop) (J Jx : List α → World → Prop) (W : World), Nw w W → OwnJ w.heap.size O J → (∀ s W' k, J s W' → O W' k → ¬ S0 k) →
    (∀ pre x W1, J pre W1 → pre ++ [x] <+: xs → YieldAt Fence.wide 1 Try.prog l #[enc x] W1 fun e W' =>
      (e = .returned (.bool true) ∧ J (pre ++ [x]) W' ∧ Rd O W1 W') ∨ (e = .returned (.bool false) ∧ Jx (pre ++ [x]) W')) →
    J [] W →
    CallsIn Fence.wide 2 Try.prog f (#[.func (.yield l) #[] #[]] ++ lb) W fun e W' => (∃ v, e = .returned v) ∧ (J xs W' ∨ ∃ pre, pre <+: xs ∧ Jx pre W')

theorem range_wpS {α : Type} {g : Operand} {p : Tmp} {assign body : Code} {Q : Exit → Act → World → Prop} {a : Act} {w : World} {gf : Nat} {lb : Array Value} {enc : α → Value} {xs : List α}
    (hg : a.eval g = .func (.func gf) #[] lb) (eg : ∀ args w, (callFunc gf args).run Try.prog w = .ok (.enter gf args) w)
    (S0 : Nat → Prop) (hit : SeqItS S0 gf lb enc xs w) (hS0 : ∀ k, S0 k → k < w.heap.size)
    (O : World → Nat → Prop) (I : List α → World → Prop) (Ix : Code → List α → World → Prop) (hI : OwnJ w.heap.size O I) (hSO : ∀ s W k, I s W → O W k → ¬ S0 k) (hIx : ∀ c, OwnJ w.heap.size O (Ix c)) (h0 : I [] w)
    (Ax : α → Act → World → Prop) (hAx : ∀ x a' W W' l r, Ax x a' W → W.heap[l]? = some (.loop r) → Kp (fun k => k = l) W W' → Ax x a' W')
    (hassign : ∀ (l : Nat) (x : α) (W : World) (K : Act → World → Prop), (∀ a' W', Nw W W' → Ax x a' W' → K a' W') →
      assign.wpIn (Fence.wide.inRound l) 1 Try.prog (Exit.then K (fun _ _ _ => False)) { tmps := a.tmps.setIfInBounds p (enc x), defers := [] } W)
    (hbody : ∀ (l : Nat) (pre : List α) (x : α) (a' : Act) (W : World), I pre W → pre ++ [x] <+: xs → Ax x a' W → body.wpIn (Fence.wide.inRound l) 1 Try.prog (rdPost O I Ix (pre ++ [x]) W) a' W)
    (hdone : ∀ (D : Nat) (W : World), w.heap.size ≤ D → I xs W → W.heap[D]? = some (.deferred (some [])) → Q .normal { a with defers := mark D :: a.defers } W)
    (hstop : ∀ (D : Nat) (c : Code) (pre : List α) (W : World), w.heap.size ≤ D → pre <+: xs → Ix c pre W → W.heap[D]? = some (.deferred (some [])) → c.wp Try.prog Q { a with defers := mark D :: a.defers } W) :
    (Code.rangeFunc g #[p] assign body).wp Try.prog Q a w := by
  refine (wpIn_wide (n := 3)).1 ?_
  refine wpIn_rangeFunc ?_
  intro fn hfn
  have hro : Fence.wide.round = none := rfl
  rw [hro]
  obtain ⟨rec, hrec⟩ : ∃ rec : LoopState → Option Code → Loop, rec = fun st pe => { state := st, pending := pe, fn, tmps := a.tmps, params := #[p], assign, body, defers := w.heap.size } := ⟨_, rfl⟩
  obtain ⟨W1, hW1⟩ : ∃ W1, (w.alloc (.deferred (some []))).alloc (.loop (rec .ready none)) = W1 := ⟨_, rfl⟩
  have hL1 : W1.heap[w.heap.size + 1]? = some (.loop (rec .ready none)) := by
    rw [← hW1]; have := World.alloc_heap_new (w.alloc (.deferred (some []))) (.loop (rec .ready none)); rwa [World.size_alloc] at this
  have hK1 : W1.heap[w.heap.size]? = some (.deferred (some [])) := by
    rw [← hW1]; exact (Below.heap_alloc _ _ _ (by simp)).trans (World.alloc_heap_new w _)
  have hnw1 : Nw w W1 := by rw [← hW1]; exact ((Kp.refl _ w).alloc _).alloc _
  have hI1 : I [] W1 := hI.abide _ _ _ _ h0 hnw1 (fun _ e => e.elim)
  have hO1 : ∀ k, O W1 k → k < w.heap.size := fun k e => hI.lt _ _ k h0 (hI.keep _ _ _ _ h0 hnw1 (fun _ e => e.elim) k e)
  obtain ⟨l, hl⟩ : ∃ l, w.heap.size + 1 = l := ⟨_, rfl⟩
  obtain ⟨D, hD⟩ : ∃ D, w.heap.size = D := ⟨_, rfl⟩
  have hlD : l ≠ D := by omega
  have hle : w.heap.size ≤ l := by omega
  have hDe : w.heap.size ≤ D := by omega
  rw [hl] at hL1
  rw [hD] at hK1
  refine ⟨l, [mark D], W1, { target := .fn (.func gf) lb, args := #[.func (.yield l) #[] #[]] }, W1, gf,
    #[.func (.yield l) #[] #[]] ++ lb, W1, ?_, ?_, ?_, ?_, fun e => by simp [Fence.wide] at e, ?_⟩
  · rw [← hW1, hrec, ← hl, ← hD]; exact run_enterLoop_outer _ _ _ _ _
  · simp only [resolve, hg]
    simp [go_sem]
  · intro f' hf'; trivial
  · simp [invoke, go_sem, eg]
  · -- the iterator's contract, at the caller's invariant with the two blocks of book-keeping
    have hJ : OwnJ (β := List α) w.heap.size (fun W k => O W k ∨ k = l ∨ k = D) (fun pre W => I pre W ∧ W.heap[l]? = some (.loop (rec .ready none)) ∧ W.heap[D]? = some (.deferred (some [])) ∧ ¬ O W l ∧ ¬ O W D) := by
      refine ⟨?_, ?_, ?_⟩
      · rintro s W S W' ⟨hi, hl2, hd2, nl, nd⟩ hk hS
        have hS' : ∀ k, S k → w.heap.size ≤ k ∧ ¬ O W k := fun k e => ⟨(hS k e).1, fun e2 => (hS k e).2 (.inl e2)⟩
        exact ⟨hI.abide _ _ _ _ hi hk hS', (hk.block l (Array.getElem?_eq_some_iff.1 hl2).1 (fun e => (hS l e).2 (.inr (.inl rfl)))).trans hl2, (hk.block D (Array.getElem?_eq_some_iff.1 hd2).1 (fun e => (hS D e).2 (.inr (.inr rfl)))).trans hd2,
          fun e => nl (hI.keep _ _ _ _ hi hk hS' l e), fun e => nd (hI.keep _ _ _ _ hi hk hS' D e)⟩
      · rintro s W S W' ⟨hi, _⟩ hk hS k e
        exact e.imp (fun e => hI.keep _ _ _ _ hi hk (fun k e => ⟨(hS k e).1, fun e2 => (hS k e).2 (.inl e2)⟩) k e) id
      · rintro s W k ⟨hi, hl2, hd2, _⟩ (e | rfl | rfl)
        · exact hI.lt _ _ _ hi e
        · exact (Array.getElem?_eq_some_iff.1 hl2).1
        · exact (Array.getElem?_eq_some_iff.1 hd2).1
    have hJS : ∀ (s : List α) W k, (I s W ∧ W.heap[l]? = some (.loop (rec .ready none)) ∧ W.heap[D]? = some (.deferred (some [])) ∧ ¬ O W l ∧ ¬ O W D) → (O W k ∨ k = l ∨ k = D) → ¬ S0 k := by
      rintro s W k ⟨hi, _⟩ e h0
      have := hS0 k h0
      rcases e with e | e | e
      · exact hSO _ _ _ hi e h0
      · omega
      · omega
    refine (hit l (fun W k => O W k ∨ k = l ∨ k = D) (fun pre W => I pre W ∧ W.heap[l]? = some (.loop (rec .ready none)) ∧ W.heap[D]? = some (.deferred (some [])) ∧ ¬ O W l ∧ ¬ O W D)
      (fun pre W => ∃ c, Ix c pre W ∧ W.heap[l]? = some (.loop (rec .done (some c))) ∧ W.heap[D]? = some (.deferred (some [])) ∧ ¬ O W l)
      W1 hnw1 hJ hJS ?_ ⟨hI1, hL1, hK1, fun e => absurd (hO1 l e) (by omega), fun e => absurd (hO1 D e) (by omega)⟩).mono ?_
    · -- one round
      rintro pre x W ⟨hi, hl2, hd2, nl, nd⟩ hpre
      have hlt : l < W.heap.size := (Array.getElem?_eq_some_iff.1 hl2).1
      have hdt : D < W.heap.size := (Array.getElem?_eq_some_iff.1 hd2).1
      have hy := run_yield (P := Try.prog) (args := #[enc x]) hl2 (by rw [hrec]; rfl)
      rw [hrec] at hy
      dsimp only at hy
      have hz : (#[p].zip #[enc x]).foldl (fun (tmps : Array Value) ((t, a) : Tmp × Value) => tmps.setIfInBounds t a) a.tmps = a.tmps.setIfInBounds p (enc x) := by simp
      rw [hz] at hy
      refine ⟨fn, _, assign, body, hy, roundIn_of_wpIn hfn (hassign _ x W _ ?_)⟩
      clear hy
      intro a' Wa hka hax
      have hia := hI.abide _ _ _ _ hi hka (fun _ e => e.elim)
      have hOa := hI.keep _ _ _ _ hi hka (fun _ e => e.elim)
      have hla := (hka.block l hlt (fun e => e)).trans hl2
      have hda := (hka.block D hdt (fun e => e)).trans hd2
      refine ⟨_, run_beginRound hla (by rw [hrec]), ?_⟩
      have hkb := kp_putObj Wa l (.loop { rec .ready none with state := .busy })
      have hSb : ∀ k, k = l → w.heap.size ≤ k ∧ ¬ O Wa k := fun k e => ⟨by omega, fun e2 => nl (hOa l (e ▸ e2))⟩
      have hib := hI.abide _ _ _ _ hia hkb hSb
      have hOb := hI.keep _ _ _ _ hia hkb hSb
      have haxb := hAx x a' _ _ l _ hax hla hkb
      have hlb : (Wa.putObj l (.loop { rec .ready none with state := .busy })).heap[l]? = some (.loop { rec .ready none with state := .busy }) := World.putObj_heap_same (Array.getElem?_eq_some_iff.1 hla).1
      have hdb : (Wa.putObj l (.loop { rec .ready none with state := .busy })).heap[D]? = some (.deferred (some [])) := (World.putObj_heap_other (by omega)).trans hda
      obtain ⟨Wb, hWb⟩ : ∃ Wb, Wa.putObj l (.loop { rec .ready none with state := .busy }) = Wb := ⟨_, rfl⟩
      rw [hWb] at hkb hib hOb haxb hlb hdb ⊢
      have nlb : ¬ O Wb l := fun e => nl (hOa l (hOb l e))
      have ndb : ¬ O Wb D := fun e => nd (hOa D (hOb D e))
      have hltb : l < Wb.heap.size := (Array.getElem?_eq_some_iff.1 hlb).1
      have hdtb : D < Wb.heap.size := (Array.getElem?_eq_some_iff.1 hdb).1
      refine wpIn_mono (hbody _ pre x a' Wb hib hpre haxb) ?_
      have fin : ∀ (jump : Option Code) (W3 : World), Rd O Wb W3 →
          (Instr.endRound l jump).run Try.prog W3 = .ok (.bool jump.isNone) (W3.putObj l (.loop (rec (if jump.isNone then .ready else .done) jump))) ∧
          (W3.putObj l (.loop (rec (if jump.isNone then .ready else .done) jump))).heap[l]? = some (.loop (rec (if jump.isNone then .ready else .done) jump)) ∧
          (W3.putObj l (.loop (rec (if jump.isNone then .ready else .done) jump))).heap[D]? = some (.deferred (some [])) ∧ ¬ O W3 l ∧ ¬ O W3 D := fun jump W3 hk3 => by
        have hl3 := (hk3.kp.block l hltb nlb).trans hlb
        have hd3 := (hk3.kp.block D hdtb ndb).trans hdb
        have := run_endRound (P := Try.prog) jump hl3
        rw [hrec] at this ⊢
        exact ⟨this, World.putObj_heap_same (Array.getElem?_eq_some_iff.1 hl3).1, (World.putObj_heap_other (by omega)).trans hd3,
          fun e => (hk3.own l e).elim nlb (fun e => by omega), fun e => (hk3.own D e).elim ndb (fun e => by omega)⟩
      have out : ∀ {c : Code} {W3 : World} (o : Obj), Rd O Wb W3 → Ix c (pre ++ [x]) W3 → ¬ O W3 l → Ix c (pre ++ [x]) (W3.putObj l o) ∧ ¬ O (W3.putObj l o) l := fun {c W3} o _ hi3 n3 =>
        have hS : ∀ k, k = l → w.heap.size ≤ k ∧ ¬ O W3 k := fun k e => ⟨by omega, fun e2 => n3 (e ▸ e2)⟩
        ⟨(hIx c).abide _ _ _ _ hi3 (kp_putObj W3 l o) hS, fun e => n3 ((hIx c).keep _ _ _ _ hi3 (kp_putObj W3 l o) hS l e)⟩
      rintro e a3 W3 hp
      cases e with
      | normal =>
        obtain ⟨hk3, hi3⟩ := hp
        obtain ⟨hr, hl4, hd4, n3, m3⟩ := fin none W3 hk3
        refine ⟨_, _, hr, .inl ⟨rfl, ?_⟩⟩
        have hS : ∀ k, k = l → w.heap.size ≤ k ∧ ¬ O W3 k := fun k e => ⟨by omega, fun e2 => n3 (e ▸ e2)⟩
        have hk4 := kp_putObj W3 l (.loop (rec (if (none : Option Code).isNone then .ready else .done) none))
        have hi4 := hI.abide _ _ _ _ hi3 hk4 hS
        have hO4 := hI.keep _ _ _ _ hi3 hk4 hS
        refine ⟨⟨hi4, hl4, hd4, fun e => n3 (hO4 l e), fun e => m3 (hO4 D e)⟩, ?_, ?_⟩
        · have hk13 : Kp (fun k => O W k ∨ k = l ∨ k = D) W W3 := ((hka.kp (S := fun k => O W k ∨ k = l ∨ k = D)).trans hkb (fun i _ e => .inr (.inl e))).trans hk3.kp (fun i _ e => .inl (hOa i (hOb i e)))
          exact hk13.trans hk4 (fun i _ e => .inr (.inl e))
        · rintro k (e | e)
          · rcases hk3.own k (hO4 k e) with e | e
            · exact .inl (.inl (hOa k (hOb k e)))
            · exact .inr (Nat.le_trans hka.size (Nat.le_trans hkb.size e))
          · exact .inl (.inr e)
      | ret =>
        obtain ⟨hk3, hi3⟩ := hp
        obtain ⟨hr, hl4, hd4, n3, _⟩ := fin (some .ret) W3 hk3
        obtain ⟨hi4, n4⟩ := out _ hk3 hi3 n3
        exact ⟨_, _, hr, .inr ⟨rfl, .ret, hi4, hl4, hd4, n4⟩⟩
      | exit id =>
        obtain ⟨hk3, hi3⟩ := hp
        obtain ⟨hr, hl4, hd4, n3, _⟩ := fin (some (.exit id)) W3 hk3
        obtain ⟨hi4, n4⟩ := out _ hk3 hi3 n3
        exact ⟨_, _, hr, .inr ⟨rfl, .exit id, hi4, hl4, hd4, n4⟩⟩
      | goto t =>
        obtain ⟨hk3, hi3⟩ := hp
        obtain ⟨hr, hl4, hd4, n3, _⟩ := fin (some (.goto t)) W3 hk3
        obtain ⟨hi4, n4⟩ := out _ hk3 hi3 n3
        exact ⟨_, _, hr, .inr ⟨rfl, .goto t, hi4, hl4, hd4, n4⟩⟩
      | panic ch => exact hp.elim
      | outgrown => exact hp.elim
    · -- behind the iterator
      rintro e W2 ⟨⟨v, rfl⟩, (⟨hi, hl2, hd2, nl, _⟩ | ⟨pre, hpre, c, hi, hl2, hd2, nl⟩)⟩
      · have hS : ∀ k, k = l → w.heap.size ≤ k ∧ ¬ O W2 k := fun k e => ⟨by omega, fun e2 => nl (e ▸ e2)⟩
        exact ⟨none, _, by have := run_endLoop (P := Try.prog) hl2 (by rw [hrec]; simp); rw [hrec] at this; exact this, hdone D _ hDe (hI.abide _ _ _ _ hi (kp_putObj W2 l _) hS) ((World.putObj_heap_other (by omega)).trans hd2)⟩
      · have hS : ∀ k, k = l → w.heap.size ≤ k ∧ ¬ O W2 k := fun k e => ⟨by omega, fun e2 => nl (e ▸ e2)⟩
        refine ⟨some c, _, by have := run_endLoop (P := Try.prog) hl2 (by rw [hrec]; simp); rw [hrec] at this; exact this, ?_⟩
        exact wpIn_wide.2 (hstop D c pre _ hDe hpre ((hIx c).abide _ _ _ _ hi (kp_putObj W2 l _) hS) ((World.putObj_heap_other (by omega)).trans hd2))

/-- append of one element, in a round of a loop over a function -/
theorem wpIn_pushG {F : Fence} {n0 : Nat} {w : World} {ops : Array Oper} {rest : List Oper} {o : Oper} {a : Act} {Q : Exit → Act → World → Prop} (hgd : o.guard = none) (s x : Operand) (t e : TypeId) (size bts : Nat) (z : Value)
    (ho : o.op = .call { callee := .builtin .append, args := #[s, x], argTypes := #[t, t] })
    (hu : Try.prog.underlying t = some (.slice e)) (hinfo : (Try.prog.info? e).map (fun i => (i.zero, i.size, i.bytes)) = some (some z, size, bts)) (hz : z.cells.size = size) (hsz : 0 < size)
    (B n : Nat) (v : Value) (vs cs : List Value) (hs : a.eval s = v) (hown : w.ownsRow B e size v n vs) (hcs : cs.length = size) (hone : ∀ u ∈ cs, u.oneCell' = true)
    (hx : a.eval x = .slice (some ⟨w.heap.size, 0, none⟩) 1 1) (hlen : (n + 1) * bts ≤ 140737488355328) (hn : n + 1 ≤ 9223372036854775807) (hB : B ≤ w.heap.size)
    (h : ∀ v' w', w'.ownsRow B e size v' (n + 1) (vs ++ cs) → Grew w w' v v' → wpListIn F n0 Try.prog ops Q rest (a.put o.dst v') w') :
    wpListIn F n0 Try.prog ops Q (o :: rest) a (w.alloc (.cells cs.toArray e)) := by
  obtain ⟨v', w', hr, h1, h2⟩ := run_push o.type t e size bts z hu hinfo hz hsz B n v vs cs hown hcs hone hlen hn hB
  refine wpListIn_plain hgd fun K hK => ?_
  unfold Oper.wpIn
  refine ⟨?_, ?_⟩
  · simp [Oper.about, ho, resolve, Target.leads, Sem.run_pure]
  · rw [Oper.semAt_plain F _ _ (by rw [ho]; intro c hc'; cases hc')]
    simp only [execOp, ho, resolve, invoke, builtin, Sem.run_bind, Sem.run_pure, Result.andThen_ok, List.map_toArray, List.map_cons, List.map_nil, hs, hx, hr]
    exact hK _ _ (h v' w' h1 h2)

theorem Blk.not_loop {w : World} {b l : Nat} {t : TypeId} {cs : Array Value} {r : Loop} (h : Blk w b t cs) (hl : w.heap[l]? = some (.loop r)) : b ≠ l := by
  rintro rfl
  unfold Blk at h
  rw [h] at hl
  injection hl with hl
  cases hl

/-- the law where the loop's variable is boxed -/
theorem range_boxS {α : Type} {g : Operand} {p : Tmp} {assign body : Code} {Q : Exit → Act → World → Prop} {a : Act} {w : World} {gf : Nat} {lb : Array Value} {enc : α → Value} {xs : List α}
    (q : Tmp) (T : TypeId) (cs : α → Array Value)
    (hg : a.eval g = .func (.func gf) #[] lb) (eg : ∀ args w, (callFunc gf args).run Try.prog w = .ok (.enter gf args) w)
    (S0 : Nat → Prop) (hit : SeqItS S0 gf lb enc xs w) (hS0 : ∀ k, S0 k → k < w.heap.size)
    (O : World → Nat → Prop) (I : List α → World → Prop) (Ix : Code → List α → World → Prop) (hI : OwnJ w.heap.size O I) (hSO : ∀ s W k, I s W → O W k → ¬ S0 k) (hIx : ∀ c, OwnJ w.heap.size O (Ix c)) (h0 : I [] w)
    (hassign : ∀ (l : Nat) (x : α) (W : World) (K : Act → World → Prop), K { tmps := (a.tmps.setIfInBounds p (enc x)).setIfInBounds q (.pointer (some ⟨W.heap.size, 0, none⟩)), defers := [] } (W.alloc (.cells (cs x) T)) →
      assign.wpIn (Fence.wide.inRound l) 1 Try.prog (Exit.then K (fun _ _ _ => False)) { tmps := a.tmps.setIfInBounds p (enc x), defers := [] } W)
    (hbody : ∀ (l : Nat) (pre : List α) (x : α) (b : Nat) (W : World), I pre W → pre ++ [x] <+: xs → Blk W b T (cs x) →
      body.wpIn (Fence.wide.inRound l) 1 Try.prog (rdPost O I Ix (pre ++ [x]) W) { tmps := (a.tmps.setIfInBounds p (enc x)).setIfInBounds q (.pointer (some ⟨b, 0, none⟩)), defers := [] } W)
    (hdone : ∀ (D : Nat) (W : World), w.heap.size ≤ D → I xs W → W.heap[D]? = some (.deferred (some [])) → Q .normal { a with defers := mark D :: a.defers } W)
    (hstop : ∀ (D : Nat) (c : Code) (pre : List α) (W : World), w.heap.size ≤ D → pre <+: xs → Ix c pre W → W.heap[D]? = some (.deferred (some [])) → c.wp Try.prog Q { a with defers := mark D :: a.defers } W) :
    (Code.rangeFunc g #[p] assign body).wp Try.prog Q a w :=
  range_wpS hg eg S0 hit hS0 O I Ix hI hSO hIx h0 (fun x a' W => ∃ b, a' = { tmps := (a.tmps.setIfInBounds p (enc x)).setIfInBounds q (.pointer (some ⟨b, 0, none⟩)), defers := [] } ∧ Blk W b T (cs x))
    (fun _ _ _ _ _ _ ⟨b, hb, hB⟩ hl hk => ⟨b, hb, hB.kp hk (hB.not_loop hl)⟩)
    (fun l x W K hK => hassign l x W K (hK _ _ ((Kp.refl _ W).alloc _) ⟨_, rfl, Blk.new W _ _⟩))
    (fun l pre x _ W hi hpre ⟨b, hb, hB⟩ => hb ▸ hbody l pre x b W hi hpre hB) hdone hstop

/-- a row of the call's own lies in no block of a mark -/
theorem own_no_mark {w : World} {B n size g : Nat} {e : TypeId} {v : Value} {vs : List Value} {d : Option (List Deferred)} (h : w.ownsRow B e size v n vs) (hv : v.ownBlock = some g) (hd : w.heap[g]? = some (.deferred d)) : False := by
  rcases h.2 with ⟨rfl, _⟩ | ⟨g', cap, cur, rfl, _, hc, _⟩
  · cases hv
  · obtain rfl : g' = g := by simpa [Value.ownBlock] using hv
    rw [hc] at hd
    cases hd

end Go.Proofs.Ythbgapcplgigoaa.W

namespace Go.Proofs.Ythbgapcplgigoaa.W
open Go.RowKit Go.Proofs.Ythbgapcplgigoaa.V

def cf (x y : Int × Int) : Int := cmpV x.1 x.2 y.1 y.2
theorem lt_cf (x y : Int × Int) : ltOf cf x y = lessV x.1 x.2 y.1 y.2 := (less_cmp _ _ _ _).symm
theorem cf_swo : Sort.SWO (ltOf cf) where
  irrefl x := by rw [lt_cf]; unfold lessV; simp
  trans x y z h1 h2 := by rw [lt_cf] at *; unfold lessV at *; simp at *; omega
  ntrans x y z h1 h2 := by rw [lt_cf] at *; unfold lessV at *; simp at *; omega
theorem cf_total (x y : Int × Int) (h1 : ltOf cf x y = false) (h2 : ltOf cf y x = false) : x = y := by
  rw [lt_cf] at h1 h2
  unfold lessV at h1 h2
  obtain ⟨a, b⟩ := x
  obtain ⟨c, d⟩ := y
  simp at h1 h2
  have : a = c ∧ b = d := by omega
  rw [this.1, this.2]
/-- the list in ascending order -/
def sortV (l : List (Int × Int)) : List (Int × Int) := l.mergeSort fun x y => !(ltOf cf) y x
theorem sortV_len (l : List (Int × Int)) : (sortV l).length = l.length := List.length_mergeSort l

theorem kp_sort (w : World) (g off m : Nat) (d : Array (Int × Int)) (os : Array Obj) : Kp (fun b => b = g) w (sortWorldK vC 2 w g off m d os) := by
  refine ⟨rfl, rfl, rfl, size_sortWorldK_c vC 2 w g off m d os, fun i hi hne => ?_⟩
  unfold sortWorldK Sort.putRowK
  rw [Sort.heap_grow_old _ _ (by rw [Sort.size_putRow]; exact hi)]
  show (w.heap.modify g _)[i]? = _
  rw [Array.getElem?_modify]
  simp [Ne.symm hne]

theorem cmpLays (blk off size : Nat) (w : World) : CmpLays Try.prog 38 #[] vC 2 cf blk off size w :=
  fun _ _ _ _ x y => compare_any x.1 x.2 y.1 y.2 _

theorem sort_any (g cap : Nat) (l : List (Int × Int)) (w : World) (hH : Sort.HoldsK vC 2 w g 0 l.toArray) (hg : g < w.heap.size) (hl : l.length ≤ 1099511627776) :
    Calls Try.prog 58 #[.slice (some ⟨g, 0, none⟩) l.length cap, .func (.func 38) #[] #[]] w fun e w' => e = .returned (.tuple #[]) ∧ Kp (fun b => b = g) w w' ∧ Sort.HoldsK vC 2 w' g 0 (sortV l).toArray := by
  have eg : ∀ args w, (callFunc 38 args).run Try.prog w = .ok (.enter 38 args) w := enters_of Try.func38 (by kernel_rfl) rfl
  have hcon := AnyQ.slices_SortFunc_total Try.sortVec 2 Try.isAgg32 Try.sizeOf32 vC (fun _ => rfl) (fun x v hv => by simp [vC] at hv; rcases hv with rfl | rfl <;> rfl) cf cf_swo 38 #[] g 0 cap l.toArray w eg (cmpLays g 0 l.toArray.size w) hH hg (by simp; omega) cf_total
  refine Calls.mono hcon ?_
  rintro e w' ⟨rfl, n, os, rfl⟩
  refine ⟨rfl, kp_sort _ _ _ _ _ _, ?_⟩
  exact holdsK_sortWorldK_c vC 2 w g 0 l.toArray (sortV l).toArray n os hH hg (by simp [sortV_len])
end Go.Proofs.Ythbgapcplgigoaa.W

namespace Go.Proofs.Ythbgapcplgigoaa.W
open Go.RowKit Go.Proofs.Ythbgapcplgigoaa.V

abbrev ltV (x y : Int × Int) : Prop := lessV x.1 x.2 y.1 y.2 = true
theorem ltV_iff (x y : Int × Int) : ltV x y ↔ x.2 < y.2 ∨ x.2 = y.2 ∧ x.1 < y.1 := by
  unfold ltV lessV
  simp
theorem ltV_irrefl (x : Int × Int) : ¬ ltV x x := by rw [ltV_iff]; omega
theorem ltV_trans {x y z : Int × Int} (h : ltV x y) (k : ltV y z) : ltV x z := by rw [ltV_iff] at *; omega
theorem ltV_tri (x y : Int × Int) : ltV x y ∨ x = y ∨ ltV y x := by
  obtain ⟨a, b⟩ := x
  obtain ⟨c, d⟩ := y
  rw [ltV_iff, ltV_iff]
  by_cases h : a = c ∧ b = d
  · exact .inr (.inl (by rw [h.1, h.2]))
  · have : ¬ ((a, b) = (c, d)) := fun e => h (by injection e with e1 e2; exact ⟨e1, e2⟩)
    simp only []
    omega
/-- strictly ascending -/
abbrev Asc (l : List (Int × Int)) : Prop := l.Pairwise ltV
theorem asc_unique : ∀ {a b : List (Int × Int)}, Asc a → Asc b → (∀ x, x ∈ a ↔ x ∈ b) → a = b
  | [], [], _, _, _ => rfl
  | [], y :: s, _, _, h => by have := (h y).2 List.mem_cons_self; cases this
  | x :: r, [], _, _, h => by have := (h x).1 List.mem_cons_self; cases this
  | x :: r, y :: s, ha, hb, h => by
    obtain ⟨a1, a2⟩ := List.pairwise_cons.1 ha
    obtain ⟨b1, b2⟩ := List.pairwise_cons.1 hb
    have hxy : x = y := by
      rcases List.mem_cons.1 ((h x).1 List.mem_cons_self) with e | e
      · exact e
      · rcases List.mem_cons.1 ((h y).2 List.mem_cons_self) with f | f
        · exact f.symm
        · exact absurd (ltV_trans (a1 y f) (b1 x e)) (ltV_irrefl x)
    subst hxy
    rw [asc_unique a2 b2 fun z => ⟨fun hz => by
      rcases List.mem_cons.1 ((h z).1 (List.mem_cons_of_mem _ hz)) with e | e
      · subst e; exact absurd (a1 z hz) (ltV_irrefl z)
      · exact e, fun hz => by
      rcases List.mem_cons.1 ((h z).2 (List.mem_cons_of_mem _ hz)) with e | e
      · subst e; exact absurd (b1 z hz) (ltV_irrefl z)
      · exact e⟩]

/-- rid of equal neighbours -/
def dd : List (Int × Int) → List (Int × Int)
  | [] => []
  | [x] => [x]
  | x :: y :: r => if x = y then dd (y :: r) else x :: dd (y :: r)
theorem dd_mem : ∀ (l : List (Int × Int)) (z : Int × Int), z ∈ dd l ↔ z ∈ l
  | [], z => by simp [dd]
  | [x], z => by simp [dd]
  | x :: y :: r, z => by
    unfold dd
    have ih := dd_mem (y :: r) z
    split
    · rename_i h
      subst h
      rw [ih]
      simp
    · rw [List.mem_cons, ih, List.mem_cons (a := z) (b := x)]
/-- ascending, equal ones allowed -/
abbrev Wk (l : List (Int × Int)) : Prop := l.Pairwise fun x y => ¬ ltV y x
theorem dd_asc : ∀ (l : List (Int × Int)), Wk l → Asc (dd l)
  | [], _ => by simp [dd]
  | [x], _ => by simp [dd]
  | x :: y :: r, h => by
    obtain ⟨h1, h2⟩ := List.pairwise_cons.1 h
    have ih := dd_asc (y :: r) h2
    unfold dd
    split
    · exact ih
    · rename_i hne
      refine List.pairwise_cons.2 ⟨fun z hz => ?_, ih⟩
      have hz' := (dd_mem _ z).1 hz
      have hxy : ltV x y := by
        rcases ltV_tri x y with k | k | k
        · exact k
        · exact absurd k hne
        · exact absurd k (h1 y List.mem_cons_self)
      rcases List.mem_cons.1 hz' with rfl | hzr
      · exact hxy
      · rcases ltV_tri y z with k | k | k
        · exact ltV_trans hxy k
        · rw [← k]; exact hxy
        · exact absurd k ((List.pairwise_cons.1 h2).1 z hzr)
theorem sort_wk (l : List (Int × Int)) : Wk (sortV l) := by
  have h := List.pairwise_mergeSort (le := fun x y => !(ltOf cf) y x) (fun a b c h1 h2 => by
    simp only [lt_cf, Bool.not_eq_true', ] at *
    have e1 := mt (ltV_iff b a).2 (by simpa using h1)
    have e2 := mt (ltV_iff c b).2 (by simpa using h2)
    have : ¬ ltV c a := by rw [ltV_iff]; omega
    simpa using this) (fun a b => by
    simp only [lt_cf]
    rcases ltV_tri a b with h | h | h
    · have : ¬ ltV b a := fun k => ltV_irrefl a (ltV_trans h k)
      simp at this
      simp [this]
    · subst h
      have := ltV_irrefl a
      simp at this
      simp [this]
    · have : ¬ ltV a b := fun k => ltV_irrefl a (ltV_trans k h)
      simp at this
      simp [this]) l
  refine h.imp fun {a b} hab => ?_
  rw [lt_cf] at hab
  simpa using hab
theorem sort_mem (l : List (Int × Int)) (z : Int × Int) : z ∈ sortV l ↔ z ∈ l := List.mem_mergeSort

/-- where a vector is inserted: behind all lesser ones -/
def place (x : Int × Int) : List (Int × Int) → Nat
  | [] => 0
  | y :: r => if lessV y.1 y.2 x.1 x.2 then place x r + 1 else 0
def insU (out : List (Int × Int)) (x : Int × Int) : List (Int × Int) := if out[place x out]? = some x then out else out.take (place x out) ++ x :: out.drop (place x out)
theorem insU_cons (y : Int × Int) (r : List (Int × Int)) (x : Int × Int) : insU (y :: r) x = if ltV y x then y :: insU r x else if y = x then y :: r else x :: y :: r := by
  by_cases h : lessV y.1 y.2 x.1 x.2 = true
  · have hp : place x (y :: r) = place x r + 1 := if_pos h
    rw [if_pos h, insU, insU, hp, List.getElem?_cons_succ]
    split <;> rfl
  · have hp : place x (y :: r) = 0 := if_neg h
    rw [if_neg h, insU, hp]
    simp
theorem insU_mem (out : List (Int × Int)) (x z : Int × Int) : z ∈ insU out x ↔ z = x ∨ z ∈ out := by
  induction out with
  | nil => simp [insU, place]
  | cons y r ih =>
    rw [insU_cons]
    split
    · rw [List.mem_cons, ih, List.mem_cons]
      constructor
      · rintro (h | h | h)
        · exact .inr (.inl h)
        · exact .inl h
        · exact .inr (.inr h)
      · rintro (h | h | h)
        · exact .inr (.inl h)
        · exact .inl h
        · exact .inr (.inr h)
    · split
      · rename_i _ h
        subst h
        simp
      · simp
theorem insU_asc (out : List (Int × Int)) (x : Int × Int) (h : Asc out) : Asc (insU out x) := by
  induction out with
  | nil => simp [insU, place]
  | cons y r ih =>
    obtain ⟨h1, h2⟩ := List.pairwise_cons.1 h
    rw [insU_cons]
    split
    · rename_i hyx
      refine List.pairwise_cons.2 ⟨fun z hz => ?_, ih h2⟩
      rcases (insU_mem r x z).1 hz with rfl | hz
      · exact hyx
      · exact h1 z hz
    · split
      · exact h
      · rename_i hyx hne
        have hxy : ltV x y := by
          rcases ltV_tri x y with k | k | k
          · exact k
          · exact absurd k.symm hne
          · exact absurd k hyx
        refine List.pairwise_cons.2 ⟨fun z hz => ?_, h⟩
        rcases List.mem_cons.1 hz with rfl | hz
        · exact hxy
        · exact ltV_trans hxy (h1 z hz)
def insAll (l : List (Int × Int)) : List (Int × Int) := l.foldl insU []
theorem fold_ins (l : List (Int × Int)) : ∀ out, Asc out → Asc (l.foldl insU out) ∧ ∀ z, z ∈ l.foldl insU out ↔ z ∈ out ∨ z ∈ l := by
  induction l with
  | nil => intro out h; simp [h]
  | cons x r ih =>
    intro out h
    obtain ⟨a, b⟩ := ih (insU out x) (insU_asc out x h)
    refine ⟨a, fun z => ?_⟩
    rw [List.foldl_cons, b z, insU_mem, List.mem_cons]
    constructor
    · rintro ((h | h) | h)
      · exact .inr (.inl h)
      · exact .inl h
      · exact .inr (.inr h)
    · rintro (h | h | h)
      · exact .inl (.inr h)
      · exact .inl (.inl h)
      · exact .inr h
theorem ins_dd (l : List (Int × Int)) : insAll l = dd (sortV l) := by
  obtain ⟨h1, h2⟩ := fold_ins l [] List.Pairwise.nil
  refine asc_unique h1 (dd_asc _ (sort_wk l)) fun z => ?_
  rw [dd_mem, sort_mem]
  have := h2 z
  simpa [insAll] using this
end Go.Proofs.Ythbgapcplgigoaa.W

namespace Go.Proofs.Ythbgapcplgigoaa.W
open Go.RowKit Go.Proofs.Ythbgapcplgigoaa.V

theorem dd_two : ∀ (l : List (Int × Int)) (x y : Int × Int), dd (l ++ [x, y]) = if x = y then dd (l ++ [x]) else dd (l ++ [x]) ++ [y]
  | [], x, y => by
    show dd [x, y] = if x = y then dd [x] else dd [x] ++ [y]
    unfold dd
    split
    · rename_i h
      subst h
      rfl
    · rfl
  | [a], x, y => by
    have ih := dd_two [] x y
    show dd (a :: x :: [y]) = if x = y then dd (a :: x :: []) else dd (a :: x :: []) ++ [y]
    have e1 : dd (a :: x :: [y]) = if a = x then dd (x :: [y]) else a :: dd (x :: [y]) := rfl
    have e2 : dd (a :: x :: []) = if a = x then dd (x :: []) else a :: dd (x :: []) := rfl
    have ih : dd (x :: [y]) = if x = y then dd (x :: []) else dd (x :: []) ++ [y] := ih
    rw [e1, e2, ih]
    split <;> split <;> rfl
  | a :: b :: r, x, y => by
    have ih : dd (b :: (r ++ [x, y])) = if x = y then dd (b :: (r ++ [x])) else dd (b :: (r ++ [x])) ++ [y] := dd_two (b :: r) x y
    show dd (a :: b :: (r ++ [x, y])) = if x = y then dd (a :: b :: (r ++ [x])) else dd (a :: b :: (r ++ [x])) ++ [y]
    have e1 : dd (a :: b :: (r ++ [x, y])) = if a = b then dd (b :: (r ++ [x, y])) else a :: dd (b :: (r ++ [x, y])) := rfl
    have e2 : dd (a :: b :: (r ++ [x])) = if a = b then dd (b :: (r ++ [x])) else a :: dd (b :: (r ++ [x])) := rfl
    rw [e1, e2, ih]
    split <;> split <;> rfl
theorem dd_step {l : List (Int × Int)} {m : Nat} {x y : Int × Int} (hx : l[m]? = some x) (hy : l[m + 1]? = some y) : dd (l.take (m + 1 + 1)) = if x = y then dd (l.take (m + 1)) else dd (l.take (m + 1)) ++ [y] := by
  rw [List.take_add_one (i := m + 1), hy, List.take_add_one, hx, Option.toList_some, Option.toList_some, List.append_assoc]
  exact dd_two (l.take m) x y
theorem dd_len (l : List (Int × Int)) : (dd l).length ≤ l.length := by
  match l with
  | [] => simp [dd]
  | [x] => simp [dd]
  | x :: y :: r =>
    have ih := dd_len (y :: r)
    rw [dd]
    split
    · simp at ih ⊢; omega
    · simp at ih ⊢; omega
theorem dd_apart : ∀ (l : List (Int × Int)) (k : Nat), k ≤ l.length → (∀ i p q, i + 1 < k → l[i]? = some p → l[i + 1]? = some q → p ≠ q) → dd (l.take k) = l.take k
  | l, 0, _, _ => by simp [dd]
  | l, 1, h, _ => by
    match l, h with
    | x :: r, _ => simp [dd]
  | l, k + 2, h, ha => by
    have ih := dd_apart l (k + 1) (by omega) fun i p q hi => ha i p q (by omega)
    obtain ⟨x, hx⟩ : ∃ x, l[k]? = some x := ⟨l[k]'(by omega), List.getElem?_eq_getElem _⟩
    obtain ⟨y, hy⟩ : ∃ y, l[k + 1]? = some y := ⟨l[k + 1]'(by omega), List.getElem?_eq_getElem _⟩
    rw [dd_step hx hy, if_neg (ha k x y (by omega) hx hy), ih, List.take_add_one (i := k + 1), hy]
    rfl
end Go.Proofs.Ythbgapcplgigoaa.W

namespace Go.Proofs.Ythbgapcplgigoaa.W
open Go.RowKit Go.Proofs.Ythbgapcplgigoaa.V

/-- no two neighbours are equal -/
def Apart (l : List (Int × Int)) : Prop := ∀ i p q, l[i]? = some p → l[i + 1]? = some q → p ≠ q

end Go.Proofs.Ythbgapcplgigoaa.W

namespace Go.Proofs.Ythbgapcplgigoaa.W
open Go.RowKit Go.Proofs.Ythbgapcplgigoaa.V

theorem vec_info : ∃ i0, Try.prog.info? 32 = some i0 ∧ i0.zero = some (vV 0 0) ∧ i0.size = 2 ∧ i0.bytes = 16 :=
  ⟨(Try.prog.info? 32).get (by kernel_rfl), by kernel_rfl, by kernel_rfl, by kernel_rfl, by kernel_rfl⟩

/-- the value is nil, or it lies in a block's own cells -/
def Flat (v : Value) : Prop := v = .slice none 0 0 ∨ ∃ g o n c, v = .slice (some ⟨g, o, none⟩) n c
theorem SrcV.flat {w : World} {v : Value} {l : List (Int × Int)} (h : SrcV w v l) (hne : l ≠ []) : Flat v := by
  obtain ⟨_, A, c, rfl, _, _, hc⟩ := h
  obtain ⟨g, o, rfl, _⟩ := hc (List.length_pos_iff.2 hne)
  exact .inr ⟨g, o, _, _, rfl⟩
theorem flatV_one (l : List (Int × Int)) : ∀ u ∈ l.flatMap vC, u.oneCell' = true := by
  intro u hu
  obtain ⟨p, _, hp⟩ := List.mem_flatMap.1 hu
  simp [vC] at hp
  rcases hp with rfl | rfl <;> rfl

theorem src_holds {w : World} {g cap : Nat} {l : List (Int × Int)} {n : Nat} (h : Sort.HoldsK vC 2 w g 0 l.toArray) (hg : g < w.heap.size) (hn : l.length = n) (hc : n ≤ cap) (hm : cap ≤ maxLen) : SrcV w (.slice (some ⟨g, 0, none⟩) n cap) l := by
  subst hn
  refine ⟨flatV_len l, _, _, rfl, hc, hm, fun _ => ⟨g, 0, rfl, hg, fun j u hu => ?_⟩⟩
  have hj : j < l.length * 2 := by
    obtain ⟨h, _⟩ := List.getElem?_eq_some_iff.1 hu
    rwa [flatV_len] at h
  have hq : j / 2 < l.length := by omega
  have hx : l[j / 2]? = some (l[j / 2]'hq) := List.getElem?_eq_getElem hq
  obtain ⟨f1, f2⟩ := flatV_at l (j / 2) _ hx
  have h1 := h j (by rw [Sort.size_flatK]; simpa using hj)
  rw [Sort.get_flatK _ _ _ _ (by simpa using hj), show (l.toArray)[j / 2]! = l[j / 2]'hq by simp [hq]] at h1
  refine h1.1.trans ?_
  rcases Nat.mod_two_eq_zero_or_one j with h | h
  · rw [h]
    rw [show j / 2 * 2 = j by omega, hu] at f1
    exact f1.symm
  · rw [h]
    rw [show j / 2 * 2 + 1 = j by omega, hu] at f2
    exact f2.symm

end Go.Proofs.Ythbgapcplgigoaa.W
