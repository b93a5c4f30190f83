/-
  The statement 'for x := range seq { .. }' over an iterator that keeps state of its own in cells: a law of the walk. The loop's body owns blocks that a word O tells of every world; whatever the iterator changes is none of them, and the body changes none of the iterator's. Conditions: the iterator's contract, and the caller's walks.
-/
import Derived.Test.YtogfcenebbipeaaHB
import Derived.RangeFuncNested
import Derived.RangeFuncBound
import Derived.RangeFuncCalls
import Derived.RangeFuncLeaves
namespace Go.Proofs.Ytogfcenebbipeaa.W
open Go.RowKit

/-- a round changes blocks of the body's own and new ones; what is its own behind it was its own or is new -/
structure Rd (O : World → Nat → Prop) (W W' : World) : Prop where
  kp : Kp (O W) W W'
  own : ∀ k, O W' k → O W k ∨ W.heap.size ≤ k

/-- an invariant of the body: it abides whatever changes none of its own blocks, and none below n -/
structure OwnJ {β : Type} (n : Nat) (O : World → Nat → Prop) (J : β → World → Prop) : Prop where
  abide : ∀ s W S W', J s W → Kp S W W' → (∀ k, S k → n ≤ k ∧ ¬ O W k) → J s W'
  keep : ∀ s W S W', J s W → Kp S W W' → (∀ k, S k → n ≤ k ∧ ¬ O W k) → ∀ k, O W' k → O W k
  lt : ∀ s W k, J s W → O W k → k < W.heap.size

/-- an iterator's contract: it hands the elements xs to yield, in their order, until a round says 'no more' -/
def SeqIt {α : Type} (f : FuncId) (lb : Array Value) (enc : α → Value) (xs : List α) (w : World) : Prop :=
  ∀ (l : Nat) (O : World → Nat → Prop) (J Jx : List α → World → Prop) (W : World), Nw w W → OwnJ w.heap.size O J →
    (∀ pre x W1, J pre W1 → pre ++ [x] <+: xs → YieldAt Fence.wide 1 Try.prog l #[enc x] W1 fun e W' =>
      (e = .returned (.bool true) ∧ J (pre ++ [x]) W' ∧ Rd O W1 W') ∨ (e = .returned (.bool false) ∧ Jx (pre ++ [x]) W')) →
    J [] W →
    CallsIn Fence.wide 2 Try.prog f (#[.func (.yield l) #[] #[]] ++ lb) W fun e W' => (∃ v, e = .returned v) ∧ (J xs W' ∨ ∃ pre, pre <+: xs ∧ Jx pre W')

/-- how a body may be left -/
def rdPost {α : Type} (O : World → Nat → Prop) (I : List α → World → Prop) (Ix : Code → List α → World → Prop) (xs : List α) (W : World) : Exit → Act → World → Prop
  | .normal, _, W' => Rd O W W' ∧ I xs W'
  | .ret, _, W' => Rd O W W' ∧ Ix .ret xs W'
  | .exit id, _, W' => Rd O W W' ∧ Ix (.exit id) xs W'
  | .goto t, _, W' => Rd O W W' ∧ Ix (.goto t) xs W'
  | .panic _, _, _ => False
  | .outgrown, _, _ => False

theorem kp_putObj (W : World) (l : Nat) (o : Obj) : Kp (fun k => k = l) W (W.putObj l o) :=
  ⟨rfl, rfl, rfl, by simp, fun k _ hn => World.putObj_heap_other (fun e => hn (by first | exact e | exact e.symm))⟩

/-- the mark that a range over a function leaves among the deferred calls -/
def mark (D : Nat) : Deferred := { target := .collected D, args := #[] }

theorem range_wp {α : Type} {g : Operand} {p : Tmp} {assign body : Code} {Q : Exit → Act → World → Prop} {a : Act} {w : World} {gf : Nat} {lb : Array Value} {enc : α → Value} {xs : List α}
    (hg : a.eval g = .func (.func gf) #[] lb) (eg : ∀ args w, (callFunc gf args).run Try.prog w = .ok (.enter gf args) w)
    (hit : SeqIt gf lb enc xs w)
    (O : World → Nat → Prop) (I : List α → World → Prop) (Ix : Code → List α → World → Prop) (hI : OwnJ w.heap.size O I) (hIx : ∀ c, OwnJ w.heap.size O (Ix c)) (h0 : I [] w)
    (Ax : α → Act → World → Prop) (hAx : ∀ x a' W W' l r, Ax x a' W → W.heap[l]? = some (.loop r) → Kp (fun k => k = l) W W' → Ax x a' W')
    (hassign : ∀ (l : Nat) (x : α) (W : World) (K : Act → World → Prop), (∀ a' W', Nw W W' → Ax x a' W' → K a' W') →
      assign.wpIn (Fence.wide.inRound l) 1 Try.prog (Exit.then K (fun _ _ _ => False)) { tmps := a.tmps.setIfInBounds p (enc x), defers := [] } W)
    (hbody : ∀ (l : Nat) (pre : List α) (x : α) (a' : Act) (W : World), I pre W → pre ++ [x] <+: xs → Ax x a' W → body.wpIn (Fence.wide.inRound l) 1 Try.prog (rdPost O I Ix (pre ++ [x]) W) a' W)
    (hdone : ∀ (D : Nat) (W : World), w.heap.size ≤ D → I xs W → W.heap[D]? = some (.deferred (some [])) → Q .normal { a with defers := mark D :: a.defers } W)
    (hstop : ∀ (D : Nat) (c : Code) (pre : List α) (W : World), w.heap.size ≤ D → pre <+: xs → Ix c pre W → W.heap[D]? = some (.deferred (some [])) → c.wp Try.prog Q { a with defers := mark D :: a.defers } W) :
    (Code.rangeFunc g #[p] assign body).wp Try.prog Q a w := by
  refine (wpIn_wide (n := 3)).1 ?_
  refine wpIn_rangeFunc ?_
  intro fn hfn
  have hro : Fence.wide.round = none := rfl
  rw [hro]
  obtain ⟨rec, hrec⟩ : ∃ rec : LoopState → Option Code → Loop, rec = fun st pe => { state := st, pending := pe, fn, tmps := a.tmps, params := #[p], assign, body, defers := w.heap.size } := ⟨_, rfl⟩
  obtain ⟨W1, hW1⟩ : ∃ W1, (w.alloc (.deferred (some []))).alloc (.loop (rec .ready none)) = W1 := ⟨_, rfl⟩
  have hL1 : W1.heap[w.heap.size + 1]? = some (.loop (rec .ready none)) := by
    rw [← hW1]; have := World.alloc_heap_new (w.alloc (.deferred (some []))) (.loop (rec .ready none)); rwa [World.size_alloc] at this
  have hK1 : W1.heap[w.heap.size]? = some (.deferred (some [])) := by
    rw [← hW1]; exact (Below.heap_alloc _ _ _ (by simp)).trans (World.alloc_heap_new w _)
  have hnw1 : Nw w W1 := by rw [← hW1]; exact ((Kp.refl _ w).alloc _).alloc _
  have hI1 : I [] W1 := hI.abide _ _ _ _ h0 hnw1 (fun _ e => e.elim)
  have hO1 : ∀ k, O W1 k → k < w.heap.size := fun k e => hI.lt _ _ k h0 (hI.keep _ _ _ _ h0 hnw1 (fun _ e => e.elim) k e)
  obtain ⟨l, hl⟩ : ∃ l, w.heap.size + 1 = l := ⟨_, rfl⟩
  obtain ⟨D, hD⟩ : ∃ D, w.heap.size = D := ⟨_, rfl⟩
  have hlD : l ≠ D := by omega
  have hle : w.heap.size ≤ l := by omega
  have hDe : w.heap.size ≤ D := by omega
  rw [hl] at hL1
  rw [hD] at hK1
  refine ⟨l, [mark D], W1, { target := .fn (.func gf) lb, args := #[.func (.yield l) #[] #[]] }, W1, gf,
    #[.func (.yield l) #[] #[]] ++ lb, W1, ?_, ?_, ?_, ?_, fun e => by simp [Fence.wide] at e, ?_⟩
  · rw [← hW1, hrec, ← hl, ← hD]; exact run_enterLoop_outer _ _ _ _ _
  · simp only [resolve, hg]
    simp [go_sem]
  · intro f' hf'; trivial
  · simp [invoke, go_sem, eg]
  · -- the iterator's contract, at the caller's invariant with the two blocks of book-keeping
    have hJ : OwnJ (β := List α) w.heap.size (fun W k => O W k ∨ k = l ∨ k = D) (fun pre W => I pre W ∧ W.heap[l]? = some (.loop (rec .ready none)) ∧ W.heap[D]? = some (.deferred (some [])) ∧ ¬ O W l ∧ ¬ O W D) := by
      refine ⟨?_, ?_, ?_⟩
      · rintro s W S W' ⟨hi, hl2, hd2, nl, nd⟩ hk hS
        have hS' : ∀ k, S k → w.heap.size ≤ k ∧ ¬ O W k := fun k e => ⟨(hS k e).1, fun e2 => (hS k e).2 (.inl e2)⟩
        exact ⟨hI.abide _ _ _ _ hi hk hS', (hk.block l (Array.getElem?_eq_some_iff.1 hl2).1 (fun e => (hS l e).2 (.inr (.inl rfl)))).trans hl2, (hk.block D (Array.getElem?_eq_some_iff.1 hd2).1 (fun e => (hS D e).2 (.inr (.inr rfl)))).trans hd2,
          fun e => nl (hI.keep _ _ _ _ hi hk hS' l e), fun e => nd (hI.keep _ _ _ _ hi hk hS' D e)⟩
      · rintro s W S W' ⟨hi, _⟩ hk hS k e
        exact e.imp (fun e => hI.keep _ _ _ _ hi hk (fun k e => ⟨(hS k e).1, fun e2 => (hS k e).2 (.inl e2)⟩) k e) id
      · rintro s W k ⟨hi, hl2, hd2, _⟩ (e | rfl | rfl)
        · exact hI.lt _ _ _ hi e
        · exact (Array.getElem?_eq_some_iff.1 hl2).1
        · exact (Array.getElem?_eq_some_iff.1 hd2).1
    refine (hit l (fun W k => O W k ∨ k = l ∨ k = D) (fun pre W => I pre W ∧ W.heap[l]? = some (.loop (rec .ready none)) ∧ W.heap[D]? = some (.deferred (some [])) ∧ ¬ O W l ∧ ¬ O W D)
      (fun pre W => ∃ c, Ix c pre W ∧ W.heap[l]? = some (.loop (rec .done (some c))) ∧ W.heap[D]? = some (.deferred (some [])) ∧ ¬ O W l)
      W1 hnw1 hJ ?_ ⟨hI1, hL1, hK1, fun e => absurd (hO1 l e) (by omega), fun e => absurd (hO1 D e) (by omega)⟩).mono ?_
    · -- one round
      rintro pre x W ⟨hi, hl2, hd2, nl, nd⟩ hpre
      have hlt : l < W.heap.size := (Array.getElem?_eq_some_iff.1 hl2).1
      have hdt : D < W.heap.size := (Array.getElem?_eq_some_iff.1 hd2).1
      have hy := run_yield (P := Try.prog) (args := #[enc x]) hl2 (by rw [hrec]; rfl)
      rw [hrec] at hy
      dsimp only at hy
      have hz : (#[p].zip #[enc x]).foldl (fun (tmps : Array Value) ((t, a) : Tmp × Value) => tmps.setIfInBounds t a) a.tmps = a.tmps.setIfInBounds p (enc x) := by simp
      rw [hz] at hy
      refine ⟨fn, _, assign, body, hy, roundIn_of_wpIn hfn (hassign _ x W _ ?_)⟩
      clear hy
      intro a' Wa hka hax
      have hia := hI.abide _ _ _ _ hi hka (fun _ e => e.elim)
      have hOa := hI.keep _ _ _ _ hi hka (fun _ e => e.elim)
      have hla := (hka.block l hlt (fun e => e)).trans hl2
      have hda := (hka.block D hdt (fun e => e)).trans hd2
      refine ⟨_, run_beginRound hla (by rw [hrec]), ?_⟩
      have hkb := kp_putObj Wa l (.loop { rec .ready none with state := .busy })
      have hSb : ∀ k, k = l → w.heap.size ≤ k ∧ ¬ O Wa k := fun k e => ⟨by omega, fun e2 => nl (hOa l (e ▸ e2))⟩
      have hib := hI.abide _ _ _ _ hia hkb hSb
      have hOb := hI.keep _ _ _ _ hia hkb hSb
      have haxb := hAx x a' _ _ l _ hax hla hkb
      have hlb : (Wa.putObj l (.loop { rec .ready none with state := .busy })).heap[l]? = some (.loop { rec .ready none with state := .busy }) := World.putObj_heap_same (Array.getElem?_eq_some_iff.1 hla).1
      have hdb : (Wa.putObj l (.loop { rec .ready none with state := .busy })).heap[D]? = some (.deferred (some [])) := (World.putObj_heap_other (by omega)).trans hda
      obtain ⟨Wb, hWb⟩ : ∃ Wb, Wa.putObj l (.loop { rec .ready none with state := .busy }) = Wb := ⟨_, rfl⟩
      rw [hWb] at hkb hib hOb haxb hlb hdb ⊢
      have nlb : ¬ O Wb l := fun e => nl (hOa l (hOb l e))
      have ndb : ¬ O Wb D := fun e => nd (hOa D (hOb D e))
      have hltb : l < Wb.heap.size := (Array.getElem?_eq_some_iff.1 hlb).1
      have hdtb : D < Wb.heap.size := (Array.getElem?_eq_some_iff.1 hdb).1
      refine wpIn_mono (hbody _ pre x a' Wb hib hpre haxb) ?_
      have fin : ∀ (jump : Option Code) (W3 : World), Rd O Wb W3 →
          (Instr.endRound l jump).run Try.prog W3 = .ok (.bool jump.isNone) (W3.putObj l (.loop (rec (if jump.isNone then .ready else .done) jump))) ∧
          (W3.putObj l (.loop (rec (if jump.isNone then .ready else .done) jump))).heap[l]? = some (.loop (rec (if jump.isNone then .ready else .done) jump)) ∧
          (W3.putObj l (.loop (rec (if jump.isNone then .ready else .done) jump))).heap[D]? = some (.deferred (some [])) ∧ ¬ O W3 l ∧ ¬ O W3 D := fun jump W3 hk3 => by
        have hl3 := (hk3.kp.block l hltb nlb).trans hlb
        have hd3 := (hk3.kp.block D hdtb ndb).trans hdb
        have := run_endRound (P := Try.prog) jump hl3
        rw [hrec] at this ⊢
        exact ⟨this, World.putObj_heap_same (Array.getElem?_eq_some_iff.1 hl3).1, (World.putObj_heap_other (by omega)).trans hd3,
          fun e => (hk3.own l e).elim nlb (fun e => by omega), fun e => (hk3.own D e).elim ndb (fun e => by omega)⟩
      have out : ∀ {c : Code} {W3 : World} (o : Obj), Rd O Wb W3 → Ix c (pre ++ [x]) W3 → ¬ O W3 l → Ix c (pre ++ [x]) (W3.putObj l o) ∧ ¬ O (W3.putObj l o) l := fun {c W3} o _ hi3 n3 =>
        have hS : ∀ k, k = l → w.heap.size ≤ k ∧ ¬ O W3 k := fun k e => ⟨by omega, fun e2 => n3 (e ▸ e2)⟩
        ⟨(hIx c).abide _ _ _ _ hi3 (kp_putObj W3 l o) hS, fun e => n3 ((hIx c).keep _ _ _ _ hi3 (kp_putObj W3 l o) hS l e)⟩
      rintro e a3 W3 hp
      cases e with
      | normal =>
        obtain ⟨hk3, hi3⟩ := hp
        obtain ⟨hr, hl4, hd4, n3, m3⟩ := fin none W3 hk3
        refine ⟨_, _, hr, .inl ⟨rfl, ?_⟩⟩
        have hS : ∀ k, k = l → w.heap.size ≤ k ∧ ¬ O W3 k := fun k e => ⟨by omega, fun e2 => n3 (e ▸ e2)⟩
        have hk4 := kp_putObj W3 l (.loop (rec (if (none : Option Code).isNone then .ready else .done) none))
        have hi4 := hI.abide _ _ _ _ hi3 hk4 hS
        have hO4 := hI.keep _ _ _ _ hi3 hk4 hS
        refine ⟨⟨hi4, hl4, hd4, fun e => n3 (hO4 l e), fun e => m3 (hO4 D e)⟩, ?_, ?_⟩
        · have hk13 : Kp (fun k => O W k ∨ k = l ∨ k = D) W W3 := ((hka.kp (S := fun k => O W k ∨ k = l ∨ k = D)).trans hkb (fun i _ e => .inr (.inl e))).trans hk3.kp (fun i _ e => .inl (hOa i (hOb i e)))
          exact hk13.trans hk4 (fun i _ e => .inr (.inl e))
        · rintro k (e | e)
          · rcases hk3.own k (hO4 k e) with e | e
            · exact .inl (.inl (hOa k (hOb k e)))
            · exact .inr (Nat.le_trans hka.size (Nat.le_trans hkb.size e))
          · exact .inl (.inr e)
      | ret =>
        obtain ⟨hk3, hi3⟩ := hp
        obtain ⟨hr, hl4, hd4, n3, _⟩ := fin (some .ret) W3 hk3
        obtain ⟨hi4, n4⟩ := out _ hk3 hi3 n3
        exact ⟨_, _, hr, .inr ⟨rfl, .ret, hi4, hl4, hd4, n4⟩⟩
      | exit id =>
        obtain ⟨hk3, hi3⟩ := hp
        obtain ⟨hr, hl4, hd4, n3, _⟩ := fin (some (.exit id)) W3 hk3
        obtain ⟨hi4, n4⟩ := out _ hk3 hi3 n3
        exact ⟨_, _, hr, .inr ⟨rfl, .exit id, hi4, hl4, hd4, n4⟩⟩
      | goto t =>
        obtain ⟨hk3, hi3⟩ := hp
        obtain ⟨hr, hl4, hd4, n3, _⟩ := fin (some (.goto t)) W3 hk3
        obtain ⟨hi4, n4⟩ := out _ hk3 hi3 n3
        exact ⟨_, _, hr, .inr ⟨rfl, .goto t, hi4, hl4, hd4, n4⟩⟩
      | panic ch => exact hp.elim
      | outgrown => exact hp.elim
    · -- behind the iterator
      rintro e W2 ⟨⟨v, rfl⟩, (⟨hi, hl2, hd2, nl, _⟩ | ⟨pre, hpre, c, hi, hl2, hd2, nl⟩)⟩
      · have hS : ∀ k, k = l → w.heap.size ≤ k ∧ ¬ O W2 k := fun k e => ⟨by omega, fun e2 => nl (e ▸ e2)⟩
        exact ⟨none, _, by have := run_endLoop (P := Try.prog) hl2 (by rw [hrec]; simp); rw [hrec] at this; exact this, hdone D _ hDe (hI.abide _ _ _ _ hi (kp_putObj W2 l _) hS) ((World.putObj_heap_other (by omega)).trans hd2)⟩
      · have hS : ∀ k, k = l → w.heap.size ≤ k ∧ ¬ O W2 k := fun k e => ⟨by omega, fun e2 => nl (e ▸ e2)⟩
        refine ⟨some c, _, by have := run_endLoop (P := Try.prog) hl2 (by rw [hrec]; simp); rw [hrec] at this; exact this, ?_⟩
        exact wpIn_wide.2 (hstop D c pre _ hDe hpre ((hIx c).abide _ _ _ _ hi (kp_putObj W2 l _) hS) ((World.putObj_heap_other (by omega)).trans hd2))

/-- a function with ranges over functions, entered at the fence that asks nothing -/
theorem enter_marks {f : FuncId} {fn : Func} {c : Code} {args : Array Value} {w : World} {R : Ending → World → Prop} (hf : Try.prog.funcs[f]? = some fn) (hb : fn.body = some c)
    (h : c.wp Try.prog (bodyPostM Fence.wide 3 Try.prog fn R) { tmps := args ++ Array.replicate (fn.ntmps - args.size) undef, defers := [] } w) : Calls Try.prog f args w R :=
  (callsIn_wide (n := 3)).1 (callsIn_of_wp_marks hf hb trivial (wpIn_wide.2 h) rfl)
/-- it leaves with the marks of its loops among its deferred calls -/
theorem leaves_marks {fn : Func} {tmps : Array Value} {R : Ending → World → Prop} {r : Tmp} (hres : fn.results = #[.tmp r]) : ∀ (Ds : List Nat) (W : World), Ds.Nodup → (∀ D ∈ Ds, W.heap[D]? = some (.deferred (some []))) →
    (∀ W', Kp (fun k => k ∈ Ds) W W' → R (.returned (tmps.getD r undef)) W') → LeavesInM Fence.wide 3 Try.prog fn tmps R (Ds.map mark) .returning W
  | [], W, _, _, h => ⟨_, results_tmp hres _ _ _, h W (Kp.refl _ _)⟩
  | D :: Ds, W, hn, hd, h => by
    have hn' := List.nodup_cons.1 hn
    refine ⟨by simp, .inl ⟨D, _, rfl, run_takeDeferred (hd D (by simp)), leaves_marks hres Ds _ hn'.2 (fun D' hD' => ?_) (fun W' hk => ?_)⟩⟩
    · exact (World.putObj_heap_other (fun e => hn'.1 (by first | exact e ▸ hD' | exact e.symm ▸ hD'))).trans (hd D' (by simp [hD']))
    · exact h W' (((kp_putObj W D _).mono (T := fun k => k ∈ D :: Ds) fun _ _ e => by simp [e]).trans hk (fun _ _ e => by simp [e]))
end Go.Proofs.Ytogfcenebbipeaa.W
