/-
  What HeapIterates has made ahead of its loops, and that it stays as it is while blocks behind change. No condition.
-/
import Derived.Test.YtogfcenebbipeaaHColl
import Derived.Test.YtogfcenebbipeaaHRef2
namespace Go.Proofs.Ytogfcenebbipeaa.W
open Go.RowKit Go.Shelf Go.Proofs.Ytogfcenebbipeaa.Pl

/-- the boxed number, the heap, the list that is wanted: all of blocks below C7 -/
structure IEnv (w : World) (st C3 C5 C7 H p : Nat) (vh : Value) (q : List Ent) (U : Value) (want : List (Int × Int)) (W : World) : Prop where
  nw : Nw w W
  hp : HpI 0 W H vh q p
  b3 : Blk W C3 5 #[.int .u8 st]
  b5 : Blk W C5 24 #[.pointer (some ⟨H, 0, none⟩)]
  o : SrcI W U want
  ft : ∀ k, Ft H vh k → w.heap.size ≤ k ∧ k < C7
  l3 : C3 < C7
  l5 : C5 < C7
  lw : w.heap.size ≤ C7
  lo : ∀ g, U.ownBlock = some g → g < C7
  ne3 : ∀ k, Ft H vh k → k ≠ C3 ∧ k ≠ C5 ∧ U.ownBlock ≠ some k
theorem IEnv.kp {S : Nat → Prop} {w W W' : World} {st C3 C5 C7 H p : Nat} {vh U : Value} {q : List Ent} {want : List (Int × Int)} (h : IEnv w st C3 C5 C7 H p vh q U want W) (hk : Kp S W W') (hS : ∀ k, S k → C7 ≤ k) : IEnv w st C3 C5 C7 H p vh q U want W' :=
  ⟨h.nw.trans hk fun i hi e => by have := hS i e; have := h.lw; omega, h.hp.kp hk fun k e e2 => by have := (h.ft k e).2; have := hS k e2; omega,
    h.b3.kp hk fun e => by have := hS _ e; have := h.l3; omega, h.b5.kp hk fun e => by have := hS _ e; have := h.l5; omega,
    Src.kp h.o hk fun g _ e e2 => by have := h.lo g e; have := hS g e2; omega, h.ft, h.l3, h.l5, h.lw, h.lo, h.ne3⟩
theorem IEnv.nw_ {w W W' : World} {st C3 C5 C7 H p : Nat} {vh U : Value} {q : List Ent} {want : List (Int × Int)} (h : IEnv w st C3 C5 C7 H p vh q U want W) (hk : Nw W W') : IEnv w st C3 C5 C7 H p vh q U want W' := h.kp hk fun _ e => e.elim

/-- the collected list is pre', which P says of the list of what came -/
theorem coll_own' {β : Type} (w : World) (C : Nat) (P : β → List (Int × Int) → Prop) : OwnJ w.heap.size (OwnC C) (fun (s : β) W => ∃ pre', CollI w C pre' W ∧ P s pre') :=
  ⟨fun _ _ _ _ ⟨l, h, e⟩ hk hS => ⟨l, (coll_own w C).abide l _ _ _ h hk hS, e⟩, fun _ _ _ _ ⟨l, h, _⟩ hk hS => (coll_own w C).keep l _ _ _ h hk hS, fun _ _ _ ⟨l, h, _⟩ e => (coll_own w C).lt l _ _ h e⟩

/-- the law of a loop whose body may leave it by 'break': behind it J holds in either case -/
theorem range_brk {α : Type} {g : Operand} {p : Tmp} {assign body : Code} {K : Act → World → Prop} {Q : Exit → Act → World → Prop} {a : Act} {w : World} {gf : Nat} {lb : Array Value} {enc : α → Value} {xs : List α}
    (id : Nat) (q : Tmp) (T : TypeId) (cs : α → Array Value)
    (hg : a.eval g = .func (.func gf) #[] lb) (eg : ∀ args w, (callFunc gf args).run Try.prog w = .ok (.enter gf args) w)
    (hit : SeqIt gf lb enc xs w)
    (O : World → Nat → Prop) (I X : List α → World → Prop) (J : World → Prop) (hI : OwnJ w.heap.size O I) (hX : OwnJ w.heap.size O X) (h0 : I [] w)
    (hIJ : ∀ W, I xs W → J W) (hXJ : ∀ pre W, pre <+: xs → X pre W → J W)
    (hassign : ∀ (l : Nat) (x : α) (W : World) (K : Act → World → Prop), K { tmps := (a.tmps.setIfInBounds p (enc x)).setIfInBounds q (.pointer (some ⟨W.heap.size, 0, none⟩)), defers := [] } (W.alloc (.cells (cs x) T)) →
      assign.wpIn (Fence.wide.inRound l) 1 Try.prog (Exit.then K (fun _ _ _ => False)) { tmps := a.tmps.setIfInBounds p (enc x), defers := [] } W)
    (hbody : ∀ (l : Nat) (pre : List α) (x : α) (b : Nat) (W : World), I pre W → pre ++ [x] <+: xs → Blk W b T (cs x) →
      body.wpIn (Fence.wide.inRound l) 1 Try.prog (rdPost O I (fun c s W => c = .exit id ∧ X s W) (pre ++ [x]) W) { tmps := (a.tmps.setIfInBounds p (enc x)).setIfInBounds q (.pointer (some ⟨b, 0, none⟩)), defers := [] } W)
    (hdone : ∀ (D : Nat) (W : World), w.heap.size ≤ D → J W → W.heap[D]? = some (.deferred (some [])) → K { a with defers := mark D :: a.defers } W) :
    (Code.rangeFunc g #[p] assign body).wp Try.prog (Exit.inBlock id (Exit.then K Q)) a w := by
  refine range_box q T cs hg eg hit O I (fun c s W => c = .exit id ∧ X s W) hI (fun c => ?_) h0 hassign hbody (fun D W h1 h2 h3 => hdone D W h1 (hIJ W h2) h3) ?_
  · exact ⟨fun s W S W' ⟨e, h⟩ hk hS => ⟨e, hX.abide s W S W' h hk hS⟩, fun s W S W' ⟨_, h⟩ hk hS => hX.keep s W S W' h hk hS, fun s W k ⟨_, h⟩ e => hX.lt s W k h e⟩
  · rintro D c pre W h1 hp ⟨rfl, h⟩ h3
    refine wp_exit ?_
    show Exit.inBlock id (Exit.then K Q) (.exit id) _ _
    simp only [Exit.inBlock, if_true]
    exact hdone D W h1 (hXJ pre W hp h) h3

/-- four cells, and a call that makes memory alone -/
theorem keep4 {w w' : World} {a b c d : Addr} {u v x y : Value} (h : w.cell? a = some u ∧ w.cell? b = some v ∧ w.cell? c = some x ∧ w.cell? d = some y) (hk : Nw w w') : w'.cell? a = some u ∧ w'.cell? b = some v ∧ w'.cell? c = some x ∧ w'.cell? d = some y :=
  ⟨(hk.cell (World.block_lt_of_cell? _ _ h.1) id).trans h.1, (hk.cell (World.block_lt_of_cell? _ _ h.2.1) id).trans h.2.1, (hk.cell (World.block_lt_of_cell? _ _ h.2.2.1) id).trans h.2.2.1, (hk.cell (World.block_lt_of_cell? _ _ h.2.2.2) id).trans h.2.2.2⟩
end Go.Proofs.Ytogfcenebbipeaa.W
