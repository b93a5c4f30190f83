/-
  A loop over an iterator that collects what comes in a list of its own, which lies in a box: what the loop owns, what it keeps. No condition.
-/
import Derived.Test.YtogfcenebbipeaaHAll
import Derived.Test.YtogfcenebbipeaaHIh
namespace Go.Proofs.Ytogfcenebbipeaa.W
open Go.RowKit Go.Proofs.Ytogfcenebbipeaa.Pl

/-- append of one element, in a round of a loop over a function -/
theorem wpIn_pushG {F : Fence} {n0 : Nat} {w : World} {ops : Array Oper} {rest : List Oper} {o : Oper} {a : Act} {Q : Exit → Act → World → Prop} (hgd : o.guard = none) (s x : Operand) (t e : TypeId) (size bts : Nat) (z : Value)
    (ho : o.op = .call { callee := .builtin .append, args := #[s, x], argTypes := #[t, t] })
    (hu : Try.prog.underlying t = some (.slice e)) (hinfo : (Try.prog.info? e).map (fun i => (i.zero, i.size, i.bytes)) = some (some z, size, bts)) (hz : z.cells.size = size) (hsz : 0 < size)
    (B n : Nat) (v : Value) (vs cs : List Value) (hs : a.eval s = v) (hown : w.ownsRow B e size v n vs) (hcs : cs.length = size) (hone : ∀ u ∈ cs, u.oneCell' = true)
    (hx : a.eval x = .slice (some ⟨w.heap.size, 0, none⟩) 1 1) (hlen : (n + 1) * bts ≤ 140737488355328) (hn : n + 1 ≤ 9223372036854775807) (hB : B ≤ w.heap.size)
    (h : ∀ v' w', w'.ownsRow B e size v' (n + 1) (vs ++ cs) → Grew w w' v v' → wpListIn F n0 Try.prog ops Q rest (a.put o.dst v') w') :
    wpListIn F n0 Try.prog ops Q (o :: rest) a (w.alloc (.cells cs.toArray e)) := by
  obtain ⟨v', w', hr, h1, h2⟩ := run_push o.type t e size bts z hu hinfo hz hsz B n v vs cs hown hcs hone hlen hn hB
  refine wpListIn_plain hgd fun K hK => ?_
  unfold Oper.wpIn
  refine ⟨?_, ?_⟩
  · simp [Oper.about, ho, resolve, Target.leads, Sem.run_pure]
  · rw [Oper.semAt_plain F _ _ (by rw [ho]; intro c hc'; cases hc')]
    simp only [execOp, ho, resolve, invoke, builtin, Sem.run_bind, Sem.run_pure, Result.andThen_ok, List.map_toArray, List.map_cons, List.map_nil, hs, hx, hr]
    exact hK _ _ (h v' w' h1 h2)

theorem Blk.not_loop {w : World} {b l : Nat} {t : TypeId} {cs : Array Value} {r : Loop} (h : Blk w b t cs) (hl : w.heap[l]? = some (.loop r)) : b ≠ l := by
  rintro rfl
  unfold Blk at h
  rw [h] at hl
  injection hl with hl
  cases hl

/-- the law where the loop's variable is boxed -/
theorem range_box {α : Type} {g : Operand} {p : Tmp} {assign body : Code} {Q : Exit → Act → World → Prop} {a : Act} {w : World} {gf : Nat} {lb : Array Value} {enc : α → Value} {xs : List α}
    (q : Tmp) (T : TypeId) (cs : α → Array Value)
    (hg : a.eval g = .func (.func gf) #[] lb) (eg : ∀ args w, (callFunc gf args).run Try.prog w = .ok (.enter gf args) w)
    (hit : SeqIt gf lb enc xs w)
    (O : World → Nat → Prop) (I : List α → World → Prop) (Ix : Code → List α → World → Prop) (hI : OwnJ w.heap.size O I) (hIx : ∀ c, OwnJ w.heap.size O (Ix c)) (h0 : I [] w)
    (hassign : ∀ (l : Nat) (x : α) (W : World) (K : Act → World → Prop), K { tmps := (a.tmps.setIfInBounds p (enc x)).setIfInBounds q (.pointer (some ⟨W.heap.size, 0, none⟩)), defers := [] } (W.alloc (.cells (cs x) T)) →
      assign.wpIn (Fence.wide.inRound l) 1 Try.prog (Exit.then K (fun _ _ _ => False)) { tmps := a.tmps.setIfInBounds p (enc x), defers := [] } W)
    (hbody : ∀ (l : Nat) (pre : List α) (x : α) (b : Nat) (W : World), I pre W → pre ++ [x] <+: xs → Blk W b T (cs x) →
      body.wpIn (Fence.wide.inRound l) 1 Try.prog (rdPost O I Ix (pre ++ [x]) W) { tmps := (a.tmps.setIfInBounds p (enc x)).setIfInBounds q (.pointer (some ⟨b, 0, none⟩)), defers := [] } W)
    (hdone : ∀ (D : Nat) (W : World), w.heap.size ≤ D → I xs W → W.heap[D]? = some (.deferred (some [])) → Q .normal { a with defers := mark D :: a.defers } W)
    (hstop : ∀ (D : Nat) (c : Code) (pre : List α) (W : World), w.heap.size ≤ D → pre <+: xs → Ix c pre W → W.heap[D]? = some (.deferred (some [])) → c.wp Try.prog Q { a with defers := mark D :: a.defers } W) :
    (Code.rangeFunc g #[p] assign body).wp Try.prog Q a w :=
  range_wp hg eg hit O I Ix hI hIx h0 (fun x a' W => ∃ b, a' = { tmps := (a.tmps.setIfInBounds p (enc x)).setIfInBounds q (.pointer (some ⟨b, 0, none⟩)), defers := [] } ∧ Blk W b T (cs x))
    (fun _ _ _ _ _ _ ⟨b, hb, hB⟩ hl hk => ⟨b, hb, hB.kp hk (hB.not_loop hl)⟩)
    (fun l x W K hK => hassign l x W K (hK _ _ ((Kp.refl _ W).alloc _) ⟨_, rfl, Blk.new W _ _⟩))
    (fun l pre x _ W hi hpre ⟨b, hb, hB⟩ => hb ▸ hbody l pre x b W hi hpre hB) hdone hstop

/-- what the loop owns: the box of its list, and the list's row -/
def OwnC (C : Nat) (W : World) (k : Nat) : Prop := k = C ∨ ∃ v, Blk W C 29 #[v] ∧ v.ownBlock = some k
theorem Blk.same {W : World} {g : Nat} {t t' : TypeId} {v u : Value} (h : Blk W g t #[v]) (h' : Blk W g t' #[u]) : v = u := by
  unfold Blk at h h'
  rw [h] at h'
  injection h' with h'
  injection h' with h'
  simpa using h'
/-- the list in the box holds pre; the rest is as at the loop's start -/
structure Coll (w : World) (C : Nat) (v : Value) (pre : List (Int × Int)) (W : World) : Prop where
  box : Blk W C 29 #[v]
  row : OwnVI W w.heap.size v pre
  kp : Kp (fun k => k = C) w W
def CollI (w : World) (C : Nat) (pre : List (Int × Int)) (W : World) : Prop := ∃ v, Coll w C v pre W

theorem OwnC.of {C k : Nat} {W : World} {v : Value} (hb : Blk W C 29 #[v]) (h : OwnC C W k) : k = C ∨ v.ownBlock = some k := h.imp id fun ⟨_, hb', e⟩ => hb.same hb' ▸ e
theorem ownC_keep {C : Nat} {S : Nat → Prop} {W W' : World} {v : Value} (hb : Blk W C 29 #[v]) (hk : Kp S W W') (hC : ¬ S C) : ∀ k, OwnC C W' k → OwnC C W k := fun _ e =>
  (e.of (hb.kp hk hC)).imp id fun e => ⟨v, hb, e⟩
theorem Coll.lt {w W : World} {C k : Nat} {v : Value} {pre : List (Int × Int)} (h : Coll w C v pre W) (e : OwnC C W k) : k < W.heap.size := by
  rcases e.of h.box with rfl | e
  · exact h.box.lt
  · exact own_lt h.row k e
theorem Coll.abide {S : Nat → Prop} {w W W' : World} {C : Nat} {v : Value} {pre : List (Int × Int)} (h : Coll w C v pre W) (hk : Kp S W W') (hS : ∀ k, S k → w.heap.size ≤ k ∧ ¬ OwnC C W k) : Coll w C v pre W' :=
  ⟨h.box.kp hk (fun e => (hS C e).2 (.inl rfl)), h.row.kp hk (fun g e e2 => (hS g e2).2 (.inr ⟨v, h.box, e⟩)), h.kp.trans hk fun i hi e => absurd (hS i e).1 (by omega)⟩

theorem coll_own (w : World) (C : Nat) : OwnJ w.heap.size (OwnC C) (CollI w C) :=
  ⟨fun _ _ _ _ ⟨v, h⟩ hk hS => ⟨v, h.abide hk hS⟩, fun _ _ _ _ ⟨_, h⟩ hk hS => ownC_keep h.box hk (fun e => (hS C e).2 (.inl rfl)), fun _ _ _ ⟨_, h⟩ e => h.lt e⟩

/-- a round: an element is appended, the list is stored -/
theorem Coll.next {w W W5 : World} {C : Nat} {v v' : Value} {pre : List (Int × Int)} {x : Int × Int} (h : Coll w C v pre W) (hC : C < w.heap.size)
    (own : W5.ownsRow w.heap.size 27 2 v' (pre.length + 1) (flat cvI pre ++ [.int .i64 x.1, .int .i64 x.2])) (gr : Grew W W5 v v') :
    Coll w C v' (pre ++ [x]) (W5.setCell ⟨C, 0, none⟩ v') ∧ Rd (OwnC C) W (W5.setCell ⟨C, 0, none⟩ v') := by
  have hvC : v.ownBlock ≠ some C := fun e => absurd (own_from h.row C e) (by omega)
  have hv'C : v'.ownBlock ≠ some C := fun e => absurd (own_from own C e) (by omega)
  have hb5 := h.box.kp gr.by_ hvC
  have hb6 : Blk (W5.setCell ⟨C, 0, none⟩ v') C 29 #[v'] := hb5.set_ 0 v'
  have hkC := kp_set W5 C 0 v'
  have hr5 : OwnVI W5 w.heap.size v' (pre ++ [x]) := by
    unfold OwnVI
    rw [flat_snoc, List.length_append]
    exact own
  refine ⟨⟨hb6, hr5.kp hkC (fun g e e2 => hv'C (e2 ▸ e)), ?_⟩, ?_, ?_⟩
  · exact (h.kp.trans gr.by_ (fun i hi e => absurd (own_from h.row i e) (by omega))).trans hkC (fun _ _ e => e)
  · exact (gr.by_.mono (T := OwnC C W) fun i _ e => .inr ⟨v, h.box, e⟩).trans hkC (fun i _ e => .inl e)
  · intro k e
    rcases e.of hb6 with e | e
    · exact .inl (.inl e)
    · rcases gr.at_ with e2 | ⟨k2, e2, hk2⟩
      · exact .inl (.inr ⟨v, h.box, e2 ▸ e⟩)
      · rw [e2] at e
        injection e with e
        exact .inr (e ▸ hk2)
end Go.Proofs.Ytogfcenebbipeaa.W
