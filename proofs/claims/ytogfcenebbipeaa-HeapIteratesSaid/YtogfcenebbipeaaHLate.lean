/-
  A loop over an iterator that collects what comes and pushes to the heap meanwhile: what the loop owns, what it keeps. No condition.
-/
import Derived.Test.YtogfcenebbipeaaHEnv
namespace Go.Proofs.Ytogfcenebbipeaa.W
open Go.RowKit Go.Proofs.Ytogfcenebbipeaa.Pl

/-- what the loop owns: the box of its list and the list's row; the heap and the heap's row -/
def OwnL (C H : Nat) (W : World) (k : Nat) : Prop := k = C ∨ k = H ∨ (∃ v, W.cell? ⟨C, 0, none⟩ = some v ∧ v.ownBlock = some k) ∨ (∃ v, W.cell? ⟨H, 1, none⟩ = some v ∧ v.ownBlock = some k)
structure Late (w : World) (C H : Nat) (v0 v : Value) (pre : List (Int × Int)) (vh : Value) (q : List Ent) (p : Nat) (W : World) : Prop where
  box : Blk W C 29 #[v]
  row : OwnVI W w.heap.size v pre
  hp : HpI 0 W H vh q p
  hv : ∀ k, vh.ownBlock = some k → v0.ownBlock = some k ∨ w.heap.size ≤ k
  kp : Kp (fun k => k = C ∨ Ft H v0 k) w W
section
variable {w W W' : World} {C H p k : Nat} {v0 v vh : Value} {pre : List (Int × Int)} {q : List Ent} {S : Nat → Prop}
theorem Late.of (h : Late w C H v0 v pre vh q p W) (e : OwnL C H W k) : k = C ∨ v.ownBlock = some k ∨ Ft H vh k := by
  rcases e with e | e | ⟨u, hu, e⟩ | ⟨u, hu, e⟩
  · exact .inl e
  · exact .inr (.inr (.inl e))
  · have := h.box.one.1.symm.trans hu
    injection this with this
    exact .inr (.inl (this ▸ e))
  · have := h.hp.blk.three.2.1.symm.trans hu
    injection this with this
    exact .inr (.inr (.inr (this ▸ e)))
theorem Late.to (h : Late w C H v0 v pre vh q p W) (e : k = C ∨ v.ownBlock = some k ∨ Ft H vh k) : OwnL C H W k := by
  rcases e with e | e | e | e
  · exact .inl e
  · exact .inr (.inr (.inl ⟨v, h.box.one.1, e⟩))
  · exact .inr (.inl e)
  · exact .inr (.inr (.inr ⟨vh, h.hp.blk.three.2.1, e⟩))
theorem Late.lt (h : Late w C H v0 v pre vh q p W) (e : OwnL C H W k) : k < W.heap.size := by
  rcases h.of e with rfl | e | e
  · exact h.box.lt
  · exact own_lt h.row k e
  · exact h.hp.lt k e
theorem Late.abide (h : Late w C H v0 v pre vh q p W) (hk : Kp S W W') (hS : ∀ k, S k → w.heap.size ≤ k ∧ ¬ OwnL C H W k) : Late w C H v0 v pre vh q p W' :=
  ⟨h.box.kp hk fun e => (hS C e).2 (.inl rfl), h.row.kp hk fun g e e2 => (hS g e2).2 (h.to (.inr (.inl e))), h.hp.kp hk fun g e e2 => (hS g e2).2 (h.to (.inr (.inr e))), h.hv,
    h.kp.trans hk fun i hi e => absurd (hS i e).1 (by omega)⟩
theorem Late.keep (h : Late w C H v0 v pre vh q p W) (hk : Kp S W W') (hS : ∀ k, S k → w.heap.size ≤ k ∧ ¬ OwnL C H W k) (e : OwnL C H W' k) : OwnL C H W k := h.to ((h.abide hk hS).of e)
/-- the blocks lie apart -/
theorem Late.cne (h : Late w C H v0 v pre vh q p W) : v.ownBlock ≠ some C ∧ ¬ Ft H vh C := by
  refine ⟨own_ne h.row h.box (by decide), fun e => ?_⟩
  obtain ⟨l, ha, _⟩ := h.hp
  rcases e with e | e
  · exact h.box.ne_ ha.blk (by decide) e
  · exact own_ne ha.own h.box (by decide) e
theorem Late.push {vh2 : Value} {q2 : List Ent} {p2 : Nat} (h : Late w C H v0 v pre vh q p W) (hh : HpI 0 W' H vh2 q2 p2) (hk : Kp (Ft H vh) W W') (hv : vh2.ownBlock = vh.ownBlock ∨ ∃ k, vh2.ownBlock = some k ∧ W.heap.size ≤ k) :
    Late w C H v0 v pre vh2 q2 p2 W' ∧ Rd (OwnL C H) W W' := by
  have hL : Late w C H v0 v pre vh2 q2 p2 W' := by
    refine ⟨h.box.kp hk h.cne.2, h.row.kp hk fun g e e2 => h.row.far h.hp g e2 e, hh, fun k e => ?_, h.kp.trans hk fun i hi e => ?_⟩
    · rcases hv with e2 | ⟨k2, e2, hk2⟩
      · exact h.hv k (e2 ▸ e)
      · rw [e2] at e
        injection e with e
        have := h.kp.size
        exact .inr (by omega)
    · rcases e with e | e
      · exact .inr (.inl e)
      · rcases h.hv i e with e | e
        · exact .inr (.inr e)
        · omega
  refine ⟨hL, hk.mono fun k _ e => h.to (.inr (.inr e)), fun k e => ?_⟩
  rcases hL.of e with e | e | e | e
  · exact .inl (.inl e)
  · exact .inl (h.to (.inr (.inl e)))
  · exact .inl (.inr (.inl e))
  · rcases hv with e2 | ⟨k2, e2, hk2⟩
    · exact .inl (h.to (.inr (.inr (.inr (e2 ▸ e)))))
    · rw [e2] at e
      injection e with e
      exact .inr (by omega)
theorem Late.next {W5 : World} {v' : Value} {x : Int × Int} (h : Late w C H v0 v pre vh q p W)
    (own : W5.ownsRow w.heap.size 27 2 v' (pre.length + 1) (flat cvI pre ++ [.int .i64 x.1, .int .i64 x.2])) (gr : Grew W W5 v v') :
    Late w C H v0 v' (pre ++ [x]) vh q p (W5.setCell ⟨C, 0, none⟩ v') ∧ Rd (OwnL C H) W (W5.setCell ⟨C, 0, none⟩ v') := by
  have hb5 := h.box.kp gr.by_ h.cne.1
  have hb6 : Blk (W5.setCell ⟨C, 0, none⟩ v') C 29 #[v'] := hb5.set_ 0 v'
  have hkC := kp_set W5 C 0 v'
  have hr5 : OwnVI W5 w.heap.size v' (pre ++ [x]) := by
    unfold OwnVI
    rw [flat_snoc, List.length_append]
    exact own
  have hv'C : v'.ownBlock ≠ some C := own_ne hr5 hb5 (by decide)
  have hL : Late w C H v0 v' (pre ++ [x]) vh q p (W5.setCell ⟨C, 0, none⟩ v') := by
    refine ⟨hb6, hr5.kp hkC (fun g e e2 => hv'C (e2 ▸ e)), (h.hp.kp gr.by_ fun g e e2 => h.row.far h.hp g e e2).kp hkC (fun g e e2 => h.cne.2 (e2 ▸ e)), h.hv, ?_⟩
    exact (h.kp.trans gr.by_ (fun i hi e => absurd (own_from h.row i e) (by omega))).trans hkC (fun _ _ e => .inl e)
  refine ⟨hL, (gr.by_.mono (T := OwnL C H W) fun i _ e => h.to (.inr (.inl e))).trans hkC (fun i _ e => .inl e), fun k e => ?_⟩
  rcases hL.of e with e | e | e
  · exact .inl (.inl e)
  · rcases gr.at_ with e2 | ⟨k2, e2, hk2⟩
    · exact .inl (h.to (.inr (.inl (e2 ▸ e))))
    · rw [e2] at e
      injection e with e
      exact .inr (by omega)
  · exact .inl (h.to (.inr (.inr e)))
/-- a mark of a loop's stays where what is the loop's own changes -/
theorem Late.marks {D : Nat} {o : Option (List Deferred)} (h : Late w C H v0 v pre vh q p W) (hk : Kp S W W') (hS : ∀ k, S k → k = C ∨ Ft H vh k ∨ W.heap.size ≤ k) (hd : W.heap[D]? = some (.deferred o)) : W'.heap[D]? = some (.deferred o) := by
  refine (hk.block D (Array.getElem?_eq_some_iff.1 hd).1 (fun e => ?_)).trans hd
  rcases hS D e with e | e | e
  · have := h.box
    unfold Blk at this
    rw [← e, hd] at this
    cases this
  · obtain ⟨lh, ha, _⟩ := h.hp
    rcases e with e | e
    · have := ha.blk
      unfold Blk at this
      rw [← e, hd] at this
      cases this
    · rcases ha.own.2 with ⟨rfl, _⟩ | ⟨g, cap, cur, rfl, _, hg, _⟩
      · cases e
      · have e2 : g = D := by injection e
        have hg2 : W.heap[g]? = some (.cells cur 70 (0, 0)) := hg
        rw [e2, hd] at hg2
        cases hg2
  · have := (Array.getElem?_eq_some_iff.1 hd).1
    omega
theorem Rd.trans {O : World → Nat → Prop} {a b c : World} (h : Rd O a b) (k : Rd O b c) : Rd O a c :=
  ⟨h.kp.trans k.kp fun i hi e => (h.own i e).elim id fun e => absurd hi (Nat.not_lt.2 e), fun i e => (k.own i e).elim (h.own i) fun e => .inr (Nat.le_trans h.kp.size e)⟩
end
/-- how far it has come: nothing collected, nothing pushed; or the element x is pushed -/
def LateS (v0 : Value) (x : Int × Int) (q0 : List Ent) (n : Nat) (pre : List (Int × Int)) (vh : Value) (q : List Ent) (p : Nat) : Prop := (pre = [] ∧ vh = v0 ∧ q = q0 ∧ p = n) ∨ (pre ≠ [] ∧ q = ins rkI (x, n) q0 ∧ p = n + 1)
def LateI (w : World) (C H : Nat) (v0 : Value) (x : Int × Int) (q0 : List Ent) (n : Nat) (pre : List (Int × Int)) (W : World) : Prop := ∃ v vh q p, Late w C H v0 v pre vh q p W ∧ LateS v0 x q0 n pre vh q p
theorem late_own (w : World) (C H : Nat) (v0 : Value) (x : Int × Int) (q0 : List Ent) (n : Nat) : OwnJ w.heap.size (OwnL C H) (LateI w C H v0 x q0 n) :=
  ⟨fun _ _ _ _ ⟨v, vh, q, p, h, e⟩ hk hS => ⟨v, vh, q, p, h.abide hk hS, e⟩, fun _ _ _ _ ⟨_, _, _, _, h, _⟩ hk hS _ e => h.keep hk hS e, fun _ _ _ ⟨_, _, _, _, h, _⟩ e => h.lt e⟩
/-- the element at the head of block g: a word that a region's facts can name ahead of the call that makes the block -/
def TopAt (w : World) (y : Int × Int) (g : Nat) : Prop := w.cell? ⟨g, 0, none⟩ = some (.int .i64 y.1) ∧ w.cell? ⟨g, 1, none⟩ = some (.int .i64 y.2)
theorem topAt_cells (w : World) (y : Int × Int) : (∀ g, TopAt w y g → w.cell? ⟨g, 0, none⟩ = some (.int .i64 y.1)) ∧ ∀ g, TopAt w y g → w.cell? ⟨g, 1, none⟩ = some (.int .i64 y.2) := ⟨fun _ h => h.1, fun _ h => h.2⟩
end Go.Proofs.Ytogfcenebbipeaa.W
