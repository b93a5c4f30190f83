/-
  Small words on memory, over any program: what a call may have changed, a block that is known whole, a slice that reads as cells, a row that the call owns. No condition.
-/
import Derived.Test.YtlogihcmmoldkaaChecked
import Derived.WalkKit
import Derived.Lib.Hide
import Derived.WalkSpells
import Derived.WalkLawsBesides
import Derived.Maps.AppendAt
import Derived.Deep.AppendLies
import Derived.Deep.Draws
import Derived.Deep.RegionLaw
import Derived.Laws.OwnMore
import Derived.Laws.Rows
namespace Go.Proofs.Ytlogihcmmoldkaa.W
open Go.RowKit

theorem ret_int {k : IntKind} {a b : Int} (h : a = b) : Ending.returned (.int k a) = .returned (.int k b) := by rw [h]
theorem ret_val {a b : Value} (h : a = b) : Ending.returned a = .returned b := by rw [h]

/-- w' is w but for the blocks of S and new ones -/
structure Kp (S : Nat → Prop) (w w' : World) : Prop where
  os : w'.os = w.os
  tape : w'.tape = w.tape
  output : w'.output = w.output
  size : w.heap.size ≤ w'.heap.size
  block : ∀ k, k < w.heap.size → ¬ S k → w'.heap[k]? = w.heap[k]?

theorem Kp.refl (S : Nat → Prop) (w : World) : Kp S w w := ⟨rfl, rfl, rfl, Nat.le_refl _, fun _ _ _ => rfl⟩
theorem Kp.trans {S T : Nat → Prop} {a b c : World} (h : Kp S a b) (k : Kp T b c) (hT : ∀ i, i < a.heap.size → T i → S i) : Kp S a c :=
  ⟨k.os.trans h.os, k.tape.trans h.tape, k.output.trans h.output, Nat.le_trans h.size k.size, fun i hi hn => (k.block i (Nat.lt_of_lt_of_le hi h.size) (fun e => hn (hT i hi e))).trans (h.block i hi hn)⟩
theorem Kp.tr {S : Nat → Prop} {a b c : World} (h : Kp S a b) (k : Kp S b c) : Kp S a c := h.trans k fun _ _ e => e
theorem Kp.mono {S T : Nat → Prop} {a b : World} (h : Kp S a b) (hT : ∀ i, i < a.heap.size → S i → T i) : Kp T a b :=
  ⟨h.os, h.tape, h.output, h.size, fun i hi hn => h.block i hi fun e => hn (hT i hi e)⟩
theorem Kp.alloc {S : Nat → Prop} {a w : World} (h : Kp S a w) (o : Obj) : Kp S a (w.alloc o) :=
  ⟨h.os, h.tape, h.output, by have := h.size; simp; omega, fun i hi hn => (Below.heap_alloc w o i (Nat.lt_of_lt_of_le hi h.size)).trans (h.block i hi hn)⟩
theorem Kp.drew {S : Nat → Prop} {a w : World} (h : Kp S a w) : Kp S a w.drew := ⟨h.os, h.tape, h.output, h.size, h.block⟩
theorem Kp.drewN {S : Nat → Prop} {a w : World} (h : Kp S a w) (n : Nat) : Kp S a (w.drewN n) := ⟨h.os, h.tape, h.output, h.size, h.block⟩
theorem Kp.undrew {S : Nat → Prop} {a w : World} (h : Kp S a.drew w) : Kp S a w := ⟨h.os, h.tape, h.output, h.size, h.block⟩
theorem Kp.undrewN {S : Nat → Prop} {a w : World} {n : Nat} (h : Kp S (a.drewN n) w) : Kp S a w := ⟨h.os, h.tape, h.output, h.size, h.block⟩
theorem Kp.unalloc {S : Nat → Prop} {a w : World} {o : Obj} (h : Kp S (a.alloc o) w) : Kp S a w :=
  ⟨h.os, h.tape, h.output, by have := h.size; simp at this; omega, fun i hi hn => (h.block i (by simp; omega) hn).trans (Below.heap_alloc a o i hi)⟩
/-- a store into a block of S, or into a new one -/
theorem Kp.setCell {S : Nat → Prop} {a w : World} (h : Kp S a w) {p : Addr} (hp : p.block < a.heap.size → S p.block) (u : Value) : Kp S a (w.setCell p u) :=
  ⟨h.os, h.tape, h.output, by have := h.size; simp [World.setCell]; omega, fun i hi hn => (Below.heap_setCell w p u i (fun e => hn (by subst e; exact hp hi))).trans (h.block i hi hn)⟩
theorem Kp.new {S : Nat → Prop} {a w : World} (h : Kp S a w) {b : Nat} (hb : a.heap.size ≤ b) (o : Nat) (u : Value) : Kp S a (w.setCell ⟨b, o, none⟩ u) := h.setCell (p := ⟨b, o, none⟩) (fun h => absurd h (Nat.not_lt.2 hb)) u
theorem kp_set (w : World) (b o : Nat) (u : Value) : Kp (fun k => k = b) w (w.setCell ⟨b, o, none⟩ u) := (Kp.refl (fun k => k = b) w).setCell (p := ⟨b, o, none⟩) (fun _ => rfl) u
theorem kp_two (w : World) (b : Nat) (u v : Value) : Kp (fun k => k = b) w ((w.setCell ⟨b, 0, none⟩ u).setCell ⟨b, 1, none⟩ v) := (kp_set w b 0 u).tr (kp_set (w.setCell ⟨b, 0, none⟩ u) b 1 v)
theorem Kp.grown {S : Nat → Prop} {a w w' : World} {row : Option Nat} (h : Kp S a w) (hg : w.grownBy w' row) (hr : ∀ k, row = some k → k < a.heap.size → S k) : Kp S a w' :=
  ⟨hg.os.trans h.os, hg.tape.trans h.tape, hg.output.trans h.output, Nat.le_trans h.size hg.size, fun i hi hn => (hg.block i (Nat.lt_of_lt_of_le hi h.size) (fun e => hn (hr i e.symm hi))).trans (h.block i hi hn)⟩
theorem Kp.below {S : Nat → Prop} {w w' : World} {B : Nat} (h : Kp S w w') (hB : B ≤ w.heap.size) (hS : ∀ k, k < B → ¬ S k) : Below B w w' :=
  ⟨h.os, h.tape, h.output, h.size, fun k hk => h.block k (Nat.lt_of_lt_of_le hk hB) (hS k hk)⟩
theorem Kp.of_below {S : Nat → Prop} {w w' : World} (h : Below w.heap.size w w') : Kp S w w' := ⟨h.os, h.tape, h.output, h.size, fun k hk _ => h.block k hk⟩
theorem Kp.cell {S : Nat → Prop} {w w' : World} (h : Kp S w w') {p : Addr} (hp : p.block < w.heap.size) (hS : ¬ S p.block) : w'.cell? p = w.cell? p := World.cell?_of_block (w := w) (h.block p.block hp hS)
theorem Kp.frozen {S : Nat → Prop} {w w' : World} (h : Kp S w w') {p : Addr} (hp : p.block < w.heap.size) (hS : ¬ S p.block) : w'.frozen? p = w.frozen? p := World.frozen?_of_block (w := w) (h.block p.block hp hS)

/-- nothing that was there has changed -/
abbrev Nw (w w' : World) : Prop := Kp (fun _ => False) w w'
theorem Nw.kp {S : Nat → Prop} {w w' : World} (h : Nw w w') : Kp S w w' := h.mono fun _ _ e => e.elim
/-- nothing below w0's size has changed -/
theorem Kp.own {S : Nat → Prop} {w0 w w' : World} (h : Nw w0 w) (hk : Kp S w w') (hS : ∀ k, S k → w0.heap.size ≤ k) : Nw w0 w' := h.trans hk fun i hi e => absurd hi (Nat.not_lt.2 (hS i e))
theorem Nw.below {w w' : World} (h : Nw w w') : Below w.heap.size w w' := Kp.below h (Nat.le_refl _) fun _ _ e => e

/-- a block that is known whole -/
def Blk (w : World) (g : Nat) (t : TypeId) (cs : Array Value) : Prop := w.heap[g]? = some (.cells cs t (0, 0))
section
variable {w w' : World} {g : Nat} {t : TypeId} {cs : Array Value}
theorem Blk.lt (h : Blk w g t cs) : g < w.heap.size := (Array.getElem?_eq_some_iff.1 h).1
theorem Blk.cell (h : Blk w g t cs) (i : Nat) : w.cell? ⟨g, i, none⟩ = cs[i]? := cell_of_row w g i cs t (0, 0) h
theorem Blk.frozen (h : Blk w g t cs) (i : Nat) : w.frozen? ⟨g, i, none⟩ = false := by
  unfold Blk at h
  simp [World.frozen?, h]
theorem Blk.new (w : World) (t : TypeId) (cs : Array Value) : Blk (w.alloc (.cells cs t)) w.heap.size t cs := heap_alloc_new w _
theorem Blk.new_at (w : World) (t : TypeId) (cs : Array Value) {n : Nat} (h : w.heap.size = n) : Blk (w.alloc (.cells cs t)) n t cs := h ▸ Blk.new w t cs
theorem Blk.drew (h : Blk w g t cs) : Blk w.drew g t cs := h
theorem Blk.drewN (h : Blk w g t cs) (n : Nat) : Blk (w.drewN n) g t cs := h
theorem Blk.alloc (h : Blk w g t cs) (o : Obj) : Blk (w.alloc o) g t cs := (Below.heap_alloc w o g h.lt).trans h
theorem Blk.set_ (h : Blk w g t cs) (i : Nat) (u : Value) : Blk (w.setCell ⟨g, i, none⟩ u) g t (cs.setIfInBounds i u) := by
  unfold Blk at h ⊢
  simp [World.setCell, Array.getElem?_modify, h]
theorem Blk.far (h : Blk w g t cs) {p : Addr} (hp : g ≠ p.block) (u : Value) : Blk (w.setCell p u) g t cs := (Below.heap_setCell w p u g hp).trans h
theorem Blk.kp {S : Nat → Prop} (h : Blk w g t cs) (hk : Kp S w w') (hg : ¬ S g) : Blk w' g t cs := (hk.block g h.lt hg).trans h
theorem Blk.below {B : Nat} (h : Blk w g t cs) (hb : Below B w w') (hg : g < B) : Blk w' g t cs := (hb.block g hg).trans h
theorem Blk.grown {row : Option Nat} (h : Blk w g t cs) (hb : w.grownBy w' row) (hg : some g ≠ row) : Blk w' g t cs := (hb.block g h.lt hg).trans h
theorem Blk.ne_ {g' : Nat} {t' : TypeId} {cs' : Array Value} (h : Blk w g t cs) (h' : Blk w g' t' cs') (hne : t ≠ t') : g ≠ g' := by
  rintro rfl
  unfold Blk at h h'
  rw [h] at h'
  injection h' with h'
  injection h' with _ ht
  exact hne ht
theorem Blk.one {u : Value} (h : Blk w g t #[u]) : w.cell? ⟨g, 0, none⟩ = some u ∧ w.frozen? ⟨g, 0, none⟩ = false := ⟨h.cell 0, h.frozen 0⟩
theorem Blk.two {u v : Value} (h : Blk w g t #[u, v]) : w.cell? ⟨g, 0, none⟩ = some u ∧ w.cell? ⟨g, 1, none⟩ = some v ∧ w.frozen? ⟨g, 0, none⟩ = false ∧ w.frozen? ⟨g, 1, none⟩ = false := ⟨h.cell 0, h.cell 1, h.frozen 0, h.frozen 1⟩
theorem Blk.three {u v x : Value} (h : Blk w g t #[u, v, x]) : w.cell? ⟨g, 0, none⟩ = some u ∧ w.cell? ⟨g, 1, none⟩ = some v ∧ w.cell? ⟨g, 2, none⟩ = some x ∧ w.frozen? ⟨g, 0, none⟩ = false ∧ w.frozen? ⟨g, 1, none⟩ = false ∧ w.frozen? ⟨g, 2, none⟩ = false :=
  ⟨h.cell 0, h.cell 1, h.cell 2, h.frozen 0, h.frozen 1, h.frozen 2⟩
end

/-- two cells of a block of two, laid anew -/
theorem Blk.lay2 {w : World} {g : Nat} {t : TypeId} {u v : Value} (h : Blk w g t #[u, v]) (a b : Value) : Blk ((w.setCell ⟨g, 0, none⟩ a).setCell ⟨g, 1, none⟩ b) g t #[a, b] := (h.set_ 0 a).set_ 1 b
theorem block_add (a : Addr) (n : Nat) : (a.add n).block = a.block := by
  unfold Addr.add
  split <;> rfl

/-- a slice value that reads as n elements of so many cells, wherever it lies; nil and empty ones too -/
def Src (w : World) (size : Nat) (v : Value) (n : Nat) (vs : List Value) : Prop :=
  vs.length = n * size ∧ ∃ A c, v = .slice A n c ∧ n ≤ c ∧ c ≤ maxLen ∧ (0 < n → ∃ g o, A = some ⟨g, o, none⟩ ∧ g < w.heap.size ∧ ∀ j u, vs[j]? = some u → w.cell? ⟨g, o + j, none⟩ = some u)
theorem Src.shape {w : World} {size : Nat} {v : Value} {n : Nat} {vs : List Value} (h : Src w size v n vs) : ∃ A c, v = .slice A n c := by
  obtain ⟨_, A, c, rfl, _⟩ := h
  exact ⟨A, c, rfl⟩
theorem Src.kp {S : Nat → Prop} {w w' : World} {size : Nat} {v : Value} {n : Nat} {vs : List Value} (h : Src w size v n vs) (hk : Kp S w w') (hv : ∀ g, g < w.heap.size → v.ownBlock = some g → ¬ S g) : Src w' size v n vs := by
  obtain ⟨hl, A, c, rfl, h1, h2, hc⟩ := h
  refine ⟨hl, A, c, rfl, h1, h2, fun hn => ?_⟩
  obtain ⟨g, o, rfl, hb, hcell⟩ := hc hn
  exact ⟨g, o, rfl, Nat.lt_of_lt_of_le hb hk.size, fun j u hu => (hk.cell (p := ⟨g, o + j, none⟩) hb (hv g hb rfl)).trans (hcell j u hu)⟩
theorem Src.nw {w w' : World} {size : Nat} {v : Value} {n : Nat} {vs : List Value} (h : Src w size v n vs) (hk : Nw w w') : Src w' size v n vs := h.kp hk fun _ _ _ e => e
/-- what was read before a call is read behind all that the call does to blocks of its own -/
theorem Src.old {S : Nat → Prop} {w0 w w' : World} {size : Nat} {v : Value} {n : Nat} {vs : List Value} (h : Src w0 size v n vs) (h1 : Nw w0 w) (hk : Kp S w w') (hS : ∀ k, S k → w0.heap.size ≤ k) : Src w' size v n vs :=
  h.nw (h1.trans hk fun i hi e => absurd hi (Nat.not_lt.2 (hS i e)))
theorem Src.nil (w : World) (size : Nat) : Src w size (.slice none 0 0) 0 [] := ⟨(Nat.zero_mul size).symm, none, 0, rfl, Nat.le_refl _, Nat.zero_le _, fun hn => absurd hn (Nat.lt_irrefl 0)⟩

section
variable {w w' : World} {B e size n : Nat} {v : Value} {vs : List Value}
theorem own_src (h : w.ownsRow B e size v n vs) : Src w size v n vs := by
  refine ⟨h.1, ?_⟩
  rcases h.2 with ⟨rfl, h0⟩ | ⟨g, cap, cur, rfl, hb, hg, hcap, hm, hs, ht⟩
  · exact ⟨none, 0, by rw [h0], by omega, Nat.zero_le _, fun hn => absurd hn (by omega)⟩
  · refine ⟨some ⟨g, 0, none⟩, cap, rfl, hcap, hm, fun _ => ⟨g, 0, rfl, (Array.getElem?_eq_some_iff.1 hg).1, fun j u hu => ?_⟩⟩
    have := World.ownsRow.cells h (g := g) rfl j u hu
    have hadd : (⟨g, 0, none⟩ : Addr).add j = ⟨g, j, none⟩ := by
      unfold Addr.add
      split <;> simp_all
    rw [hadd] at this
    rw [Nat.zero_add]
    exact this
theorem own_kp {S : Nat → Prop} (h : w.ownsRow B e size v n vs) (hk : Kp S w w') (hv : ∀ g, v.ownBlock = some g → ¬ S g) : w'.ownsRow B e size v n vs := by
  refine ⟨h.1, ?_⟩
  rcases h.2 with hn | ⟨g, cap, cur, rfl, hb, hgg, rest⟩
  · exact .inl hn
  · exact .inr ⟨g, cap, cur, rfl, hb, (hk.block g (Array.getElem?_eq_some_iff.1 hgg).1 (hv g rfl)).trans hgg, rest⟩
theorem own_nw (h : w.ownsRow B e size v n vs) (hk : Nw w w') : w'.ownsRow B e size v n vs := own_kp h hk fun _ _ e => e
theorem own_from (h : w.ownsRow B e size v n vs) : ∀ k, v.ownBlock = some k → B ≤ k := fun k hk => (World.ownsRow.lt h k hk).1
theorem own_lt (h : w.ownsRow B e size v n vs) : ∀ k, v.ownBlock = some k → k < w.heap.size := fun k hk => (World.ownsRow.lt h k hk).2
theorem own_less {B' : Nat} (h : w.ownsRow B e size v n vs) (hB : B' ≤ B) : w.ownsRow B' e size v n vs := by
  refine ⟨h.1, ?_⟩
  rcases h.2 with hn | ⟨g, cap, cur, rfl, hb, r⟩
  · exact .inl hn
  · exact .inr ⟨g, cap, cur, rfl, by omega, r⟩
theorem own_ne {g : Nat} {t : TypeId} {cs : Array Value} (h : w.ownsRow B e size v n vs) (hg : Blk w g t cs) (hne : e ≠ t) : v.ownBlock ≠ some g := by
  rcases h.2 with ⟨rfl, _⟩ | ⟨g', cap, cur, rfl, _, hh, _⟩
  · simp [Value.ownBlock]
  · intro he
    have : g' = g := by simpa [Value.ownBlock] using he
    subst this
    exact Blk.ne_ (t := e) hh hg hne rfl
end

theorem own_own {w : World} {B B' e e' size size' n n' : Nat} {v v' : Value} {vs vs' : List Value} (h : w.ownsRow B e size v n vs) (h' : w.ownsRow B' e' size' v' n' vs') (hne : e ≠ e') : ∀ g, v'.ownBlock = some g → v.ownBlock ≠ some g := by
  intro g hg
  rcases h'.2 with ⟨rfl, _⟩ | ⟨g', cap, cur, rfl, _, hh, _⟩
  · cases hg
  · have e1 : g' = g := by injection hg
    subst e1
    exact own_ne h (g := g') (t := e') (cs := cur) hh hne
/-- the cells of a new block, one element -/
theorem cells_new (w : World) (cs : List Value) (t : TypeId) : ∀ j u, cs[j]? = some u → (w.alloc (.cells cs.toArray t)).cell? ((⟨w.heap.size, 0, none⟩ : Addr).add j) = some u := by
  intro j u hj
  have hadd : (⟨w.heap.size, 0, none⟩ : Addr).add j = ⟨w.heap.size, j, none⟩ := by
    unfold Addr.add
    split <;> simp_all
  rw [hadd, cell_of_row _ w.heap.size j cs.toArray t (0, 0) (heap_alloc_new w _)]
  simpa using hj

/-- w' is w but for new blocks and the row of b; the row of v is b's, or new -/
structure Grew (w w' : World) (b v : Value) : Prop where
  by_ : Kp (fun k => b.ownBlock = some k) w w'
  at_ : v.ownBlock = b.ownBlock ∨ ∃ k, v.ownBlock = some k ∧ w.heap.size ≤ k
theorem Grew.size {w w' : World} {b v : Value} (h : Grew w w' b v) : w.heap.size ≤ w'.heap.size := h.by_.size

theorem Grew.nw {a w w' : World} {b v : Value} (g : Grew w w' b v) (h : Nw a w) (hb : ∀ k, b.ownBlock = some k → a.heap.size ≤ k) : Nw a w' := h.trans g.by_ fun i hi e => absurd hi (Nat.not_lt.2 (hb i e))
theorem kp_grown {w w' : World} {row : Option Nat} (h : w.grownBy w' row) : Kp (fun k => row = some k) w w' := ⟨h.os, h.tape, h.output, h.size, fun k hk hn => h.block k hk fun e => hn e.symm⟩

section
variable {w : World} {ops : Array Oper} {rest : List Oper} {o : Oper} {a : Act} {K : Act → World → Prop} {Q : Exit → Act → World → Prop} {E : Prop}
theorem run_push (ty : TypeId) (t e : TypeId) (size bts : Nat) (z : Value)
    (hu : Try.prog.underlying t = some (.slice e)) (hinfo : (Try.prog.info? e).map (fun i => (i.zero, i.size, i.bytes)) = some (some z, size, bts)) (hz : z.cells.size = size) (hsz : 0 < size)
    (B n : Nat) (v : Value) (vs cs : List Value) (hown : w.ownsRow B e size v n vs) (hcs : cs.length = size) (hone : ∀ u ∈ cs, u.oneCell' = true)
    (hlen : (n + 1) * bts ≤ 140737488355328) (hn : n + 1 ≤ 9223372036854775807) (hB : B ≤ w.heap.size) :
    ∃ v' w', (Builtin.append_ #[t, t] ty #[v, .slice (some ⟨w.heap.size, 0, none⟩) 1 1]).run Try.prog (w.alloc (.cells cs.toArray e)) = .ok v' w' ∧ w'.ownsRow B e size v' (n + 1) (vs ++ cs) ∧ Grew w w' v v' := by
  obtain ⟨i0, hi, hz0, hz1, hz2⟩ := info_parts hinfo
  obtain ⟨v', w', hr, h1, h2, _, h4⟩ := run_append_own_at (P := Try.prog) (w.alloc (.cells cs.toArray e)) B t ty e i0 z size bts hu hi hz0 hz1 hz2 hz hsz v n vs (hown.alloc _) ⟨w.heap.size, 0, none⟩ 1 1 cs (by omega) (cells_new w cs e) hone (by unfold maxLen; omega) hlen (by simp; omega)
  refine ⟨v', w', hr, h1, ?_, ?_⟩
  · exact (Kp.refl _ w).alloc _ |>.grown h2 fun k hk _ => hk
  · exact h4.imp id fun e => ⟨_, e, by simp⟩

/-- append(s, x) of one element that has just been laid -/
theorem wp_pushG (hgd : o.guard = none) (s x : Operand) (t e : TypeId) (size bts : Nat) (z : Value)
    (ho : o.op = .call { callee := .builtin .append, args := #[s, x], argTypes := #[t, t] })
    (hu : Try.prog.underlying t = some (.slice e)) (hinfo : (Try.prog.info? e).map (fun i => (i.zero, i.size, i.bytes)) = some (some z, size, bts)) (hz : z.cells.size = size) (hsz : 0 < size)
    (B n : Nat) (v : Value) (vs cs : List Value) (hs : a.eval s = v) (hown : w.ownsRow B e size v n vs) (hcs : cs.length = size) (hone : ∀ u ∈ cs, u.oneCell' = true)
    (hx : a.eval x = .slice (some ⟨w.heap.size, 0, none⟩) 1 1) (hlen : (n + 1) * bts ≤ 140737488355328) (hn : n + 1 ≤ 9223372036854775807) (hB : B ≤ w.heap.size)
    (h : ∀ v' w', w'.ownsRow B e size v' (n + 1) (vs ++ cs) → Grew w w' v v' → wpList Try.prog ops Q rest (a.put o.dst v') w') :
    wpList Try.prog ops Q (o :: rest) a (w.alloc (.cells cs.toArray e)) := by
  obtain ⟨v', w', hr, h1, h2⟩ := run_push o.type t e size bts z hu hinfo hz hsz B n v vs cs hown hcs hone hlen hn hB
  refine wpList_plain hgd fun K hK => ?_
  unfold Oper.wp execOp
  simp only [ho, resolve, invoke, builtin, Sem.run_bind, Sem.run_pure, Result.andThen_ok, List.map_toArray, List.map_cons, List.map_nil, hs, hx, hr]
  exact hK _ _ (h v' w' h1 h2)
theorem wp_pushAt (b : Nat) (hb : w.heap.size = b) (hgd : o.guard = none) (s x : Operand) (t e : TypeId) (size bts : Nat) (z : Value)
    (ho : o.op = .call { callee := .builtin .append, args := #[s, x], argTypes := #[t, t] })
    (hu : Try.prog.underlying t = some (.slice e)) (hinfo : (Try.prog.info? e).map (fun i => (i.zero, i.size, i.bytes)) = some (some z, size, bts)) (hz : z.cells.size = size) (hsz : 0 < size)
    (B n : Nat) (v : Value) (vs cs : List Value) (hs : a.eval s = v) (hown : w.ownsRow B e size v n vs) (hcs : cs.length = size) (hone : ∀ u ∈ cs, u.oneCell' = true)
    (hx : a.eval x = .slice (some ⟨b, 0, none⟩) 1 1) (hlen : (n + 1) * bts ≤ 140737488355328) (hn : n + 1 ≤ 9223372036854775807) (hB : B ≤ w.heap.size)
    (h : ∀ v' w', w'.ownsRow B e size v' (n + 1) (vs ++ cs) → Grew w w' v v' → wpList Try.prog ops Q rest (a.put o.dst v') w') :
    wpList Try.prog ops Q (o :: rest) a (w.alloc (.cells cs.toArray e)) := by
  subst hb
  exact wp_pushG hgd s x t e size bts z ho hu hinfo hz hsz B n v vs cs hs hown hcs hone hx hlen hn hB h
/-- the same at a step of a region that draws its order -/
theorem step_pushG (hgd : o.guard = none) (s x : Operand) (t e : TypeId) (size bts : Nat) (z : Value)
    (ho : o.op = .call { callee := .builtin .append, args := #[s, x], argTypes := #[t, t] })
    (hu : Try.prog.underlying t = some (.slice e)) (hinfo : (Try.prog.info? e).map (fun i => (i.zero, i.size, i.bytes)) = some (some z, size, bts)) (hz : z.cells.size = size) (hsz : 0 < size)
    (B n : Nat) (v : Value) (vs cs : List Value) (hs : a.eval s = v) (hown : w.ownsRow B e size v n vs) (hcs : cs.length = size) (hone : ∀ u ∈ cs, u.oneCell' = true)
    (hx : a.eval x = .slice (some ⟨w.heap.size, 0, none⟩) 1 1) (hlen : (n + 1) * bts ≤ 140737488355328) (hn : n + 1 ≤ 9223372036854775807) (hB : B ≤ w.heap.size)
    (h : ∀ v' w', w'.ownsRow B e size v' (n + 1) (vs ++ cs) → Grew w w' v v' → K (a.put o.dst v') w') :
    if Region.wanted o (yielded ops a.tmps) = true then Oper.wp Try.prog o a (w.alloc (.cells cs.toArray e)) K Q else E := by
  have hw : Region.wanted o (yielded ops a.tmps) = true := by simp [Region.wanted, hgd]
  rw [if_pos hw]
  obtain ⟨v', w', hr, h1, h2⟩ := run_push o.type t e size bts z hu hinfo hz hsz B n v vs cs hown hcs hone hlen hn hB
  unfold Oper.wp execOp
  simp only [ho, resolve, invoke, builtin, Sem.run_bind, Sem.run_pure, Result.andThen_ok, List.map_toArray, List.map_cons, List.map_nil, hs, hx, hr]
  exact h v' w' h1 h2

/-- append(s, x...) from whatever source -/
theorem run_appG (ty : TypeId) (t e : TypeId) (size bts : Nat) (z : Value)
    (hu : Try.prog.underlying t = some (.slice e)) (hinfo : (Try.prog.info? e).map (fun i => (i.zero, i.size, i.bytes)) = some (some z, size, bts)) (hz : z.cells.size = size) (hsz : 0 < size)
    (B n m : Nat) (v u : Value) (vs us : List Value) (hown : w.ownsRow B e size v n vs) (hsrc : Src w size u m us) (hone : ∀ u ∈ us, u.oneCell' = true)
    (hlen : (n + m) * bts ≤ 140737488355328) (hn : n + m ≤ 9223372036854775807) (hB : B ≤ w.heap.size) :
    ∃ v' w', (Builtin.append_ #[t, t] ty #[v, u]).run Try.prog w = .ok v' w' ∧ w'.ownsRow B e size v' (n + m) (vs ++ us) ∧ Grew w w' v v' := by
  obtain ⟨i0, hi, hz0, hz1, hz2⟩ := info_parts hinfo
  obtain ⟨hl, A, c, rfl, _, _, hc⟩ := hsrc
  rcases Nat.eq_zero_or_pos m with h0 | h0
  · subst h0
    obtain rfl : us = [] := List.eq_nil_of_length_eq_zero (by simpa using hl)
    have hrun : (Builtin.append_ #[t, t] ty #[v, .slice A 0 c]).run Try.prog w = .ok v w := by
      rcases hown.2 with ⟨rfl, h0⟩ | ⟨g, cap, cur, rfl, _, _, hnc, _⟩
      · cases A <;> simp [Builtin.append_, run_underlying hu, sizeOf, typeInfo, hi, Builtin.lenOf, Builtin.firstCells, loadCells, loadCellsFrom]
      · cases A <;> simp [Builtin.append_, run_underlying hu, sizeOf, typeInfo, hi, Builtin.lenOf, Builtin.firstCells, hnc, storeCells, loadCells, loadCellsFrom]
    exact ⟨v, w, hrun, by simpa using hown, Kp.refl _ _, .inl rfl⟩
  · obtain ⟨g, off, rfl, hb, hcell⟩ := hc h0
    have hcells : ∀ j u, us[j]? = some u → w.cell? ((⟨g, off, none⟩ : Addr).add j) = some u := by
      intro j u hj
      have hadd : (⟨g, off, none⟩ : Addr).add j = ⟨g, off + j, none⟩ := by
        unfold Addr.add
        split <;> simp_all
      rw [hadd]
      exact hcell j u hj
    obtain ⟨v', w', hr, h1, h2, _, h4⟩ := run_append_own_at (P := Try.prog) w B t ty e i0 z size bts hu hi hz0 hz1 hz2 hz hsz v n vs hown ⟨g, off, none⟩ m c us hl hcells hone (by unfold maxLen; omega) hlen hB
    exact ⟨v', w', hr, h1, (Kp.refl _ w).grown h2 fun k hk _ => hk, h4.imp id fun e => ⟨_, e, Nat.le_refl _⟩⟩
theorem wp_appG (hgd : o.guard = none) (s x : Operand) (t e : TypeId) (size bts : Nat) (z : Value)
    (ho : o.op = .call { callee := .builtin .append, args := #[s, x], argTypes := #[t, t] })
    (hu : Try.prog.underlying t = some (.slice e)) (hinfo : (Try.prog.info? e).map (fun i => (i.zero, i.size, i.bytes)) = some (some z, size, bts)) (hz : z.cells.size = size) (hsz : 0 < size)
    (B n m : Nat) (v u : Value) (vs us : List Value) (hs : a.eval s = v) (hown : w.ownsRow B e size v n vs) (hx : a.eval x = u) (hsrc : Src w size u m us) (hone : ∀ u ∈ us, u.oneCell' = true)
    (hlen : (n + m) * bts ≤ 140737488355328) (hn : n + m ≤ 9223372036854775807) (hB : B ≤ w.heap.size)
    (h : ∀ v' w', w'.ownsRow B e size v' (n + m) (vs ++ us) → Grew w w' v v' → wpList Try.prog ops Q rest (a.put o.dst v') w') :
    wpList Try.prog ops Q (o :: rest) a w := by
  obtain ⟨v', w', hr, h1, h2⟩ := run_appG o.type t e size bts z hu hinfo hz hsz B n m v u vs us hown hsrc hone hlen hn hB
  refine wpList_plain hgd fun K hK => ?_
  unfold Oper.wp execOp
  simp only [ho, resolve, invoke, builtin, Sem.run_bind, Sem.run_pure, Result.andThen_ok, List.map_toArray, List.map_cons, List.map_nil, hs, hx, hr]
  exact hK _ _ (h v' w' h1 h2)
end

/-- a list of elements of so many cells each -/
def flat {α : Type} (f : α → List Value) (l : List α) : List Value := l.flatMap f
section
variable {α : Type} {f : α → List Value}
theorem flat_cons (x : α) (l : List α) : flat f (x :: l) = f x ++ flat f l := rfl
theorem flat_snoc (l : List α) (x : α) : flat f (l ++ [x]) = flat f l ++ f x := by simp [flat]
theorem flat_app (l m : List α) : flat f (l ++ m) = flat f l ++ flat f m := by simp [flat]
theorem flat_length {size : Nat} (hf : ∀ x, (f x).length = size) : ∀ l, (flat f l).length = l.length * size
  | [] => by simp [flat]
  | x :: l => by rw [flat_cons, List.length_append, hf, flat_length hf l, List.length_cons, Nat.add_mul, Nat.one_mul, Nat.add_comm]
theorem flat_at {size : Nat} (hf : ∀ x, (f x).length = size) : ∀ {l : List α} {i : Nat} {x : α} (j : Nat), l[i]? = some x → j < size → (flat f l)[i * size + j]? = (f x)[j]?
  | [], i, x, j, h, _ => by simp at h
  | y :: l, 0, x, j, h, hj => by
    simp at h
    subst h
    rw [flat_cons, Nat.zero_mul, Nat.zero_add, List.getElem?_append_left (by rw [hf]; exact hj)]
  | y :: l, i + 1, x, j, h, hj => by
    have h' : l[i]? = some x := by simpa using h
    have e : (i + 1) * size + j = (f y).length + (i * size + j) := by rw [hf, Nat.add_mul, Nat.one_mul]; omega
    rw [flat_cons, e, List.getElem?_append_right (by omega), Nat.add_sub_cancel_left]
    exact flat_at hf j h' hj
theorem flat_take {size : Nat} (hf : ∀ x, (f x).length = size) : ∀ (l : List α) (k : Nat), (flat f l).take (k * size) = flat f (l.take k)
  | [], k => by simp [flat]
  | y :: l, 0 => by simp [flat]
  | y :: l, k + 1 => by
    have e : (k + 1) * size = (f y).length + k * size := by rw [hf, Nat.add_mul, Nat.one_mul, Nat.add_comm]
    rw [List.take_succ_cons, flat_cons, flat_cons, e, List.take_length_add_append, flat_take hf l k]
theorem flat_drop {size : Nat} (hf : ∀ x, (f x).length = size) : ∀ (l : List α) (k : Nat), (flat f l).drop (k * size) = flat f (l.drop k)
  | [], k => by simp [flat]
  | y :: l, 0 => by simp [flat]
  | y :: l, k + 1 => by
    have e : (k + 1) * size = (f y).length + k * size := by rw [hf, Nat.add_mul, Nat.one_mul, Nat.add_comm]
    rw [List.drop_succ_cons, flat_cons, e, List.drop_length_add_append, flat_drop hf l k]
theorem flat_set {size : Nat} (hf : ∀ x, (f x).length = size) : ∀ (l : List α) (i : Nat) (e : α), i < l.length → flat f (l.set i e) = flat f (l.take i) ++ f e ++ flat f (l.drop (i + 1))
  | [], i, e, h => by simp at h
  | y :: l, 0, e, h => by simp [flat]
  | y :: l, i + 1, e, h => by
    have h' : i < l.length := by simpa using h
    rw [List.set_cons_succ, flat_cons, flat_set hf l i e h', List.take_succ_cons, flat_cons, List.drop_succ_cons]
    simp
theorem flat_split {size : Nat} (hf : ∀ x, (f x).length = size) {l : List α} {i : Nat} {x : α} (h : l[i]? = some x) : flat f l = flat f (l.take i) ++ f x ++ flat f (l.drop (i + 1)) := by
  have hi := (List.getElem?_eq_some_iff.1 h).1
  rw [← flat_set hf l i x hi]
  have : l.set i x = l := by
    apply List.ext_getElem?
    intro k
    rw [List.getElem?_set]
    by_cases hk : i = k
    · subst hk
      rw [if_pos rfl, if_pos hi, h]
    · rw [if_neg hk]
  rw [this]
theorem set_mid (A X B : List Value) (j k : Nat) (u : Value) (hk : k = A.length + j) (hj : j < X.length) : (A ++ X ++ B).set k u = A ++ X.set j u ++ B := by
  subst hk
  rw [List.append_assoc, List.set_append_right _ _ (by omega), Nat.add_sub_cancel_left, List.set_append_left _ _ hj, ← List.append_assoc]
theorem flat_set2 (hf : ∀ x, (f x).length = 2) {l : List α} {i : Nat} {e : α} {a b : Value} (hi : i < l.length) (he : f e = [a, b]) :
    ((flat f l).set (i * 2) a).set (i * 2 + 1) b = flat f (l.set i e) := by
  have hx := flat_split hf (List.getElem?_eq_getElem hi)
  have hA : (flat f (l.take i)).length = i * 2 := by rw [flat_length hf, List.length_take, Nat.min_eq_left (Nat.le_of_lt hi)]
  have hX := hf l[i]
  rw [flat_set hf l i e hi, hx, he]
  rw [set_mid _ _ _ 0 _ _ (by omega) (by omega), set_mid _ _ _ 1 _ _ (by omega) (by simp; omega)]
  match f l[i], hX with
  | [u, v], _ => rfl
theorem flat_set3 (hf : ∀ x, (f x).length = 3) {l : List α} {i : Nat} {e : α} {a b c : Value} (hi : i < l.length) (he : f e = [a, b, c]) :
    (((flat f l).set (i * 3) a).set (i * 3 + 1) b).set (i * 3 + 2) c = flat f (l.set i e) := by
  have hx := flat_split hf (List.getElem?_eq_getElem hi)
  have hA : (flat f (l.take i)).length = i * 3 := by rw [flat_length hf, List.length_take, Nat.min_eq_left (Nat.le_of_lt hi)]
  have hX := hf l[i]
  rw [flat_set hf l i e hi, hx, he]
  rw [set_mid _ _ _ 0 _ _ (by omega) (by omega), set_mid _ _ _ 1 _ _ (by omega) (by simp; omega), set_mid _ _ _ 2 _ _ (by omega) (by simp; omega)]
  match f l[i], hX with
  | [u, v, x], _ => rfl
end

/-- where a slice lies that holds something -/
theorem Src.lies {w : World} {A : Option Addr} {n c size : Nat} {vs : List Value} (h : Src w size (.slice A n c) n vs) (hn : 0 < n) : ∃ g o, A = some ⟨g, o, none⟩ := by
  obtain ⟨_, A', c', hv, _, _, hc⟩ := h
  obtain ⟨g, o, rfl, _⟩ := hc hn
  simp only [Value.slice.injEq] at hv
  exact ⟨g, o, hv.1⟩
theorem Src.cell_at {w : World} {g o n c size : Nat} {vs : List Value} (h : Src w size (.slice (some ⟨g, o, none⟩) n c) n vs) {j : Nat} {u : Value} (hu : vs[j]? = some u) : w.cell? ⟨g, o + j, none⟩ = some u := by
  obtain ⟨hl, A', c', hv, _, _, hc⟩ := h
  have hj := (List.getElem?_eq_some_iff.1 hu).1
  have hn : 0 < n := by
    rcases Nat.eq_zero_or_pos n with rfl | h0
    · rw [Nat.zero_mul] at hl
      omega
    · exact h0
  obtain ⟨g', o', rfl, _, hcell⟩ := hc hn
  simp only [Value.slice.injEq, Option.some.injEq, Addr.mk.injEq] at hv
  obtain ⟨⟨rfl, rfl, _⟩, _⟩ := hv
  exact hcell j u hu
theorem Src.one_at {α : Type} {f : α → List Value} {w : World} {g o n c : Nat} {l : List α} (h : Src w 1 (.slice (some ⟨g, o, none⟩) n c) n (flat f l)) (hf : ∀ x, (f x).length = 1) {i : Nat} {x : α} {u : Value} (hx : l[i]? = some x) (hu : f x = [u]) : w.cell? ⟨g, o + i, none⟩ = some u := by
  have := flat_at hf 0 hx (by omega)
  rw [Nat.mul_one, Nat.add_zero, hu] at this
  exact h.cell_at this

/-- the form of an owned row that holds something -/
theorem own_form {w : World} {B e size n : Nat} {v : Value} {vs : List Value} (h : w.ownsRow B e size v n vs) (hn : 0 < n) : ∃ g cap, v = .slice (some ⟨g, 0, none⟩) n cap ∧ n ≤ cap ∧ cap ≤ maxLen ∧ g < w.heap.size := by
  rcases h.2 with ⟨_, h0⟩ | ⟨g, cap, cur, rfl, hb, hg, hcap, hm, _⟩
  · omega
  · exact ⟨g, cap, rfl, hcap, hm, (Array.getElem?_eq_some_iff.1 hg).1⟩
theorem own_forms {w : World} {B e size n : Nat} {v : Value} {vs : List Value} (h : w.ownsRow B e size v n vs) : (v = .slice none 0 0 ∧ n = 0) ∨ ∃ g cap, v = .slice (some ⟨g, 0, none⟩) n cap ∧ n ≤ cap ∧ cap ≤ maxLen ∧ g < w.heap.size := by
  rcases h.2 with hn | ⟨g, cap, cur, rfl, hb, hg, hcap, hm, _⟩
  · exact .inl hn
  · exact .inr ⟨g, cap, rfl, hcap, hm, (Array.getElem?_eq_some_iff.1 hg).1⟩
/-- the first k elements of an owned row -/
theorem own_cut {w : World} {B e size n g cap k : Nat} {vs : List Value} (h : w.ownsRow B e size (.slice (some ⟨g, 0, none⟩) n cap) n vs) (hk : k ≤ n) : w.ownsRow B e size (.slice (some ⟨g, 0, none⟩) k cap) k (vs.take (k * size)) := by
  have hl := h.1
  have hkn := Nat.mul_le_mul_right size hk
  rcases h.2 with ⟨h', _⟩ | ⟨g', cap', cur, h', hb, hg, hnc, hcm, hcs, htake⟩
  · simp at h'
  · simp only [Value.slice.injEq, Option.some.injEq, Addr.mk.injEq, and_true, true_and] at h'
    obtain ⟨rfl, rfl⟩ := h'
    refine ⟨by rw [List.length_take]; omega, .inr ⟨g, cap, cur, rfl, hb, hg, by omega, hcm, hcs, ?_⟩⟩
    rw [← htake, List.take_take, Nat.min_eq_left hkn]

/-- the blocks of a heap: its own, and that of its slice -/
def Ft (H : Nat) (v : Value) : Nat → Prop := fun k => k = H ∨ v.ownBlock = some k

section
variable {w : World} {A : Option Addr} {n c size bts : Nat} {vs : List Value} {T E : TypeId} {z : Value}
theorem run_size (hinfo : (Try.prog.info? E).map (fun i => (i.zero, i.size, i.bytes)) = some (some z, size, bts)) (W : World) : (sizeOf E).run Try.prog W = .ok size W := by
  obtain ⟨i0, hi, _, hz1, _⟩ := info_parts hinfo
  simp [sizeOf, typeInfo, hi, hz1]
theorem addr_lit (a : Addr) (n : Nat) {g o : Nat} (h : a = ⟨g, o, none⟩) : a.add n = ⟨g, o + n, none⟩ := by
  subst h
  unfold Addr.add
  by_cases h0 : n = 0
  · subst h0; simp
  · simp [h0]
/-- l[j:h], whatever the bounds' spelling -/
theorem Src.window (h : Src w size (.slice A n c) n vs) (j k m : Nat) (hj : j ≤ k) (hk : k ≤ n) (_hm : m = k - j) :
    Src w size (.slice (if c = j then A else A.map (·.add (j * size))) m (c - j)) m ((vs.drop (j * size)).take (m * size)) ∧ ∀ g, (Value.slice (if c = j then A else A.map (·.add (j * size))) m (c - j)).ownBlock = some g → (Value.slice A n c).ownBlock = some g := by
  subst _hm
  obtain ⟨hl, A', c', hv, h1, h2, hc⟩ := h
  simp only [Value.slice.injEq, true_and] at hv
  obtain ⟨rfl, rfl⟩ := hv
  have hm1 := Nat.mul_le_mul_right size hk
  have hm2 := Nat.mul_le_mul_right size hj
  refine ⟨⟨?_, _, _, rfl, by omega, by omega, fun hn => ?_⟩, fun g hg => ?_⟩
  · rw [List.length_take, List.length_drop, hl, Nat.sub_mul]
    omega
  · obtain ⟨g, o, rfl, hb, hcell⟩ := hc (by omega)
    rw [if_neg (by omega)]
    refine ⟨g, o + j * size, by simp [addr_lit _ _ rfl], hb, fun i u hu => ?_⟩
    rw [Nat.add_assoc]
    refine hcell (j * size + i) u ?_
    rw [List.getElem?_take] at hu
    split at hu
    · rw [← hu, List.getElem?_drop]
    · cases hu
  · cases A with
    | none => simp [Value.ownBlock] at hg
    | some a =>
      split at hg
      · exact hg
      · simpa [Value.ownBlock, block_add] using hg
theorem Src.cuth (hE : Try.prog.elem T = E) (hu : Try.prog.underlying T = some (.slice E)) (hinfo : (Try.prog.info? E).map (fun i => (i.zero, i.size, i.bytes)) = some (some z, size, bts)) (h : Src w size (.slice A n c) n vs) (k : Nat) (hk : k ≤ n) :
    ∃ B d, (∀ W : World, (Instr.slice T (.slice A n c) none (some (.int .i64 (k : Int))) none).run Try.prog W = .ok (.slice B k d) W) ∧ Src w size (.slice B k d) k (vs.take (k * size)) ∧ ∀ g, (Value.slice B k d).ownBlock = some g → (Value.slice A n c).ownBlock = some g := by
  have hnc : n ≤ c := by
    obtain ⟨_, A', c', hv, h1, _⟩ := h
    simp only [Value.slice.injEq, true_and] at hv
    omega
  obtain ⟨h1, h2⟩ := h.window 0 k k (Nat.zero_le _) hk rfl
  rw [Nat.zero_mul, List.drop_zero] at h1
  refine ⟨_, _, fun W => ?_, h1, fun g hg => h2 g (by rw [Nat.zero_mul]; exact hg)⟩
  rw [run_slice_h W T A n c (by rw [hE]; exact hu) .i64 (k : Int) (by omega) (by omega), hE, run_size hinfo]
  simp [Result.andThen, sliced]
theorem Src.cutl (hE : Try.prog.elem T = E) (hu : Try.prog.underlying T = some (.slice E)) (hinfo : (Try.prog.info? E).map (fun i => (i.zero, i.size, i.bytes)) = some (some z, size, bts)) (h : Src w size (.slice A n c) n vs) (k : Nat) (hk : k ≤ n) :
    ∃ B d, (∀ W : World, (Instr.slice T (.slice A n c) (some (.int .i64 (k : Int))) none none).run Try.prog W = .ok (.slice B (n - k) d) W) ∧ Src w size (.slice B (n - k) d) (n - k) (vs.drop (k * size)) ∧ ∀ g, (Value.slice B (n - k) d).ownBlock = some g → (Value.slice A n c).ownBlock = some g := by
  have hl := h.1
  obtain ⟨h1, h2⟩ := h.window k n (n - k) hk (Nat.le_refl _) rfl
  rw [List.take_of_length_le (by rw [List.length_drop, hl, Nat.sub_mul]; omega)] at h1
  refine ⟨_, _, fun W => ?_, h1, h2⟩
  rw [run_slice_l W T A n c (by rw [hE]; exact hu) .i64 (k : Int) (by omega) (by omega), hE, run_size hinfo]
  simp [Result.andThen, sliced]
end
end Go.Proofs.Ytlogihcmmoldkaa.W
