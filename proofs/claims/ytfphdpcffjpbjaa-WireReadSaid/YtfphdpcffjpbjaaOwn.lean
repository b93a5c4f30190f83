/-
  Rows of integers, of vectors, of rings that the call owns: one element is appended. Condition: there is room below 2^47 bytes.
-/
import Derived.Test.YtfphdpcffjpbjaaRec
namespace Go.Proofs.Ytfphdpcffjpbjaa.W
open Go.RowKit Go.Proofs.Ytfphdpcffjpbjaa.Pl

/-- the cells of a new block, one element -/
theorem cells_new (w : World) (cs : List Value) (t : TypeId) : ∀ j u, cs[j]? = some u → (w.alloc (.cells cs.toArray t)).cell? ((⟨w.heap.size, 0, none⟩ : Addr).add j) = some u := by
  intro j u hj
  have hadd : (⟨w.heap.size, 0, none⟩ : Addr).add j = ⟨w.heap.size, j, none⟩ := by
    unfold Addr.add
    split <;> simp_all
  rw [hadd, cell_of_row _ w.heap.size j cs.toArray t (0, 0) (heap_alloc_new w _)]
  simpa using hj

section
variable {w : World} {ops : Array Oper} {rest : List Oper} {o : Oper} {a : Act} {Q : Exit → Act → World → Prop}

theorem wp_pushG (hgd : o.guard = none) (s x : Operand) (t e : TypeId) (size bts : Nat) (z : Value)
    (ho : o.op = .call { callee := .builtin .append, args := #[s, x], argTypes := #[t, t] })
    (hu : Try.prog.underlying t = some (.slice e)) (hinfo : (Try.prog.info? e).map (fun i => (i.zero, i.size, i.bytes)) = some (some z, size, bts)) (hz : z.cells.size = size) (hsz : 0 < size)
    (B n : Nat) (v : Value) (vs cs : List Value) (hs : a.eval s = v) (hown : w.ownsRow B e size v n vs) (hcs : cs.length = size) (hone : ∀ u ∈ cs, u.oneCell' = true)
    (hx : a.eval x = .slice (some ⟨w.heap.size, 0, none⟩) 1 1) (hlen : (n + 1) * bts ≤ 140737488355328) (hn : n + 1 ≤ 9223372036854775807) (hB : B ≤ w.heap.size)
    (h : ∀ v' w', w'.ownsRow B e size v' (n + 1) (vs ++ cs) → Grew w w' v v' → wpList Try.prog ops Q rest (a.put o.dst v') w') :
    wpList Try.prog ops Q (o :: rest) a (w.alloc (.cells cs.toArray e)) := by
  obtain ⟨i0, hi, hz0, hz1, hz2⟩ := info_parts hinfo
  refine wpList_append_own_at _ hgd s x _ ho B e i0 z size bts hu hi hz0 hz1 hz2 hz hsz v n vs hs (hown.alloc _)
    ⟨w.heap.size, 0, none⟩ 1 1 cs hx (by omega) (cells_new w cs e) hone (by unfold maxLen; omega) hlen (by simp; omega) ?_
  intro v' w' h1 h2 _ h4
  exact h v' w' h1 ((Grew.alloc w _ v).trans ⟨h2, h4.imp id fun e => ⟨_, e, by simp⟩⟩)
end

theorem info_int : (Try.prog.info? 3).map (fun i => (i.zero, i.size, i.bytes)) = some (some (.int .i64 0), 1, 8) := by kernel_rfl
theorem info_vec : (Try.prog.info? 46).map (fun i => (i.zero, i.size, i.bytes)) = some (some (.agg #[.int .i64 0, .int .i64 0]), 2, 16) := by kernel_rfl
theorem info_ring : (Try.prog.info? 42).map (fun i => (i.zero, i.size, i.bytes)) = some (some (.slice none 0 0), 1, 24) := by kernel_rfl

def OwnI (w : World) (B : Nat) (v : Value) (l : List Int) : Prop := w.ownsRow B 3 1 v l.length (ints l)
def OwnV (w : World) (B : Nat) (v : Value) (l : List (Int × Int)) : Prop := w.ownsRow B 46 2 v l.length (vecs l)
theorem OwnI.nil (w : World) (B : Nat) : OwnI w B (.slice none 0 0) [] := World.ownsRow_nil _ _ _ _
theorem OwnV.nil (w : World) (B : Nat) : OwnV w B (.slice none 0 0) [] := World.ownsRow_nil _ _ _ _

/-- any owned row as a source -/
theorem own_src {w : World} {B e size n : Nat} {v : Value} {vs : List Value} (h : w.ownsRow B e size v n vs) : Src w size v n vs := by
  refine ⟨h.1, ?_⟩
  rcases h.2 with ⟨rfl, h0⟩ | ⟨g, cap, cur, rfl, hb, hg, hcap, hm, hs, ht⟩
  · exact ⟨none, 0, by rw [h0], fun hn => absurd hn (by omega)⟩
  · exact ⟨some ⟨g, 0, none⟩, cap, rfl, fun _ => ⟨_, rfl, (Array.getElem?_eq_some_iff.1 hg).1, World.ownsRow.cells h rfl⟩⟩
theorem own_below {w w' : World} {B e size n : Nat} {v : Value} {vs : List Value} (h : w.ownsRow B e size v n vs) (hb : Below w.heap.size w w') : w'.ownsRow B e size v n vs :=
  World.ownsRow.kept (row := none) h ⟨hb.os, hb.tape, hb.output, hb.size, fun k hk _ => hb.block k hk⟩ (by cases v.ownBlock <;> simp)
theorem own_from {w : World} {B e size n : Nat} {v : Value} {vs : List Value} (h : w.ownsRow B e size v n vs) : ∀ k, v.ownBlock = some k → B ≤ k := fun k hk => (World.ownsRow.lt h k hk).1
/-- beside a block below the row's base -/
theorem own_row {w w' : World} {B e size n C : Nat} {v : Value} {vs : List Value} (h : w.ownsRow B e size v n vs) (hg : w.grownBy w' (some C)) (hC : C < B) : w'.ownsRow B e size v n vs :=
  h.kept hg (by
    cases hv : v.ownBlock with
    | none => exact .inl rfl
    | some k => exact .inr (by have := own_from h k hv; intro e; injection e with e; omega))
theorem own_less {w : World} {B B' e size n : Nat} {v : Value} {vs : List Value} (h : w.ownsRow B e size v n vs) (hB : B' ≤ B) : w.ownsRow B' e size v n vs := by
  refine ⟨h.1, ?_⟩
  rcases h.2 with hn | ⟨g, cap, cur, rfl, hb, r⟩
  · exact .inl hn
  · exact .inr ⟨g, cap, cur, rfl, by omega, r⟩

theorem ints_snoc (l : List Int) (x : Int) : ints (l ++ [x]) = ints l ++ [.int .i64 x] := by simp [ints]
theorem vecs_snoc (l : List (Int × Int)) (p : Int × Int) : vecs (l ++ [p]) = vecs l ++ [.int .i64 p.1, .int .i64 p.2] := by simp [vecs]

/-- a cursor beside appends to a row above it -/
theorem Rec.push {w w' : World} {T C g B : Nat} {l : List Int} {f : Bool} {b v : Value} (h : Rec w T C g l f) (hg : Grew w w' b v) (hb : ∀ k, b.ownBlock = some k → B ≤ k) (hC : C < B) (hgB : l ≠ [] → g < B) : Rec w' T C g l f :=
  h.keep (hg.by_.block C h.lt (fun e => by have := hb C e.symm; omega)) (fun hl hlt => hg.by_.block g hlt (fun e => by have := hb g e.symm; have := hgB hl; omega))
theorem grown_push {w w1 w' : World} {C B : Nat} {b v : Value} (h : w.grownBy w1 (some C)) (hg : Grew w1 w' b v) (hb : ∀ k, b.ownBlock = some k → B ≤ k) (hB : w.heap.size ≤ B) : w.grownBy w' (some C) :=
  ⟨hg.by_.os.trans h.os, hg.by_.tape.trans h.tape, hg.by_.output.trans h.output, Nat.le_trans h.size hg.by_.size,
    fun k hk hne => (hg.by_.block k (Nat.lt_of_lt_of_le hk h.size) (fun e => by have := hb k e.symm; omega)).trans (h.block k hk hne)⟩

/-- the steps of a list -/
def loopL {α : Type} (s : Step α) : Nat → List α → List Int → Bool → List α × List Int × Bool
  | 0, acc, l, f => (acc, l, f)
  | k + 1, acc, l, f => if f = true then (acc, l, f) else loopL s k (acc ++ [(s l f).1]) (s l f).2.1 (s l f).2.2
theorem loopL_failed {α : Type} (s : Step α) (k : Nat) (acc : List α) (l : List Int) : loopL s k acc l true = (acc, l, true) := by
  cases k <;> simp [loopL]
theorem loopL_step {α : Type} (s : Step α) {k : Nat} (hk : 0 < k) (acc : List α) (l : List Int) : loopL s k acc l false = loopL s (k - 1) (acc ++ [(s l false).1]) (s l false).2.1 (s l false).2.2 := by
  obtain ⟨j, rfl⟩ : ∃ j, k = j + 1 := ⟨k - 1, by omega⟩
  simp [loopL]
/-- a step that has not failed takes a byte -/
def Eats {α : Type} (s : Step α) : Prop := ∀ l, (s l false).2.2 = false → (s l false).2.1.length < l.length
theorem eats_sInt : Eats sInt := fun l h => by
  cases l with
  | nil => simp [sInt_nil] at h
  | cons x t =>
    by_cases h1 : 8 < x ∨ t.length < x.toNat
    · rw [sInt_long false h1] at h; cases h
    · by_cases h2 : sz (val (t.take x.toNat)) = x.toNat
      · rw [sInt_good false h1 h2]
        simp
        omega
      · rw [sInt_bad false h1 h2] at h; cases h
theorem suf_le {α : Type} {s : Step α} (h : Suf s) (l : List Int) (f : Bool) : (s l f).2.1.length ≤ l.length := by
  obtain ⟨k, hk⟩ := h l f
  rw [hk, List.length_drop]
  omega
end Go.Proofs.Ytfphdpcffjpbjaa.W
