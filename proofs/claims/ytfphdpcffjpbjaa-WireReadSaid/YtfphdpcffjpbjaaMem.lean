/-
  Small words on memory, over any program: a row of bytes that the call owns, what a chain of appends leaves, a slice that reads as a list. No condition.
-/
import Derived.Test.YtfphdpcffjpbjaaChecked
import Derived.Test.YtfphdpcffjpbjaaPlain
import Derived.WalkKit
import Derived.Lib.Hide
import Derived.WalkSpells
import Derived.WalkLawsBesides
import Derived.Maps.AppendAt
import Derived.Deep.AppendLies
import Derived.Deep.Draws
import Derived.DataReads
namespace Go.Proofs.Ytfphdpcffjpbjaa.W
open Go.RowKit Go.Proofs.Ytfphdpcffjpbjaa.Pl

theorem ret_int {k : IntKind} {a b : Int} (h : a = b) : Ending.returned (.int k a) = .returned (.int k b) := by rw [h]
theorem ret_val {a b : Value} (h : a = b) : Ending.returned a = .returned b := by rw [h]

/-- bytes as cells -/
def bytes (l : List Int) : List Value := l.map (Value.int .u8)
theorem bytes_append (a b : List Int) : bytes (a ++ b) = bytes a ++ bytes b := List.map_append
theorem bytes_length (a : List Int) : (bytes a).length = a.length := List.length_map ..
theorem bytes_one (l : List Int) : ∀ u ∈ bytes l, u.oneCell' = true := fun u hu => by
  obtain ⟨x, _, rfl⟩ := List.mem_map.1 hu
  rfl
theorem bytes_at {l : List Int} {j : Nat} {u : Value} (h : (bytes l)[j]? = some u) : ∃ x, l[j]? = some x ∧ u = .int .u8 x := by
  unfold bytes at h
  rw [List.getElem?_map] at h
  cases hx : l[j]? with
  | none => rw [hx] at h; cases h
  | some x => rw [hx] at h; exact ⟨x, rfl, by injection h with h; exact h.symm⟩

/-- the slice v is the call's own (blocks from B on) and holds the bytes l; E is uint8's number -/
def OwnB (w : World) (B : Nat) (v : Value) (l : List Int) : Prop := w.ownsRow B 5 1 v l.length (bytes l)

theorem OwnB.nil (w : World) (B : Nat) : OwnB w B (.slice none 0 0) [] := World.ownsRow_nil _ _ _ _

/-- w' is w but for new blocks and the row of b; the row of v is b's, or new -/
structure Grew (w w' : World) (b v : Value) : Prop where
  by_ : w.grownBy w' b.ownBlock
  at_ : v.ownBlock = b.ownBlock ∨ ∃ k, v.ownBlock = some k ∧ w.heap.size ≤ k

theorem Grew.size {w w' : World} {b v : Value} (h : Grew w w' b v) : w.heap.size ≤ w'.heap.size := h.by_.size

theorem Grew.refl (w : World) (b : Value) : Grew w w b b := ⟨World.grownBy.refl _ _, .inl rfl⟩

theorem grown_wide {a b : World} {r1 r2 : Option Nat} (h : a.grownBy b r1) (hr : r1 = r2 ∨ ∃ k, r1 = some k ∧ a.heap.size ≤ k) : a.grownBy b r2 := by
  refine ⟨h.os, h.tape, h.output, h.size, fun k hk hne => h.block k hk ?_⟩
  rcases hr with rfl | ⟨j, rfl, hj⟩
  · exact hne
  · intro e
    injection e with e
    omega

theorem Grew.trans {w w1 w2 : World} {b v1 v2 : Value} (h : Grew w w1 b v1) (k : Grew w1 w2 v1 v2) : Grew w w2 b v2 := by
  refine ⟨⟨k.by_.os.trans h.by_.os, k.by_.tape.trans h.by_.tape, k.by_.output.trans h.by_.output, Nat.le_trans h.by_.size k.by_.size, fun i hi hne => ?_⟩, ?_⟩
  · refine (k.by_.block i (Nat.lt_of_lt_of_le hi h.by_.size) ?_).trans (h.by_.block i hi hne)
    rcases h.at_ with e | ⟨j, e, hj⟩
    · rw [e]; exact hne
    · rw [e]
      intro e'
      injection e' with e'
      omega
  · rcases k.at_ with e | ⟨j, e, hj⟩
    · rw [e]; exact h.at_
    · exact .inr ⟨j, e, by have := h.by_.size; omega⟩

/-- new blocks, and what happens to them, below a chain of appends -/
theorem Grew.of_below {w w1 : World} (b : Value) (h : Below w.heap.size w w1) : Grew w w1 b b :=
  ⟨⟨h.os, h.tape, h.output, h.size, fun i hi _ => h.block i hi⟩, .inl rfl⟩
theorem Grew.alloc (w : World) (o : Obj) (b : Value) : Grew w (w.alloc o) b b := Grew.of_below b ((Below.refl _ _).alloc (Nat.le_refl _) o)

theorem Grew.undrew {w w' : World} {b v : Value} (h : Grew w.drew w' b v) : Grew w w' b v := ⟨⟨h.by_.os, h.by_.tape, h.by_.output, h.by_.size, h.by_.block⟩, h.at_⟩
theorem Grew.undrewN {w w' : World} {b v : Value} {n : Nat} (h : Grew (w.drewN n) w' b v) : Grew w w' b v := ⟨⟨h.by_.os, h.by_.tape, h.by_.output, h.by_.size, h.by_.block⟩, h.at_⟩

theorem Grew.below {w w' : World} {b v : Value} {B : Nat} (h : Grew w w' b v) (hB : B ≤ w.heap.size) (hb : ∀ k, b.ownBlock = some k → B ≤ k) : Below B w w' :=
  (Below.refl B w).grown h.by_ hB hb

theorem Grew.of_append {w w' : World} {b v : Value} (h : w.grownBy w' b.ownBlock) (hv : v.ownBlock = b.ownBlock ∨ v.ownBlock = some w.heap.size) : Grew w w' b v :=
  ⟨h, hv.imp id fun e => ⟨_, e, Nat.le_refl _⟩⟩

theorem OwnB.from_ {w : World} {B : Nat} {v : Value} {l : List Int} (h : OwnB w B v l) : ∀ k, v.ownBlock = some k → B ≤ k := fun k hk => (World.ownsRow.lt h k hk).1
theorem OwnB.lt_ {w : World} {B : Nat} {v : Value} {l : List Int} (h : OwnB w B v l) : ∀ k, v.ownBlock = some k → k < w.heap.size := fun k hk => (World.ownsRow.lt h k hk).2
theorem OwnB.alloc {w : World} {B : Nat} {v : Value} {l : List Int} (h : OwnB w B v l) (o : Obj) : OwnB (w.alloc o) B v l := World.ownsRow.alloc h o

theorem info_u8 : (Try.prog.info? 5).map (fun i => (i.zero, i.size, i.bytes)) = some (some (.int .u8 0), 1, 1) := by kernel_rfl

/-- a slice value that reads as n elements of so many cells, wherever it lies; nil and empty ones too -/
def Src (w : World) (size : Nat) (v : Value) (n : Nat) (vs : List Value) : Prop :=
  vs.length = n * size ∧ ∃ A c, v = .slice A n c ∧ (0 < n → ∃ ad : Addr, A = some ad ∧ ad.block < w.heap.size ∧ ∀ j u, vs[j]? = some u → w.cell? (ad.add j) = some u)

theorem block_add (a : Addr) (n : Nat) : (a.add n).block = a.block := by
  unfold Addr.add
  split <;> rfl

theorem Src.keep {w w' : World} {size : Nat} {v : Value} {n : Nat} {vs : List Value} (h : Src w size v n vs) (hs : w.heap.size ≤ w'.heap.size)
    (hk : ∀ p : Addr, p.block < w.heap.size → some p.block ≠ none → (∀ A c, v = .slice (some A) n c → p.block = A.block → w'.cell? p = w.cell? p)) : Src w' size v n vs := by
  obtain ⟨hl, A, c, rfl, hc⟩ := h
  refine ⟨hl, A, c, rfl, fun hn => ?_⟩
  obtain ⟨ad, rfl, hb, hcell⟩ := hc hn
  refine ⟨ad, rfl, by omega, fun j u hu => ?_⟩
  rw [hk (ad.add j) (by rw [block_add]; exact hb) (by simp) ad c rfl (block_add ad j)]
  exact hcell j u hu

theorem Src.below {w w' : World} {size : Nat} {v : Value} {n : Nat} {vs : List Value} (h : Src w size v n vs) (hb : Below w.heap.size w w') : Src w' size v n vs :=
  h.keep hb.size fun _ hp _ _ _ _ _ => hb.cell hp

theorem Src.alloc {w : World} {size : Nat} {v : Value} {n : Nat} {vs : List Value} (h : Src w size v n vs) (o : Obj) : Src (w.alloc o) size v n vs :=
  h.below ((Below.refl _ _).alloc (Nat.le_refl _) o)

/-- behind appends to another row -/
theorem Src.grown {w w' : World} {size : Nat} {v : Value} {n : Nat} {vs : List Value} {row : Option Nat} (h : Src w size v n vs) (hg : w.grownBy w' row) (hne : v.ownBlock = none ∨ v.ownBlock ≠ row) : Src w' size v n vs :=
  h.keep hg.size fun p hp _ A c hv hpA => World.cell?_of_block (hg.block p.block hp (by
    subst hv
    rcases hne with hne | hne
    · simp [Value.ownBlock] at hne
    · rw [hpA]
      exact hne))

theorem OwnB.src {w : World} {B : Nat} {v : Value} {l : List Int} (h : OwnB w B v l) : Src w 1 v l.length (bytes l) := by
  refine ⟨h.1, ?_⟩
  rcases h.2 with ⟨rfl, h0⟩ | ⟨g, cap, cur, rfl, hb, hg, hcap, hm, hs, ht⟩
  · exact ⟨none, 0, by rw [h0], fun hn => absurd hn (by omega)⟩
  · exact ⟨some ⟨g, 0, none⟩, cap, rfl, fun _ => ⟨_, rfl, (Array.getElem?_eq_some_iff.1 hg).1, World.ownsRow.cells h rfl⟩⟩

section
variable {w : World} {ops : Array Oper} {rest : List Oper} {o : Oper} {a : Act} {Q : Exit → Act → World → Prop}

/-- append(s, x) of one byte that has just been laid -/
theorem wp_push (hgd : o.guard = none) (s x : Operand)
    (ho : o.op = .call { callee := .builtin .append, args := #[s, x], argTypes := #[22, 22] })
    (B : Nat) (v : Value) (l : List Int) (y : Int) (hs : a.eval s = v) (hown : OwnB w B v l) (hx : a.eval x = .slice (some ⟨w.heap.size, 0, none⟩) 1 1)
    (hlen : l.length ≤ 140737488355300) (hB : B ≤ w.heap.size)
    (h : ∀ v' w', OwnB w' B v' (l ++ [y]) → Grew w w' v v' → wpList Try.prog ops Q rest (a.put o.dst v') w') :
    wpList Try.prog ops Q (o :: rest) a (w.alloc (.cells #[.int .u8 y] 5)) := by
  obtain ⟨i0, hi, hz0, hz1, hz2⟩ := info_parts info_u8
  refine wpList_append_own_at _ hgd s x _ ho B 5 i0 (.int .u8 0) 1 1 Try.underlying22 hi hz0 hz1 hz2 rfl (by decide) v l.length (bytes l) hs (hown.alloc _)
    ⟨w.heap.size, 0, none⟩ 1 1 [.int .u8 y] hx rfl (cell_one_new _ _ _) (by intro u hu; simp at hu; subst hu; rfl) (by unfold maxLen; omega) (by omega) (by simp; omega) ?_
  intro v' w' h1 h2 _ h4
  refine h v' w' ?_ ?_
  · unfold OwnB
    rw [bytes_append, List.length_append]
    exact h1
  · refine (Grew.alloc w _ v).trans ⟨h2, h4.imp id fun e => ⟨_, e, by simp⟩⟩
/-- append(s, x...) from whatever source -/
theorem wp_app (hgd : o.guard = none) (s x : Operand)
    (ho : o.op = .call { callee := .builtin .append, args := #[s, x], argTypes := #[22, 22] })
    (B : Nat) (v u : Value) (l m : List Int) (hs : a.eval s = v) (hown : OwnB w B v l) (hx : a.eval x = u) (hsrc : Src w 1 u m.length (bytes m))
    (hlen : l.length + m.length ≤ 140737488355328) (hB : B ≤ w.heap.size)
    (h : ∀ v' w', OwnB w' B v' (l ++ m) → Grew w w' v v' → wpList Try.prog ops Q rest (a.put o.dst v') w') :
    wpList Try.prog ops Q (o :: rest) a w := by
  obtain ⟨i0, hi, hz0, hz1, hz2⟩ := info_parts info_u8
  obtain ⟨hl, A, c, rfl, hc⟩ := hsrc
  rcases A with _ | ad
  · have hm : m.length = 0 := by
      rcases Nat.eq_zero_or_pos m.length with h0 | h0
      · exact h0
      · obtain ⟨ad, e, _⟩ := hc h0
        cases e
    obtain rfl : m = [] := List.eq_nil_of_length_eq_zero hm
    refine wpList_plain hgd fun K hK => ?_
    have hrun : (Builtin.append_ #[22, 22] o.type #[v, .slice none 0 c]).run Try.prog w = .ok v w := by
      rcases hown.2 with ⟨rfl, h0⟩ | ⟨g, cap, cur, rfl, _, _, hnc, _⟩
      · simp [Builtin.append_, run_underlying Try.underlying22, sizeOf, typeInfo, hi, Builtin.lenOf, Builtin.firstCells]
      · simp [Builtin.append_, run_underlying Try.underlying22, sizeOf, typeInfo, hi, Builtin.lenOf, Builtin.firstCells, hnc, storeCells]
    unfold Oper.wp
    simp [execOp, ho, resolve, invoke, builtin, hs, hx, hrun, Result.andThen]
    exact hK _ _ (h _ _ (by simpa using hown) (Grew.refl _ _))
  · have hcell : ∀ j u, (bytes m)[j]? = some u → w.cell? (ad.add j) = some u := by
      intro j u hu
      rcases Nat.eq_zero_or_pos m.length with h0 | h0
      · obtain rfl : m = [] := List.eq_nil_of_length_eq_zero h0
        cases hu
      · obtain ⟨ad', e, _, hcc⟩ := hc h0
        have e2 := Option.some.inj e
        subst e2
        exact hcc j u hu
    refine wpList_append_own_at _ hgd s x _ ho B 5 i0 (.int .u8 0) 1 1 Try.underlying22 hi hz0 hz1 hz2 rfl (by decide) v l.length (bytes l) hs hown
      ad m.length c (bytes m) hx hl hcell (bytes_one m) (by unfold maxLen; omega) (by omega) hB ?_
    intro v' w' h1 h2 _ h4
    refine h v' w' ?_ (Grew.of_append h2 h4)
    unfold OwnB
    rw [bytes_append, List.length_append]
    exact h1
end

/-- the string of such a slice -/
theorem Src.convert {w : World} {v : Value} {l : List Int} (h : Src w 1 v l.length (bytes l)) :
    (convert 22 9 v).run Try.prog w = .ok (.string (strOfNums l)) w := by
  obtain ⟨hl, A, c, rfl, hc⟩ := h
  rcases A with _ | ad
  · have hm : l.length = 0 := by
      rcases Nat.eq_zero_or_pos l.length with h0 | h0
      · exact h0
      · obtain ⟨ad, e, _⟩ := hc h0
        cases e
    obtain rfl : l = [] := List.eq_nil_of_length_eq_zero hm
    exact run_convert_bytes_nil w _ _ Try.underlying22 Try.underlying5 _ _ _ Try.underlying9
  · have hcell : ∀ j u, (bytes l)[j]? = some u → w.cell? (ad.add j) = some u := by
      intro j u hu
      rcases Nat.eq_zero_or_pos l.length with h0 | h0
      · obtain rfl : l = [] := List.eq_nil_of_length_eq_zero h0
        cases hu
      · obtain ⟨ad', e, _, hcc⟩ := hc h0
        have e2 := Option.some.inj e
        subst e2
        exact hcc j u hu
    have hld : (loadCells ad l.length).run Try.prog w = .ok (l.map (Value.int .u8)).toArray w := by
      have := run_loadCells_list (P := Try.prog) w ad (bytes l) hcell
      rw [bytes_length] at this
      exact this
    rw [run_convert_bytes_string w _ _ _ (some ad) l.length c Try.underlying22 Try.underlying5 Try.underlying9, run_bytesToString w ad l.length c l hld, foldl_push_bytes]
    simp [strOfNums, ByteArray.empty, ByteArray.emptyWithCapacity]
    rfl

/-- two lists of bytes are equal if their strings are -/
def eqB (a b : List Int) : Bool := decide (a = b)
theorem eqB_self (a : List Int) : eqB a a = true := decide_eq_true rfl
theorem toNats_inj : ∀ {a b : List Int}, By a → By b → a.map (fun n => UInt8.ofNat n.toNat) = b.map (fun n => UInt8.ofNat n.toNat) → a = b
  | [], [], _, _, _ => rfl
  | [], _ :: _, _, _, h => by cases h
  | _ :: _, [], _, _, h => by cases h
  | x :: a, y :: b, ha, hb, h => by
    rw [List.map_cons, List.map_cons] at h
    injection h with h1 h2
    have hx := ha x (by simp)
    have hy := hb y (by simp)
    have e : (UInt8.ofNat x.toNat).toNat = (UInt8.ofNat y.toNat).toNat := by rw [h1]
    simp at e
    have hxy : x = y := by omega
    rw [hxy, toNats_inj (fun z hz => ha z (by simp [hz])) (fun z hz => hb z (by simp [hz])) h2]
theorem str_eqB {a b : List Int} (ha : By a) (hb : By b) : ((strOfNums a).toList == (strOfNums b).toList) = eqB a b := by
  have e : ∀ l, (strOfNums l).toList = l.map (fun n => UInt8.ofNat n.toNat) := fun l => by
    simp [strOfNums]
  unfold eqB
  rw [e, e, Bool.eq_iff_iff]
  simp only [beq_iff_eq, decide_eq_true_eq]
  exact ⟨toNats_inj ha hb, fun h => by rw [h]⟩


/-- a literal []byte{..} -/
theorem OwnB.lit (w : World) (B : Nat) (l : List Int) (hB : B ≤ w.heap.size) (hl : l.length ≤ maxLen) :
    OwnB (w.alloc (.cells (bytes l).toArray 5)) B (.slice (some ⟨w.heap.size, 0, none⟩) l.length l.length) l :=
  ⟨by rw [bytes_length]; omega, .inr ⟨w.heap.size, l.length, (bytes l).toArray, rfl, hB, heap_alloc_new w _, Nat.le_refl _, hl, by simp [bytes_length], by simp [bytes_length, List.take_of_length_le]⟩⟩
theorem Src.lit (w : World) (l : List Int) (hl : l.length ≤ maxLen) : Src (w.alloc (.cells (bytes l).toArray 5)) 1 (.slice (some ⟨w.heap.size, 0, none⟩) l.length l.length) l.length (bytes l) :=
  (OwnB.lit w 0 l (Nat.zero_le _) hl).src

/-- where it lies, if it holds something -/
theorem Src.form {w : World} {size : Nat} {v : Value} {n : Nat} {vs : List Value} (h : Src w size v n vs) (hn : 0 < n) (hs : 0 < size) :
    ∃ g o c, v = .slice (some ⟨g, o, none⟩) n c ∧ ∀ j u, vs[j]? = some u → w.cell? ⟨g, o + j, none⟩ = some u := by
  obtain ⟨hl, A, c, rfl, hc⟩ := h
  obtain ⟨ad, rfl, hb, hcell⟩ := hc hn
  have hpos : 0 < vs.length := by rw [hl]; exact Nat.mul_pos hn hs
  have h0 := hcell 0 vs[0] (List.getElem?_eq_getElem hpos)
  obtain ⟨g, o, sp⟩ := ad
  have hsp : sp = none := by simpa [Addr.add] using World.cell?_spot h0
  subst hsp
  refine ⟨g, o, c, rfl, fun j u hu => ?_⟩
  have := hcell j u hu
  have hadd : (⟨g, o, none⟩ : Addr).add j = ⟨g, o + j, none⟩ := by
    unfold Addr.add
    split <;> simp_all
  rwa [hadd] at this

theorem Src.shape {w : World} {size : Nat} {v : Value} {n : Nat} {vs : List Value} (h : Src w size v n vs) : ∃ A c, v = .slice A n c := by
  obtain ⟨_, A, c, rfl, _⟩ := h
  exact ⟨A, c, rfl⟩

def ints (l : List Int) : List Value := l.map (Value.int .i64)
theorem ints_at {l : List Int} {j : Nat} {x : Int} (h : l[j]? = some x) : (ints l)[j]? = some (.int .i64 x) := by unfold ints; rw [List.getElem?_map, h]; rfl
def SrcI (w : World) (v : Value) (l : List Int) : Prop := Src w 1 v l.length (ints l)

theorem Grew.keepSrc {w w' : World} {b b' v : Value} {size n : Nat} {vs : List Value} (h : Grew w w' b b') (hs : Src w size v n vs) (hne : v.ownBlock = none ∨ v.ownBlock ≠ b.ownBlock) : Src w' size v n vs := hs.grown h.by_ hne

theorem OwnB.below {w w' : World} {B : Nat} {v : Value} {l : List Int} (h : OwnB w B v l) (hb : Below w.heap.size w w') : OwnB w' B v l :=
  World.ownsRow.kept (row := none) h ⟨hb.os, hb.tape, hb.output, hb.size, fun k hk _ => hb.block k hk⟩ (by cases v.ownBlock <;> simp)
theorem OwnB.grown {w w' : World} {B : Nat} {v : Value} {l : List Int} {row : Option Nat} (h : OwnB w B v l) (hg : w.grownBy w' row) (hne : v.ownBlock = none ∨ v.ownBlock ≠ row) : OwnB w' B v l :=
  World.ownsRow.kept h hg hne
theorem OwnB.less {w : World} {B B' : Nat} {v : Value} {l : List Int} (h : OwnB w B v l) (hB : B' ≤ B) : OwnB w B' v l := by
  refine ⟨h.1, ?_⟩
  rcases h.2 with hn | ⟨g, cap, cur, rfl, hb, r⟩
  · exact .inl hn
  · exact .inr ⟨g, cap, cur, rfl, by omega, r⟩

/-- vectors as cells -/
def vecs (r : List (Int × Int)) : List Value := r.flatMap fun p => [.int .i64 p.1, .int .i64 p.2]
def SrcV (w : World) (v : Value) (r : List (Int × Int)) : Prop := Src w 2 v r.length (vecs r)
theorem vecs_length : ∀ (r : List (Int × Int)), (vecs r).length = r.length * 2
  | [] => rfl
  | p :: r => by
    have := vecs_length r
    unfold vecs at this ⊢
    rw [List.flatMap_cons, List.length_append, List.length_cons, this]
    simp
    omega
theorem vecs_at : ∀ {r : List (Int × Int)} {k : Nat} {p : Int × Int}, r[k]? = some p → (vecs r)[k * 2]? = some (.int .i64 p.1) ∧ (vecs r)[k * 2 + 1]? = some (.int .i64 p.2)
  | [], k, p, h => by simp at h
  | q :: r, 0, p, h => by
    simp at h
    subst h
    exact ⟨rfl, rfl⟩
  | q :: r, k + 1, p, h => by
    have h' : r[k]? = some p := by simpa using h
    have := vecs_at h'
    have e : vecs (q :: r) = .int .i64 q.1 :: .int .i64 q.2 :: vecs r := rfl
    rw [e]
    have e1 : (k + 1) * 2 = k * 2 + 1 + 1 := by omega
    rw [e1]
    exact this
end Go.Proofs.Ytfphdpcffjpbjaa.W
