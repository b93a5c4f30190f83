/-
  Words on readers and cursors: a block of two cells, the bytes that are left and whether a method has failed; and the plain function that reads an integer. No condition.
-/
import Derived.Test.YtfphdpcffjpbjaaMem
import Derived.Laws.BitsAllLaws
import Derived.Laws.BitsLemmas
namespace Go.Proofs.Ytfphdpcffjpbjaa.Pl
open Go.RowKit (wrap64)

/-- an integer is read off the bytes -/
def pInt : List Int → Option (Int × List Int)
  | [] => none
  | s :: t => if 8 < s ∨ t.length < s.toNat then none else if sz (val (t.take s.toNat)) = s.toNat then some (val (t.take s.toNat), t.drop s.toNat) else none

theorem pInt_cons (s : Int) (t : List Int) : pInt (s :: t) = if 8 < s ∨ t.length < s.toNat then none else if sz (val (t.take s.toNat)) = s.toNat then some (val (t.take s.toNat), t.drop s.toNat) else none := rfl

/-- a step of a cursor: what is returned, what is left, whether a step has failed -/
abbrev Step (α : Type) := List Int → Bool → α × List Int × Bool
def sInt : Step Int := fun l f => match pInt l with | some (n, r) => (n, r, f) | none => (0, l, true)

theorem sInt_nil (f : Bool) : sInt [] f = (0, [], true) := rfl
theorem sInt_long {s : Int} {t : List Int} (f : Bool) (h : 8 < s ∨ t.length < s.toNat) : sInt (s :: t) f = (0, s :: t, true) := by unfold sInt; rw [pInt_cons, if_pos h]
theorem sInt_bad {s : Int} {t : List Int} (f : Bool) (h : ¬ (8 < s ∨ t.length < s.toNat)) (h2 : sz (val (t.take s.toNat)) ≠ s.toNat) : sInt (s :: t) f = (0, s :: t, true) := by unfold sInt; rw [pInt_cons, if_neg h, if_neg h2]
theorem sInt_good {s : Int} {t : List Int} (f : Bool) (h : ¬ (8 < s ∨ t.length < s.toNat)) (h2 : sz (val (t.take s.toNat)) = s.toNat) : sInt (s :: t) f = (val (t.take s.toNat), t.drop s.toNat, f) := by unfold sInt; rw [pInt_cons, if_neg h, if_pos h2]

/-- k bytes' value is in range -/
theorem val_range : ∀ (r : List Int), By r.reverse → r.length ≤ 8 → r ≠ [] → -(2 ^ (8 * r.length - 1)) ≤ val r.reverse ∧ val r.reverse < 2 ^ (8 * r.length - 1) := by
  intro r
  induction r with
  | nil => intro _ _ h; exact absurd rfl h
  | cons x r ih =>
    intro hb hl _
    rw [List.reverse_cons] at hb ⊢
    have hx := hb.right x (by simp)
    by_cases ha : r = []
    · subst ha
      simp only [List.reverse_nil, List.nil_append, List.length_cons, List.length_nil, val, dec, sgn]
      have : (2 : Int) ^ (8 * (0 + 1) - 1) = 128 := rfl
      rw [this]
      split <;> omega
    · have hn : r.reverse ≠ [] := by simpa using ha
      have h1 := ih hb.left (by simp at hl; omega) ha
      have hpos : 1 ≤ r.length := by
        cases r with
        | nil => exact absurd rfl ha
        | cons _ _ => simp
      rw [val_snoc _ _ hn, List.length_cons, pow_pred r.length hpos]
      omega

theorem val_i64 {l : List Int} (hb : By l) (hl : l.length ≤ 8) : I64 (val l) := by
  by_cases h0 : l = []
  · subst h0; exact ⟨by decide, by decide⟩
  · have h := val_range l.reverse (by simpa using hb) (by simpa using hl) (by simpa using h0)
    rw [List.reverse_reverse, List.length_reverse] at h
    have hm : (2 : Int) ^ (8 * l.length - 1) ≤ 2 ^ 63 := by
      have hk : 8 * l.length - 1 ≤ 63 := by omega
      have := Nat.pow_le_pow_right (n := 2) (by omega) hk
      exact_mod_cast this
    have e63 : (2 : Int) ^ 63 = 9223372036854775808 := rfl
    rw [e63] at hm
    exact ⟨by omega, by omega⟩

/-- one byte less: the value has room for another -/
theorem val_i56 {l : List Int} (hb : By l) (hl : l.length ≤ 7) : -36028797018963968 ≤ val l ∧ val l ≤ 36028797018963967 := by
  by_cases h0 : l = []
  · subst h0; exact ⟨by decide, by decide⟩
  · have h := val_range l.reverse (by simpa using hb) (by simp; omega) (by simpa using h0)
    rw [List.reverse_reverse, List.length_reverse] at h
    have hm : (2 : Int) ^ (8 * l.length - 1) ≤ 2 ^ 55 := by
      have hk : 8 * l.length - 1 ≤ 55 := by omega
      have := Nat.pow_le_pow_right (n := 2) (by omega) hk
      exact_mod_cast this
    have e55 : (2 : Int) ^ 55 = 36028797018963968 := rfl
    rw [e55] at hm
    exact ⟨by omega, by omega⟩

theorem i8_sgn {y : Int} (h : 0 ≤ y ∧ y < 256) : wrap64 (IntKind.i8.wrap y) = sgn y := by
  obtain ⟨h1, h2⟩ := h
  unfold sgn
  simp only [RowKit.wrap64, IntKind.wrap, IntKind.bits, IntKind.signed]
  simp
  split <;> omega

theorem or_byte {v y : Int} (hv : -36028797018963968 ≤ v ∧ v ≤ 36028797018963967) (hy : 0 ≤ y ∧ y < 256) : bits BinOp.or IntKind.i64 (v * 256) y = v * 256 + y := by
  show IntKind.i64.wrap ((BitVec.ofInt 64 (v * 256) ||| BitVec.ofInt 64 y).toNat : Int) = _
  rw [BitVec.toNat_or, BitVec.toNat_ofInt, BitVec.toNat_ofInt]
  obtain ⟨m, hm⟩ : ∃ m : Nat, (v * 256 % ((2 ^ 64 : Nat) : Int)).toNat = 2 ^ 8 * m := ⟨(v * 256 % ((2 ^ 64 : Nat) : Int)).toNat / 256, by
    have e : ((2 ^ 64 : Nat) : Int) = 18446744073709551616 := rfl
    rw [e]
    omega⟩
  have hy2 : (y % ((2 ^ 64 : Nat) : Int)).toNat = y.toNat := by
    have e : ((2 ^ 64 : Nat) : Int) = 18446744073709551616 := rfl
    rw [e]
    omega
  rw [hm, hy2, ← Nat.two_pow_add_eq_or_of_lt (i := 8) (by omega), ← hm, IntKind.wrap_i64]
  have e : ((2 ^ 64 : Nat) : Int) = 18446744073709551616 := rfl
  rw [e]
  omega

theorem take_one {x : List Int} {y : Int} (h : x[0]? = some y) : val (x.take 1) = sgn y := by
  cases x with
  | nil => cases h
  | cons z x =>
    simp at h
    subst h
    rfl
theorem take_more {x : List Int} {y : Int} {j : Nat} (h : x[j]? = some y) (h0 : ¬ j = 0) : val (x.take (j + 1)) = val (x.take j) * 256 + y := by
  have hlt := (List.getElem?_eq_some_iff.1 h).1
  rw [List.take_add_one, h]
  refine val_snoc _ y ?_
  intro e
  have := congrArg List.length e
  rw [List.length_take, List.length_nil] at this
  omega

theorem By.take {l : List Int} (h : By l) (k : Nat) : By (l.take k) := fun x hx => h x (List.mem_of_mem_take hx)
theorem By.drop {l : List Int} (h : By l) (k : Nat) : By (l.drop k) := fun x hx => h x (List.mem_of_mem_drop hx)
theorem By.tail {x : Int} {l : List Int} (h : By (x :: l)) : By l := fun y hy => h y (List.mem_cons_of_mem _ hy)
theorem By.head {x : Int} {l : List Int} (h : By (x :: l)) : 0 ≤ x ∧ x < 256 := h x List.mem_cons_self
end Go.Proofs.Ytfphdpcffjpbjaa.Pl

namespace Go.Proofs.Ytfphdpcffjpbjaa.W
open Go.RowKit Go.Proofs.Ytfphdpcffjpbjaa.Pl

/-- the slice value reads as these bytes, in block g -/
def Rest (w : World) (g : Nat) (rest : Value) (l : List Int) : Prop :=
  ∃ (A : Option Addr) (c : Nat), rest = .slice A l.length c ∧ l.length ≤ c ∧ c ≤ maxLen ∧ (l ≠ [] → ∃ o, A = some ⟨g, o, none⟩ ∧ ∀ (i : Nat) (x : Int), l[i]? = some x → w.cell? ⟨g, o + i, none⟩ = some (.int .u8 x))

/-- block R, of type T, is a reader (a cursor) with the bytes l left and the mark f -/
def Rec (w : World) (T R g : Nat) (l : List Int) (f : Bool) : Prop :=
  ∃ rest, w.heap[R]? = some (.cells #[rest, .bool f] T (0, 0)) ∧ Rest w g rest l ∧ (l ≠ [] → R ≠ g)

theorem block_lt {w : World} {b : Nat} {o : Obj} (h : w.heap[b]? = some o) : b < w.heap.size := (Array.getElem?_eq_some_iff.1 h).1

theorem Rest.keep {w w' : World} {g : Nat} {rest : Value} {l : List Int} (h : Rest w g rest l) (hk : l ≠ [] → g < w.heap.size → w'.heap[g]? = w.heap[g]?) : Rest w' g rest l := by
  obtain ⟨A, c, rfl, h1, h2, h3⟩ := h
  refine ⟨A, c, rfl, h1, h2, fun hl => ?_⟩
  obtain ⟨o, rfl, hc⟩ := h3 hl
  refine ⟨o, rfl, fun i x hx => ?_⟩
  have := hc i x hx
  exact (World.cell?_of_block (w := w) (hk hl (World.block_lt_of_cell? w _ this))).trans this

theorem Rec.lt {w : World} {T R g : Nat} {l : List Int} {f : Bool} (h : Rec w T R g l f) : R < w.heap.size := by
  obtain ⟨_, h, _⟩ := h
  exact block_lt h

theorem Rec.keep {w w' : World} {T R g : Nat} {l : List Int} {f : Bool} (h : Rec w T R g l f) (hR : w'.heap[R]? = w.heap[R]?) (hg : l ≠ [] → g < w.heap.size → w'.heap[g]? = w.heap[g]?) : Rec w' T R g l f := by
  obtain ⟨rest, h1, h2, h3⟩ := h
  exact ⟨rest, hR.trans h1, h2.keep hg, h3⟩

theorem Rec.grown {w w' : World} {T R g : Nat} {l : List Int} {f : Bool} {row : Option Nat} (h : Rec w T R g l f) (hg : w.grownBy w' row) (h1 : row ≠ some R) (h2 : row ≠ some g) : Rec w' T R g l f :=
  h.keep (hg.block R h.lt (fun e => h1 e.symm)) (fun _ hlt => hg.block g hlt (fun e => h2 e.symm))
theorem Rec.below {w w' : World} {T R g : Nat} {l : List Int} {f : Bool} (h : Rec w T R g l f) (hb : Below w.heap.size w w') : Rec w' T R g l f :=
  h.keep (hb.block R h.lt) (fun _ hlt => hb.block g hlt)

/-- the cells of a block of two -/
theorem two_cell {w : World} {b : Nat} {x y : Value} {t : TypeId} (h : w.heap[b]? = some (.cells #[x, y] t (0, 0))) : w.cell? ⟨b, 0, none⟩ = some x ∧ w.cell? ⟨b, 1, none⟩ = some y ∧ w.frozen? ⟨b, 0, none⟩ = false ∧ w.frozen? ⟨b, 1, none⟩ = false := by
  refine ⟨?_, ?_, ?_, ?_⟩ <;> simp [World.cell?, World.frozen?, h]

theorem two_set0 {w : World} {b : Nat} {x y u : Value} {t : TypeId} (h : w.heap[b]? = some (.cells #[x, y] t (0, 0))) : (w.setCell ⟨b, 0, none⟩ u).heap[b]? = some (.cells #[u, y] t (0, 0)) := by
  simp [World.setCell, Array.getElem?_modify, h]
theorem two_set1 {w : World} {b : Nat} {x y u : Value} {t : TypeId} (h : w.heap[b]? = some (.cells #[x, y] t (0, 0))) : (w.setCell ⟨b, 1, none⟩ u).heap[b]? = some (.cells #[x, u] t (0, 0)) := by
  simp [World.setCell, Array.getElem?_modify, h]

theorem grown_setCell (w : World) (b o : Nat) (u : Value) : w.grownBy (w.setCell ⟨b, o, none⟩ u) (some b) :=
  ⟨rfl, rfl, rfl, by simp [World.setCell], fun k _ hne => Below.heap_setCell w ⟨b, o, none⟩ u k (fun e => hne (by rw [e]))⟩

theorem Rec.fail {w : World} {T R g : Nat} {l : List Int} {f : Bool} (h : Rec w T R g l f) : Rec (w.setCell ⟨R, 1, none⟩ (.bool true)) T R g l true := by
  obtain ⟨rest, h1, h2, h3⟩ := h
  exact ⟨rest, two_set1 h1, h2.keep (fun hl _ => Below.heap_setCell w ⟨R, 1, none⟩ _ g (fun e => h3 hl e.symm)), h3⟩

theorem Rec.rest {w : World} {T R g : Nat} {l l' : List Int} {f : Bool} {rest' : Value} (h : Rec w T R g l f) (hr : Rest w g rest' l') (hl : l' ≠ [] → l ≠ []) : Rec (w.setCell ⟨R, 0, none⟩ rest') T R g l' f := by
  obtain ⟨rest, h1, h2, h3⟩ := h
  exact ⟨rest', two_set0 h1, hr.keep (fun hl' _ => Below.heap_setCell w ⟨R, 0, none⟩ _ g (fun e => h3 (hl hl') e.symm)), fun hl' => h3 (hl hl')⟩

theorem elem_u8 : Try.prog.elem 22 = 5 := by kernel_rfl
theorem size_u8 (w : World) : (sizeOf 5).run Try.prog w = .ok 1 w := by
  obtain ⟨i0, hi, hz0, hz1, hz2⟩ := info_parts info_u8
  simp [sizeOf, typeInfo, hi, hz1]

/-- rest[k:]: one value, in every world; it reads as the bytes behind k -/
theorem Rest.cut {w : World} {g : Nat} {A : Option Addr} {n c : Nat} {l : List Int} (h : Rest w g (.slice A n c) l) (k : Nat) (hk : k ≤ l.length) :
    ∃ v, (∀ W : World, (Instr.slice 22 (.slice A n c) (some (.int .i64 (k : Int))) none none).run Try.prog W = .ok v W) ∧ Rest w g v (l.drop k) := by
  obtain ⟨A', c', hv, h1, h2, h3⟩ := h
  simp only [Value.slice.injEq] at hv
  obtain ⟨rfl, rfl, rfl⟩ := hv
  have hu : Try.prog.underlying 22 = some (.slice (Try.prog.elem 22)) := by rw [elem_u8]; exact Try.underlying22
  refine ⟨sliced A k l.length c 1, fun W => ?_, ?_⟩
  · rw [run_slice_l W 22 A l.length c hu .i64 (k : Int) (by omega) (by omega), elem_u8, size_u8]
    simp [Result.andThen]
  · refine ⟨if c = k then A else A.map (·.add (k * 1)), c - k, by rw [List.length_drop]; rfl, by rw [List.length_drop]; omega, by omega, fun hl => ?_⟩
    have hlt : k < l.length := by
      rcases Nat.lt_or_ge k l.length with h' | h'
      · exact h'
      · exact absurd (List.drop_eq_nil_of_le h') hl
    obtain ⟨o, rfl, hc⟩ := h3 (by intro e; subst e; simp at hlt)
    refine ⟨o + k, ?_, fun i x hx => ?_⟩
    · rw [if_neg (by omega)]
      unfold Addr.add
      by_cases h0 : k = 0
      · subst h0; simp
      · simp [h0]
    · rw [Nat.add_assoc]
      exact hc (k + i) x (by rw [← hx, List.getElem?_drop])

/-- rest[j:h] -/
theorem Rest.win {w : World} {g : Nat} {A : Option Addr} {n c : Nat} {l : List Int} (h : Rest w g (.slice A n c) l) (j k : Nat) (hj : j ≤ k) (hk : k ≤ l.length) :
    ∃ B m d, (∀ W : World, (Instr.slice 22 (.slice A n c) (some (.int .i64 (j : Int))) (some (.int .i64 (k : Int))) none).run Try.prog W = .ok (.slice B m d) W) ∧ m = k - j ∧ Rest w g (.slice B m d) ((l.drop j).take (k - j)) := by
  obtain ⟨A', c', hv, h1, h2, h3⟩ := h
  simp only [Value.slice.injEq] at hv
  obtain ⟨rfl, rfl, rfl⟩ := hv
  have hu : Try.prog.underlying 22 = some (.slice (Try.prog.elem 22)) := by rw [elem_u8]; exact Try.underlying22
  refine ⟨if c = j then A else A.map (·.add (j * 1)), k - j, c - j, fun W => ?_, rfl, ?_⟩
  · rw [run_slice_lh W 22 A l.length c hu .i64 .i64 (j : Int) (k : Int) (by omega) (by omega) (by omega), elem_u8, size_u8]
    simp [Result.andThen, sliced]
  · have hlen : ((l.drop j).take (k - j)).length = k - j := by simp; omega
    refine ⟨if c = j then A else A.map (·.add (j * 1)), c - j, by rw [hlen], by rw [hlen]; omega, by omega, fun hl => ?_⟩
    have hlt : j < k := by
      rcases Nat.lt_or_ge j k with h' | h'
      · exact h'
      · exact absurd (List.eq_nil_of_length_eq_zero (by rw [hlen]; omega)) hl
    obtain ⟨o, rfl, hc⟩ := h3 (by intro e; subst e; simp at hk; omega)
    refine ⟨o + j, ?_, fun i x hx => ?_⟩
    · rw [if_neg (by omega)]
      unfold Addr.add
      by_cases h0 : j = 0
      · subst h0; simp
      · simp [h0]
    · rw [Nat.add_assoc]
      rw [List.getElem?_take] at hx
      split at hx
      · exact hc (j + i) x (by rw [← hx, List.getElem?_drop])
      · cases hx

/-- rest[k:] where it moves on -/
theorem Rest.adv {w : World} {g o n c k : Nat} {l : List Int} (h : Rest w g (.slice (some ⟨g, o, none⟩) n c) l) (hk : k ≤ n) : Rest w g (.slice (some ⟨g, o + k, none⟩) (n - k) (c - k)) (l.drop k) := by
  obtain ⟨A', c', hv, h1, h2, h3⟩ := h
  simp only [Value.slice.injEq] at hv
  obtain ⟨rfl, rfl, rfl⟩ := hv
  refine ⟨_, _, by rw [List.length_drop], by rw [List.length_drop]; omega, by omega, fun hl => ⟨_, rfl, fun i x hx => ?_⟩⟩
  obtain ⟨o', ho, hc⟩ := h3 (by rintro rfl; simp at hl)
  simp only [Option.some.injEq, Addr.mk.injEq, true_and, and_true] at ho
  subst ho
  rw [Nat.add_assoc]
  exact hc (k + i) x (by rw [← hx, List.getElem?_drop])

/-- rest[k:] where nothing is left -/
theorem Rest.none_ (w : World) (g : Nat) (A : Option Addr) (c : Nat) (hc : c ≤ maxLen) : Rest w g (.slice A 0 c) [] := ⟨A, c, rfl, by simp, hc, fun h => absurd rfl h⟩

theorem Rest.len {w : World} {g : Nat} {A : Option Addr} {n c : Nat} {l : List Int} (h : Rest w g (.slice A n c) l) : n = l.length ∧ n ≤ c ∧ c ≤ maxLen := by
  obtain ⟨A', c', hv, h1, h2, h3⟩ := h
  simp only [Value.slice.injEq] at hv
  obtain ⟨rfl, rfl, rfl⟩ := hv
  exact ⟨rfl, h1, h2⟩
theorem Rest.at_ {w : World} {g o n c : Nat} {l : List Int} (h : Rest w g (.slice (some ⟨g, o, none⟩) n c) l) {i : Nat} {x : Int} (hx : l[i]? = some x) : w.cell? ⟨g, o + i, none⟩ = some (.int .u8 x) := by
  obtain ⟨A', c', hv, h1, h2, h3⟩ := h
  simp only [Value.slice.injEq] at hv
  obtain ⟨rfl, rfl, rfl⟩ := hv
  obtain ⟨o', ho, hc⟩ := h3 (by rintro rfl; simp at hx)
  simp only [Option.some.injEq, Addr.mk.injEq, true_and, and_true] at ho
  subst ho
  exact hc i x hx
theorem Rest.form {w : World} {g : Nat} {rest : Value} {l : List Int} (h : Rest w g rest l) (hl : l ≠ []) : ∃ o n c, rest = .slice (some ⟨g, o, none⟩) n c := by
  obtain ⟨A, c, rfl, h1, h2, h3⟩ := h
  obtain ⟨o, rfl, _⟩ := h3 hl
  exact ⟨_, _, _, rfl⟩

theorem OwnB.rest_ {w : World} {B : Nat} {v : Value} {l : List Int} (h : OwnB w B v l) (hB : B ≤ w.heap.size) : ∃ A c g, v = .slice A l.length c ∧ B ≤ g ∧ Rest w g v l ∧ (l ≠ [] → g < w.heap.size) := by
  rcases h.2 with ⟨rfl, h0⟩ | ⟨g, cap, cur, rfl, hb, hg, hcap, hm, hs, ht⟩
  · obtain rfl : l = [] := List.eq_nil_of_length_eq_zero h0
    exact ⟨none, 0, w.heap.size, rfl, hB, Rest.none_ _ _ _ _ (Nat.zero_le _), fun h => absurd rfl h⟩
  · refine ⟨some ⟨g, 0, none⟩, cap, g, rfl, hb, ⟨_, _, rfl, hcap, hm, fun _ => ⟨0, rfl, fun i x hx => ?_⟩⟩, fun _ => block_lt hg⟩
    have := World.ownsRow.cells h (g := g) rfl i (.int .u8 x) (by unfold bytes; rw [List.getElem?_map, hx]; rfl)
    have hadd : (⟨g, 0, none⟩ : Addr).add i = ⟨g, 0 + i, none⟩ := by
      unfold Addr.add
      split <;> simp_all
    rw [hadd] at this
    exact this

/-- a new block of two cells -/
theorem Rec.new {w : World} {T g : Nat} {l : List Int} {rest : Value} {f : Bool} (h : Rest w g rest l) (hg : l ≠ [] → g < w.heap.size) : Rec (w.alloc (.cells #[rest, .bool f] T)) T w.heap.size g l f :=
  ⟨rest, heap_alloc_new w _, h.keep (fun _ hlt => Below.heap_alloc w _ g hlt), fun hl e => by have := hg hl; omega⟩

/-- what a method leaves that decodes: a value, what is left, whether it has failed -/
def Dec {α : Type} (T : Nat) (Rv : World → Value → α → Prop) (s : Step α) (w : World) (R g : Nat) (l : List Int) (f : Bool) (e : Ending) (w' : World) : Prop :=
  ∃ v, e = .returned v ∧ Rv w' v (s l f).1 ∧ Rec w' T R g (s l f).2.1 (s l f).2.2 ∧ w.grownBy w' (some R)

/-- a reader's step out of a cursor's -/
def rd {α : Type} (z : α) (s : Step α) : Step α := fun l f => if f = true then (z, l, true) else if (s l false).2.2 = true then (z, l, true) else ((s l false).1, (s l false).2.1, false)
theorem rd_failed {α : Type} (z : α) (s : Step α) (l : List Int) : rd z s l true = (z, l, true) := rfl
theorem rd_bad {α : Type} {z : α} {s : Step α} {l : List Int} (h : (s l false).2.2 = true) : rd z s l false = (z, l, true) := by simp [rd, h]
theorem rd_good {α : Type} {z : α} {s : Step α} {l : List Int} (h : (s l false).2.2 = false) : rd z s l false = ((s l false).1, (s l false).2.1, false) := by simp [rd, h]

def IsInt (_ : World) (v : Value) (n : Int) : Prop := v = .int .i64 n
def IsBool (_ : World) (v : Value) (b : Bool) : Prop := v = .bool b

theorem Rest.lt_ {w : World} {g : Nat} {rest : Value} {l : List Int} (h : Rest w g rest l) (hl : l ≠ []) : g < w.heap.size := by
  obtain ⟨A, c, rfl, h1, h2, h3⟩ := h
  obtain ⟨o, rfl, hc⟩ := h3 hl
  cases l with
  | nil => exact absurd rfl hl
  | cons x l => exact World.block_lt_of_cell? w _ (hc 0 x rfl)

theorem read_frame {w w2 : World} {o : Obj} {R j : Nat} {u : Value} (hg : (w.alloc o).grownBy w2 (some w.heap.size)) : w.grownBy (w2.setCell ⟨R, j, none⟩ u) (some R) := by
  refine ⟨hg.os, hg.tape, hg.output, ?_, fun k hk hne => ?_⟩
  · have := hg.size
    simp [World.setCell] at this ⊢
    omega
  · rw [Below.heap_setCell w2 ⟨R, j, none⟩ u k (fun e => hne (by rw [e])), hg.block k (by simp; omega) (by intro e; injection e with e; omega)]
    exact Below.heap_alloc w o k hk

/-- the reader behind a decoding by a cursor of its own -/
theorem read_kept {w w2 : World} {o : Obj} {T R g : Nat} {l : List Int} {f : Bool} (h0 : Rec w T R g l f) (hg : (w.alloc o).grownBy w2 (some w.heap.size)) : Rec w2 T R g l f := by
  have hR := h0.lt
  have hb : ∀ k, k < w.heap.size → w2.heap[k]? = w.heap[k]? := fun k hk => (hg.block k (by simp; omega) (by intro e; injection e with e; omega)).trans (Below.heap_alloc w o k hk)
  exact h0.keep (hb R hR) (fun _ hlt => hb g hlt)

theorem read_bad {α : Type} {Rv : World → Value → α → Prop} {z : α} {s : Step α} {zv : Value} {w w2 : World} {o : Obj} {T R g : Nat} {l : List Int} (h0 : Rec w T R g l false)
    (hg : (w.alloc o).grownBy w2 (some w.heap.size)) (hs : (s l false).2.2 = true) (hz : ∀ W, Rv W zv z) : Dec T Rv (rd z s) w R g l false (.returned zv) (w2.setCell ⟨R, 1, none⟩ (.bool true)) := by
  refine ⟨zv, rfl, ?_, ?_, read_frame hg⟩
  · rw [rd_bad hs]
    exact hz _
  · rw [rd_bad hs]
    exact (read_kept h0 hg).fail

theorem read_good {α : Type} {Rv : World → Value → α → Prop} {z : α} {s : Step α} {v rest' : Value} {w w2 : World} {o : Obj} {T R g : Nat} {l : List Int} (h0 : Rec w T R g l false)
    (hg : (w.alloc o).grownBy w2 (some w.heap.size)) (hs : (s l false).2.2 = false) (hr : Rest w2 g rest' (s l false).2.1) (hv : Rv (w2.setCell ⟨R, 0, none⟩ rest') v (s l false).1)
    (hsuf : (s l false).2.1 ≠ [] → l ≠ []) : Dec T Rv (rd z s) w R g l false (.returned v) (w2.setCell ⟨R, 0, none⟩ rest') := by
  refine ⟨v, rfl, ?_, ?_, read_frame hg⟩
  · rw [rd_good hs]
    exact hv
  · rw [rd_good hs]
    exact (read_kept h0 hg).rest hr hsuf

theorem read_failed {α : Type} {Rv : World → Value → α → Prop} {z : α} {s : Step α} {zv : Value} {w : World} {T R g : Nat} {l : List Int} (h0 : Rec w T R g l true) (hz : Rv w zv z) : Dec T Rv (rd z s) w R g l true (.returned zv) w :=
  ⟨zv, rfl, hz, h0, World.grownBy.refl _ _⟩

/-- what is left is the end of what was left -/
def Suf {α : Type} (s : Step α) : Prop := ∀ l f, ∃ k, (s l f).2.1 = l.drop k
theorem Suf.ne {α : Type} {s : Step α} (h : Suf s) {l : List Int} {f : Bool} (hn : (s l f).2.1 ≠ []) : l ≠ [] := by
  rintro rfl
  obtain ⟨k, hk⟩ := h [] f
  rw [hk] at hn
  simp at hn
theorem Suf.by_ {α : Type} {s : Step α} (h : Suf s) {l : List Int} {f : Bool} (hb : By l) : By (s l f).2.1 := by
  obtain ⟨k, hk⟩ := h l f
  rw [hk]
  exact hb.drop k
theorem suf_sInt : Suf sInt := fun l f => by
  cases l with
  | nil => exact ⟨0, rfl⟩
  | cons s t =>
    by_cases h : 8 < s ∨ t.length < s.toNat
    · exact ⟨0, by rw [sInt_long f h]; rfl⟩
    · by_cases h2 : sz (val (t.take s.toNat)) = s.toNat
      · exact ⟨s.toNat + 1, by rw [sInt_good f h h2]; rfl⟩
      · exact ⟨0, by rw [sInt_bad f h h2]; rfl⟩
end Go.Proofs.Ytfphdpcffjpbjaa.W
