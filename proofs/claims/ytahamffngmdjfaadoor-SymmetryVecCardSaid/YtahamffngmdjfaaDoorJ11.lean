/-
  ring: a row of vectors of the call's own: what is stored into it. No condition.
  ring: a list of segments in memory. No condition.
  ring: a row of vectors that the call has made, known whole. No condition.
  vec, plain: where a vector is inserted. No condition.
  seg and its reference: valid segments, points on them and beside them: what each function returns. No condition.
  seg, plain: the ends that lie on both segments, the least and the greatest one of them. No condition.
-/
import Derived.Test.YtahamffngmdjfaaDoorJ10
import Derived.Deep.OwnRows
import Derived.Laws.MakeOwn
import Derived.Test.YtahamffngmdjfaaDoorJ02
namespace Go.Proofs.YtahamffngmdjfaaDoor.W
open Go.RowKit Go.Proofs.YtahamffngmdjfaaDoor.V Go.Proofs.YtahamffngmdjfaaDoor.G

/-- a slice of a list in a row that has been made since w0, whose cells may be stored into; or one that is empty -/
def OwnL (w0 w : World) (v : Value) (l : List (Int × Int)) : Prop :=
  (∃ k cap, v = .slice (some ⟨k, 0, none⟩) l.length cap ∧ w0.heap.size ≤ k ∧ k < w.heap.size ∧ l.length ≤ cap ∧ cap ≤ maxLen ∧ RowV w k l) ∨ (l = [] ∧ ∃ A c, v = .slice A 0 c ∧ c ≤ maxLen)
theorem OwnL.src {w0 w : World} {v : Value} {l : List (Int × Int)} (h : OwnL w0 w v l) : SrcV w v l := by
  rcases h with ⟨k, cap, rfl, h1, h2, h3, h4, h5⟩ | ⟨rfl, A, c, rfl, h⟩
  · exact RowV.src h5 h2 (List.take_length ..) rfl h3 h4
  · exact src_none _ _ _ h
theorem RowV.nw {w w' : World} {g : Nat} {l : List (Int × Int)} (h : RowV w g l) (hg : g < w.heap.size) (hk : Nw w w') : RowV w' g l := by
  intro i p hp
  obtain ⟨⟨a, b⟩, c, d⟩ := h i p hp
  exact ⟨⟨(hk.cell (p := ⟨g, i * 2, none⟩) hg id).trans a, (hk.cell (p := ⟨g, i * 2 + 1, none⟩) hg id).trans b⟩, (hk.frozen (p := ⟨g, i * 2, none⟩) hg id).trans c, (hk.frozen (p := ⟨g, i * 2 + 1, none⟩) hg id).trans d⟩
theorem OwnL.nw {w0 w w' : World} {v : Value} {l : List (Int × Int)} (h : OwnL w0 w v l) (hk : Nw w w') : OwnL w0 w' v l := by
  rcases h with ⟨k, cap, rfl, h1, h2, h3, h4, h5⟩ | h
  · exact .inl ⟨k, cap, rfl, h1, Nat.lt_of_lt_of_le h2 hk.size, h3, h4, h5.nw h2 hk⟩
  · exact .inr h
theorem RowV.pre {w : World} {g : Nat} {l r : List (Int × Int)} (h : RowV w g (l ++ r)) : RowV w g l := by
  intro i p hp
  have hi := (List.getElem?_eq_some_iff.1 hp).1
  exact h i p (by rw [List.getElem?_append_left hi]; exact hp)
theorem RowV.sets {g : Nat} : ∀ (m : List (Int × Int)) (w : World) (l : List (Int × Int)) (i : Nat), RowV w g l → i + m.length ≤ l.length → RowV (w.setCells g (i * 2) (m.flatMap vC)) g (l.take i ++ m ++ l.drop (i + m.length))
  | [], w, l, i, h, _ => by
    simp only [List.append_nil, List.length_nil, Nat.add_zero, List.take_append_drop]
    exact h
  | x :: m, w, l, i, h, hm => by
    rw [List.length_cons] at hm
    have hi : i < l.length := by omega
    have h1 := h.set_ (k := i) hi x.1 x.2
    have h2 := RowV.sets m _ _ (i + 1) h1 (by rw [List.length_set]; omega)
    rw [List.flatMap_cons]
    show RowV (((w.setCell ⟨g, i * 2, none⟩ (.int .i64 x.1)).setCell ⟨g, i * 2 + 1, none⟩ (.int .i64 x.2)).setCells g (i * 2 + 1 + 1) (m.flatMap vC)) g _
    rw [show i * 2 + 1 + 1 = (i + 1) * 2 by omega]
    have e : (l.set i (x.1, x.2)).take (i + 1) ++ m ++ (l.set i (x.1, x.2)).drop (i + 1 + m.length) = l.take i ++ x :: m ++ l.drop (i + (x :: m).length) := by
      rw [List.take_add_one, List.getElem?_set_self hi, List.take_set_of_le (Nat.le_refl _), List.drop_set_of_lt (by omega), List.length_cons, show i + (m.length + 1) = i + 1 + m.length by omega]
      simp
    rw [← e]
    exact h2
theorem kp_sets (g f : Nat) (vs : List Value) (w : World) : Kp (fun i => i = g) w (w.setCells g f vs) := setCells_kp g vs f w
theorem RowV.holds {w : World} {g : Nat} {l : List (Int × Int)} (h : RowV w g l) : Sort.HoldsK vC 2 w g 0 l.toArray := by
  intro j hj
  rw [Sort.size_flatK] at hj
  have hj' : j < l.length * 2 := by simpa using hj
  rw [Sort.get_flatK _ _ _ _ hj]
  have hq : j / 2 < l.length := by omega
  obtain ⟨⟨a, b⟩, c, d⟩ := h (j / 2) _ (List.getElem?_eq_getElem hq)
  have hd : (l.toArray)[j / 2]! = l[j / 2]'hq := by simp [hq]
  rw [hd, Nat.zero_add]
  rcases Nat.mod_two_eq_zero_or_one j with e | e
  · rw [e]
    rw [show j / 2 * 2 = j by omega] at a c
    exact ⟨a, c⟩
  · rw [e]
    rw [show j / 2 * 2 + 1 = j by omega] at b d
    exact ⟨b, d⟩
end Go.Proofs.YtahamffngmdjfaaDoor.W

namespace Go.Proofs.YtahamffngmdjfaaDoor.W
open Go.RowKit Go.Proofs.YtahamffngmdjfaaDoor.V Go.Proofs.YtahamffngmdjfaaDoor.G

abbrev eC (e : Ed) : List Value := [.int .i64 e.1.1, .int .i64 e.1.2, .int .i64 e.2.1, .int .i64 e.2.2]
abbrev SrcE (w : World) (v : Value) (l : List Ed) : Prop := Src w 4 v l.length (l.flatMap eC)
abbrev RowE (w : World) (g : Nat) (l : List Ed) : Prop := Blk w g 66 (l.flatMap eC).toArray
theorem flatE_at : ∀ (l : List Ed) (k : Nat) (e : Ed), l[k]? = some e → (l.flatMap eC)[k * 4]? = some (.int .i64 e.1.1) ∧ (l.flatMap eC)[k * 4 + 1]? = some (.int .i64 e.1.2) ∧ (l.flatMap eC)[k * 4 + 2]? = some (.int .i64 e.2.1) ∧ (l.flatMap eC)[k * 4 + 3]? = some (.int .i64 e.2.2)
  | [], k, p, h => by simp at h
  | q :: r, 0, p, h => by
    obtain rfl : q = p := by simpa using h
    exact ⟨rfl, rfl, rfl, rfl⟩
  | q :: r, k + 1, p, h => by
    have hr := flatE_at r k p (by simpa using h)
    rw [List.flatMap_cons, show (k + 1) * 4 = k * 4 + 1 + 1 + 1 + 1 by omega]
    exact ⟨by simpa [eC] using hr.1, by simpa [eC] using hr.2.1, by simpa [eC] using hr.2.2.1, by simpa [eC] using hr.2.2.2⟩
theorem flatE_len (l : List Ed) : (l.flatMap eC).length = l.length * 4 := by
  induction l with
  | nil => rfl
  | cons x r ih => rw [List.flatMap_cons, List.length_append, ih, List.length_cons]; show 4 + r.length * 4 = (r.length + 1) * 4; omega
theorem flatE_one (l : List Ed) : ∀ u ∈ l.flatMap eC, u.oneCell' = true := by
  intro u hu
  obtain ⟨e, _, h⟩ := List.mem_flatMap.1 hu
  simp [eC] at h
  rcases h with rfl | rfl | rfl | rfl <;> rfl
theorem flatE_set : ∀ (l : List Ed) (k : Nat) (a b c d : Int), ((((l.flatMap eC).set (k * 4) (.int .i64 a)).set (k * 4 + 1) (.int .i64 b)).set (k * 4 + 2) (.int .i64 c)).set (k * 4 + 3) (.int .i64 d) = (l.set k ((a, b), (c, d))).flatMap eC
  | [], k, a, b, c, d => rfl
  | q :: r, 0, a, b, c, d => rfl
  | q :: r, k + 1, a, b, c, d => by
    rw [List.set_cons_succ, List.flatMap_cons, List.flatMap_cons, ← flatE_set r k a b c d]
    show ((((Value.int .i64 q.1.1 :: Value.int .i64 q.1.2 :: Value.int .i64 q.2.1 :: Value.int .i64 q.2.2 :: r.flatMap eC).set ((k + 1) * 4) _).set ((k + 1) * 4 + 1) _).set ((k + 1) * 4 + 2) _).set ((k + 1) * 4 + 3) _ = _
    rw [show (k + 1) * 4 = k * 4 + 1 + 1 + 1 + 1 by omega]
    rfl
theorem RowE.set_ {w : World} {g : Nat} {l : List Ed} (h : RowE w g l) (k : Nat) (a b c d : Int) : RowE ((((w.setCell ⟨g, k * 4, none⟩ (.int .i64 a)).setCell ⟨g, k * 4 + 1, none⟩ (.int .i64 b)).setCell ⟨g, k * 4 + 2, none⟩ (.int .i64 c)).setCell ⟨g, k * 4 + 3, none⟩ (.int .i64 d)) g (l.set k ((a, b), (c, d))) := by
  have := Blk.set_ (Blk.set_ (Blk.set_ (Blk.set_ h (k * 4) (.int .i64 a)) (k * 4 + 1) (.int .i64 b)) (k * 4 + 2) (.int .i64 c)) (k * 4 + 3) (.int .i64 d)
  rw [List.setIfInBounds_toArray, List.setIfInBounds_toArray, List.setIfInBounds_toArray, List.setIfInBounds_toArray, flatE_set] at this
  exact this
theorem RowE.at_ {w : World} {g : Nat} {l : List Ed} (h : RowE w g l) {k : Nat} {e : Ed} (hk : l[k]? = some e) : (w.cell? ⟨g, k * 4, none⟩ = some (.int .i64 e.1.1) ∧ w.cell? ⟨g, k * 4 + 1, none⟩ = some (.int .i64 e.1.2) ∧ w.cell? ⟨g, k * 4 + 2, none⟩ = some (.int .i64 e.2.1) ∧ w.cell? ⟨g, k * 4 + 3, none⟩ = some (.int .i64 e.2.2)) ∧ w.frozen? ⟨g, k * 4, none⟩ = false ∧ w.frozen? ⟨g, k * 4 + 1, none⟩ = false ∧ w.frozen? ⟨g, k * 4 + 2, none⟩ = false ∧ w.frozen? ⟨g, k * 4 + 3, none⟩ = false := by
  obtain ⟨f1, f2, f3, f4⟩ := flatE_at l k e hk
  refine ⟨⟨?_, ?_, ?_, ?_⟩, h.frozen _, h.frozen _, h.frozen _, h.frozen _⟩
  · rw [h.cell]; simpa using f1
  · rw [h.cell]; simpa using f2
  · rw [h.cell]; simpa using f3
  · rw [h.cell]; simpa using f4
theorem RowE.src {w : World} {g : Nat} {l : List Ed} (h : RowE w g l) {n : Nat} (hn : l.length = n) (hm : n ≤ maxLen) : SrcE w (.slice (some ⟨g, 0, none⟩) n n) l := by
  subst hn
  refine ⟨flatE_len l, _, _, rfl, Nat.le_refl _, hm, fun _ => ⟨g, 0, rfl, h.lt, fun j u hu => ?_⟩⟩
  rw [Nat.zero_add, h.cell j, ← hu]
  exact List.getElem?_toArray
theorem segInfo : ∃ i0, Tryd.prog.info? 66 = some i0 ∧ i0.zero = some (.agg #[.int .i64 0, .int .i64 0, .int .i64 0, .int .i64 0]) ∧ i0.size = 4 ∧ i0.bytes = 32 :=
  ⟨(Tryd.prog.info? 66).get (by kernel_rfl), by kernel_rfl, by kernel_rfl, by kernel_rfl, by kernel_rfl⟩
def zE : Ed := ((0, 0), (0, 0))
theorem made_edges (n : Nat) : madeCells #[Value.int .i64 0, .int .i64 0, .int .i64 0, .int .i64 0] (n * 4) = ((List.replicate n zE).flatMap eC).toArray := by
  have hl : ((List.replicate n zE).flatMap eC) = List.replicate (n * 4) (.int .i64 0) := by
    induction n with
    | zero => rfl
    | succ n ih => rw [List.replicate_succ, List.flatMap_cons, ih, show (n + 1) * 4 = n * 4 + 1 + 1 + 1 + 1 by omega, List.replicate_succ, List.replicate_succ, List.replicate_succ, List.replicate_succ]; rfl
  rw [hl]
  apply Array.ext_getElem?
  intro j
  by_cases hj : j < n * 4
  · have : j % 4 < 4 := Nat.mod_lt _ (by omega)
    rcases (show j % 4 = 0 ∨ j % 4 = 1 ∨ j % 4 = 2 ∨ j % 4 = 3 by omega) with h | h | h | h <;> simp [madeCells, hj, h]
  · simp [madeCells, hj]
theorem make_edges (n : Nat) (hn : n ≤ 1099511627776) (w : World) : (Instr.makeSlice 62 (.int .i64 (n : Int)) (.int .i64 (n : Int))).run Tryd.prog w = .ok (.slice (some ⟨w.heap.size, 0, none⟩) n n) (w.alloc (.cells ((List.replicate n zE).flatMap eC).toArray 66)) := by
  obtain ⟨i0, hi, hz, hs, hb⟩ := segInfo
  have hr := run_make (P := Tryd.prog) w 62 66 i0 (.agg #[.int .i64 0, .int .i64 0, .int .i64 0, .int .i64 0]) Tryd.underlying62 hi hz .i64 .i64 n n (by omega) (Int.le_refl _) (by rw [hb]; omega) (by omega)
  simp only [Int.toNat_natCast, hs] at hr
  rw [← made_edges]
  exact hr
/-- where a list's segments lie, in all later worlds -/
theorem srcE_at {w : World} {A : Option Addr} {n c : Nat} {l : List Ed} (h : Src w 4 (.slice A n c) n (l.flatMap eC)) (hn : 0 < n) :
    ∃ g o, A = some ⟨g, o, none⟩ ∧ g < w.heap.size ∧ ∀ w', Nw w w' → ∀ k e, l[k]? = some e → w'.cell? ⟨g, o + k * 4, none⟩ = some (.int .i64 e.1.1) ∧ w'.cell? ⟨g, o + k * 4 + 1, none⟩ = some (.int .i64 e.1.2) ∧ w'.cell? ⟨g, o + k * 4 + 2, none⟩ = some (.int .i64 e.2.1) ∧ w'.cell? ⟨g, o + k * 4 + 3, none⟩ = some (.int .i64 e.2.2) := by
  obtain ⟨_, A', c', e, _, _, hc⟩ := h
  injection e with e1 e2 e3
  subst e1
  obtain ⟨g, o, rfl, hg, hc⟩ := hc (by omega)
  refine ⟨g, o, rfl, hg, fun w' hk k e he => ?_⟩
  obtain ⟨f1, f2, f3, f4⟩ := flatE_at l k e he
  exact ⟨(hk.cell (p := ⟨g, o + k * 4, none⟩) hg id).trans (hc _ _ f1), (hk.cell (p := ⟨g, o + (k * 4 + 1), none⟩) hg id).trans (hc _ _ f2), (hk.cell (p := ⟨g, o + (k * 4 + 2), none⟩) hg id).trans (hc _ _ f3), (hk.cell (p := ⟨g, o + (k * 4 + 3), none⟩) hg id).trans (hc _ _ f4)⟩
end Go.Proofs.YtahamffngmdjfaaDoor.W

namespace Go.Proofs.YtahamffngmdjfaaDoor.W
open Go.RowKit Go.Proofs.YtahamffngmdjfaaDoor.V Go.Proofs.YtahamffngmdjfaaDoor.G

abbrev RowB (w : World) (g : Nat) (l : List (Int × Int)) : Prop := Blk w g 23 (l.flatMap vC).toArray
theorem flatV_set : ∀ (l : List (Int × Int)) (k : Nat) (a b : Int), ((l.flatMap vC).set (k * 2) (.int .i64 a)).set (k * 2 + 1) (.int .i64 b) = (l.set k (a, b)).flatMap vC
  | [], k, a, b => rfl
  | q :: r, 0, a, b => rfl
  | q :: r, k + 1, a, b => by
    rw [List.set_cons_succ, List.flatMap_cons, List.flatMap_cons, ← flatV_set r k a b]
    show ((Value.int .i64 q.1 :: Value.int .i64 q.2 :: r.flatMap vC).set ((k + 1) * 2) _).set ((k + 1) * 2 + 1) _ = _
    rw [show (k + 1) * 2 = k * 2 + 1 + 1 by omega]
    rfl
theorem RowB.set_ {w : World} {g : Nat} {l : List (Int × Int)} (h : RowB w g l) (k : Nat) (a b : Int) : RowB ((w.setCell ⟨g, k * 2, none⟩ (.int .i64 a)).setCell ⟨g, k * 2 + 1, none⟩ (.int .i64 b)) g (l.set k (a, b)) := by
  have := Blk.set_ (Blk.set_ h (k * 2) (.int .i64 a)) (k * 2 + 1) (.int .i64 b)
  rw [List.setIfInBounds_toArray, List.setIfInBounds_toArray, flatV_set] at this
  exact this
theorem RowB.at_ {w : World} {g : Nat} {l : List (Int × Int)} (h : RowB w g l) {k : Nat} {e : Int × Int} (hk : l[k]? = some e) : (w.cell? ⟨g, k * 2, none⟩ = some (.int .i64 e.1) ∧ w.cell? ⟨g, k * 2 + 1, none⟩ = some (.int .i64 e.2)) ∧ w.frozen? ⟨g, k * 2, none⟩ = false ∧ w.frozen? ⟨g, k * 2 + 1, none⟩ = false := by
  obtain ⟨f1, f2⟩ := flatV_at l k e hk
  refine ⟨⟨?_, ?_⟩, h.frozen _, h.frozen _⟩
  · rw [h.cell]; simpa using f1
  · rw [h.cell]; simpa using f2
theorem RowB.src {w : World} {g : Nat} {l : List (Int × Int)} (h : RowB w g l) {n : Nat} (hn : l.length = n) (hm : n ≤ maxLen) : SrcV w (.slice (some ⟨g, 0, none⟩) n n) l := by
  subst hn
  refine ⟨flatV_len l, _, _, rfl, Nat.le_refl _, hm, fun _ => ⟨g, 0, rfl, h.lt, fun j u hu => ?_⟩⟩
  rw [Nat.zero_add, h.cell j, ← hu]
  exact List.getElem?_toArray
theorem made_vecs (n : Nat) : madeCells #[Value.int .i64 0, .int .i64 0] (n * 2) = ((List.replicate n ((0, 0) : Int × Int)).flatMap vC).toArray := by
  have hl : ((List.replicate n ((0, 0) : Int × Int)).flatMap vC) = List.replicate (n * 2) (.int .i64 0) := by
    induction n with
    | zero => rfl
    | succ n ih => rw [List.replicate_succ, List.flatMap_cons, ih, show (n + 1) * 2 = n * 2 + 1 + 1 by omega, List.replicate_succ, List.replicate_succ]; rfl
  rw [hl]
  apply Array.ext_getElem?
  intro j
  by_cases hj : j < n * 2
  · rcases Nat.mod_two_eq_zero_or_one j with h | h <;> simp [madeCells, hj, h]
  · simp [madeCells, hj]
theorem make_ring (n : Nat) (hn : n ≤ 1099511627776) (w : World) : (Instr.makeSlice 35 (.int .i64 (n : Int)) (.int .i64 (n : Int))).run Tryd.prog w = .ok (.slice (some ⟨w.heap.size, 0, none⟩) n n) (w.alloc (.cells ((List.replicate n ((0, 0) : Int × Int)).flatMap vC).toArray 23)) := by
  obtain ⟨i0, hi, hz, hs, hb⟩ := vec_info
  have hr := run_make (P := Tryd.prog) w 35 23 i0 (vV 0 0) Tryd.underlying35 hi hz .i64 .i64 n n (by omega) (Int.le_refl _) (by rw [hb]; omega) (by omega)
  simp only [Int.toNat_natCast, hs] at hr
  rw [← made_vecs]
  exact hr
end Go.Proofs.YtahamffngmdjfaaDoor.W

namespace Go.Proofs.YtahamffngmdjfaaDoor.W
open Go.RowKit Go.Proofs.YtahamffngmdjfaaDoor.V

theorem place_le (x : Int × Int) : ∀ l : List (Int × Int), place x l ≤ l.length
  | [] => Nat.le_refl 0
  | y :: r => by
    have := place_le x r
    rw [place]
    split
    · simp; omega
    · simp
theorem place_lt {x : Int × Int} : ∀ {l : List (Int × Int)} {q : Nat}, q < place x l → ∃ y, l[q]? = some y ∧ lessV y.1 y.2 x.1 x.2 = true
  | [], q, h => absurd h (Nat.not_lt_zero q)
  | y :: r, q, h => by
    rw [place] at h
    split at h
    · rename_i hy
      cases q with
      | zero => exact ⟨y, rfl, hy⟩
      | succ q =>
        obtain ⟨z, hz, hl⟩ := place_lt (x := x) (l := r) (q := q) (by omega)
        exact ⟨z, by simpa using hz, hl⟩
    · exact absurd h (Nat.not_lt_zero q)
theorem place_at {x : Int × Int} : ∀ {l : List (Int × Int)}, place x l < l.length → ∃ y, l[place x l]? = some y ∧ lessV y.1 y.2 x.1 x.2 = false
  | [], h => absurd h (Nat.not_lt_zero _)
  | y :: r, h => by
    by_cases hy : lessV y.1 y.2 x.1 x.2 = true
    · have hp : place x (y :: r) = place x r + 1 := if_pos hy
      rw [hp] at h ⊢
      obtain ⟨z, hz, hl⟩ := place_at (l := r) (x := x) (by simpa using h)
      exact ⟨z, by simpa using hz, hl⟩
    · have hp : place x (y :: r) = 0 := if_neg hy
      rw [hp]
      exact ⟨y, rfl, by simpa using hy⟩
theorem insU_len (out : List (Int × Int)) (x : Int × Int) : (insU out x).length ≤ out.length + 1 := by
  have := place_le x out
  unfold insU
  split
  · omega
  · simp
    omega
theorem ins_take {l : List (Int × Int)} {k : Nat} {x : Int × Int} (h : l[k]? = some x) : insAll (l.take (k + 1)) = insU (insAll (l.take k)) x := by
  unfold insAll
  rw [List.take_add_one, h, Option.toList_some, List.foldl_append]
  rfl
end Go.Proofs.YtahamffngmdjfaaDoor.W

namespace Go.Proofs.YtahamffngmdjfaaDoor.W
open Go.RowKit Go.Proofs.YtahamffngmdjfaaDoor.V

def validS (ax ay bx bz : Int) : Bool := withinV ax ay 4000 && withinV bx bz 4000
def conS (ax ay bx bz px py : Int) : Bool := (turnV ax ay bx bz px py == 0) && decide (dotV (w64 (ax - px)) (w64 (ay - py)) (w64 (bx - px)) (w64 (bz - py)) ≤ 0)
def partS (ax ay bx bz cx cy dx dy : Int) : Bool := decide (turnV ax ay bx bz cx cy * turnV ax ay bx bz dx dy < 0)
def onS (ax ay bx bz px py : Int) : Bool := validS ax ay bx bz && withinV px py 4000 && conS ax ay bx bz px py
def sideS (ax ay bx bz px py : Int) : Int := if validS ax ay bx bz && withinV px py 4000 then turnV ax ay bx bz px py else 0
theorem mul_turn {t u : Int} (h : -1 ≤ t ∧ t ≤ 1) (g : -1 ≤ u ∧ u ≤ 1) : IntKind.i64.wrap (t * u) = t * u := by
  rcases (show t = -1 ∨ t = 0 ∨ t = 1 by omega) with rfl | rfl | rfl <;> rcases (show u = -1 ∨ u = 0 ∨ u = 1 by omega) with rfl | rfl | rfl <;> decide +kernel

set_option maxHeartbeats 800000 in
theorem valid_any (ax ay bx bz : Int) (w : World) : Calls Tryd.prog 91 #[sV ax ay bx bz] w fun e w' => e = .returned (.bool (validS ax ay bx bz)) ∧ Nw w w' := by
  have c1 := fun w1 => within_any ax ay 4000 w1
  have c2 := fun w1 => within_any bx bz 4000 w1
  unfold validS
  generalize withinV ax ay 4000 = a at *
  generalize withinV bx bz 4000 = b at *
  have hb0 := Blk.new_at w 66 #[.int .i64 ax, .int .i64 ay, .int .i64 bx, .int .i64 bz] (n := w.heap.size) (by simp)
  have hk0 : ∀ p : KeptW (w.alloc (.cells #[.int .i64 ax, .int .i64 ay, .int .i64 bx, .int .i64 bz] 66)), Blk p.wd (w.heap.size) 66 #[.int .i64 ax, .int .i64 ay, .int .i64 bx, .int .i64 bz] := fun p => hb0.kept p
  have q0 := fun p => (hk0 p).cell 0
  have q1 := fun p => (hk0 p).cell 1
  have q2 := fun p => (hk0 p).cell 2
  have q3 := fun p => (hk0 p).cell 3
  skip
  clear hb0 hk0
  cases a
  · go_enter Tryd.func91, Tryd.ntmps91
    go_wp2_with (first | (go_at_call 75; ((with_reducible refine (Calls.kept_first (c1 _)).mono ?_); rintro e _ ⟨rfl, p, rfl⟩)) | (go_at_call 75; ((with_reducible refine (Calls.kept_of (c2 _)).mono ?_); rintro e _ ⟨rfl, p, rfl⟩)) | fail)
    go_ret
    exact ⟨by simp, ((nw_alloc _ _)).tr p.since⟩
  · go_enter Tryd.func91, Tryd.ntmps91
    go_wp2_with (first | (go_at_call 75; ((with_reducible refine (Calls.kept_first (c1 _)).mono ?_); rintro e _ ⟨rfl, p, rfl⟩)) | (go_at_call 75; ((with_reducible refine (Calls.kept_of (c2 _)).mono ?_); rintro e _ ⟨rfl, p, rfl⟩)) | fail)
    go_ret
    exact ⟨by simp, ((nw_alloc _ _)).tr p.since⟩

set_option maxHeartbeats 800000 in
theorem rvalid_any (ax ay bx bz : Int) (w : World) : Calls Tryd.prog 69 #[sV ax ay bx bz] w fun e w' => e = .returned (.bool (validS ax ay bx bz)) ∧ Nw w w' := by
  have c1 := fun w1 => rwithin_any ax ay 4000 w1
  have c2 := fun w1 => rwithin_any bx bz 4000 w1
  unfold validS
  generalize withinV ax ay 4000 = a at *
  generalize withinV bx bz 4000 = b at *
  have hb0 := Blk.new_at w 66 #[.int .i64 ax, .int .i64 ay, .int .i64 bx, .int .i64 bz] (n := w.heap.size) (by simp)
  have hk0 : ∀ p : KeptW (w.alloc (.cells #[.int .i64 ax, .int .i64 ay, .int .i64 bx, .int .i64 bz] 66)), Blk p.wd (w.heap.size) 66 #[.int .i64 ax, .int .i64 ay, .int .i64 bx, .int .i64 bz] := fun p => hb0.kept p
  have q0 := fun p => (hk0 p).cell 0
  have q1 := fun p => (hk0 p).cell 1
  have q2 := fun p => (hk0 p).cell 2
  have q3 := fun p => (hk0 p).cell 3
  skip
  clear hb0 hk0
  cases a
  · go_enter Tryd.func69, Tryd.ntmps69
    go_wp2_with (first | (go_at_call 30; ((with_reducible refine (Calls.kept_first (c1 _)).mono ?_); rintro e _ ⟨rfl, p, rfl⟩)) | (go_at_call 30; ((with_reducible refine (Calls.kept_of (c2 _)).mono ?_); rintro e _ ⟨rfl, p, rfl⟩)) | fail)
    go_ret
    exact ⟨by simp, ((nw_alloc _ _)).tr p.since⟩
  · go_enter Tryd.func69, Tryd.ntmps69
    go_wp2_with (first | (go_at_call 30; ((with_reducible refine (Calls.kept_first (c1 _)).mono ?_); rintro e _ ⟨rfl, p, rfl⟩)) | (go_at_call 30; ((with_reducible refine (Calls.kept_of (c2 _)).mono ?_); rintro e _ ⟨rfl, p, rfl⟩)) | fail)
    go_ret
    exact ⟨by simp, ((nw_alloc _ _)).tr p.since⟩

set_option maxHeartbeats 1600000 in
theorem contains_any (ax ay bx bz px py : Int) (w : World) : Calls Tryd.prog 94 #[sV ax ay bx bz, vV px py] w fun e w' => e = .returned (.bool (conS ax ay bx bz px py)) ∧ Nw w w' := by
  have ct := fun w1 => turn_any ax ay bx bz px py w1
  have c1 := fun w1 => sub_any ax ay px py w1
  have c2 := fun w1 => sub_any bx bz px py w1
  have cd := fun w1 => dot_any (w64 (ax - px)) (w64 (ay - py)) (w64 (bx - px)) (w64 (bz - py)) w1
  unfold conS
  generalize dotV (w64 (ax - px)) (w64 (ay - py)) (w64 (bx - px)) (w64 (bz - py)) = r at *
  generalize w64 (ax - px) = x1 at *
  generalize w64 (ay - py) = x2 at *
  generalize w64 (bx - px) = x3 at *
  generalize w64 (bz - py) = x4 at *
  generalize turnV ax ay bx bz px py = t at *
  have hmix := mixed7
  have hb0 := Blk.new_at w 66 #[.int .i64 ax, .int .i64 ay, .int .i64 bx, .int .i64 bz] (n := w.heap.size) (by simp)
  have hb1 := Blk.new_at (w.alloc (.cells #[.int .i64 ax, .int .i64 ay, .int .i64 bx, .int .i64 bz] 66)) 23 #[.int .i64 px, .int .i64 py] (n := w.heap.size + 1) (by simp)
  have hk0 : ∀ p : KeptW ((w.alloc (.cells #[.int .i64 ax, .int .i64 ay, .int .i64 bx, .int .i64 bz] 66)).alloc (.cells #[.int .i64 px, .int .i64 py] 23)), Blk p.wd (w.heap.size) 66 #[.int .i64 ax, .int .i64 ay, .int .i64 bx, .int .i64 bz] := fun p => (hb0.alloc _).kept p
  have q0 := fun p => (hk0 p).cell 0
  have q1 := fun p => (hk0 p).cell 1
  have q2 := fun p => (hk0 p).cell 2
  have q3 := fun p => (hk0 p).cell 3
  have hk1 : ∀ p : KeptW ((w.alloc (.cells #[.int .i64 ax, .int .i64 ay, .int .i64 bx, .int .i64 bz] 66)).alloc (.cells #[.int .i64 px, .int .i64 py] 23)), Blk p.wd (w.heap.size + 1) 23 #[.int .i64 px, .int .i64 py] := fun p => hb1.kept p
  have q4 := fun p => (hk1 p).cell 0
  have q5 := fun p => (hk1 p).cell 1
  skip
  clear hb0 hk0 hb1 hk1
  obtain ⟨z, hz⟩ : ∃ z, decide (r ≤ 0) = z := ⟨_, rfl⟩
  obtain ⟨y, hy⟩ : ∃ y, (t == 0) = y := ⟨_, rfl⟩
  cases y
  · go_enter Tryd.func94, Tryd.ntmps94
    go_wp2_with fail
    refine wp_region_kept (Kp.refl _ _) (by assumption) (by kernel_rfl) ?_
    repeat (with_reducible refine wpQuiet_step (fun K hK => ?_); go_simp; first | ((with_reducible refine hK _ ?_); clear hK K) | (with_reducible apply Exists.intro; (with_reducible refine ⟨fun _ => ?_, hK _ ?_⟩); ((first | (go_at_call 87; with_reducible exact Calls.kept_of (ct _)) | (go_at_call 90; with_reducible exact Calls.kept_of (c1 _)) | (go_at_call 90; with_reducible exact Calls.kept_of (c2 _)) | (go_at_call 96; with_reducible exact Calls.kept_of (cd _)) | fail)); clear hK K))
    with_reducible refine wpQuiet_nil ?_
    rintro _ ⟨p, rfl⟩
    go_wp2
    go_ret
    exact ⟨by simp [hy, hz], ((nw_alloc _ _).alloc _).tr p.since⟩
  · go_enter Tryd.func94, Tryd.ntmps94
    go_wp2_with fail
    refine wp_region_kept (Kp.refl _ _) (by assumption) (by kernel_rfl) ?_
    repeat (with_reducible refine wpQuiet_step (fun K hK => ?_); go_simp; first | ((with_reducible refine hK _ ?_); clear hK K) | (with_reducible apply Exists.intro; (with_reducible refine ⟨fun _ => ?_, hK _ ?_⟩); ((first | (go_at_call 87; with_reducible exact Calls.kept_of (ct _)) | (go_at_call 90; with_reducible exact Calls.kept_of (c1 _)) | (go_at_call 90; with_reducible exact Calls.kept_of (c2 _)) | (go_at_call 96; with_reducible exact Calls.kept_of (cd _)) | fail)); clear hK K))
    with_reducible refine wpQuiet_nil ?_
    rintro _ ⟨p, rfl⟩
    go_wp2
    go_ret
    exact ⟨by simp [hy, hz], ((nw_alloc _ _).alloc _).tr p.since⟩

set_option maxHeartbeats 1600000 in
theorem parts_any (ax ay bx bz cx cy dx dy : Int) (w : World) : Calls Tryd.prog 93 #[sV ax ay bx bz, sV cx cy dx dy] w fun e w' => e = .returned (.bool (partS ax ay bx bz cx cy dx dy)) ∧ Nw w w' := by
  have c1 := fun w1 => turn_any ax ay bx bz cx cy w1
  have c2 := fun w1 => turn_any ax ay bx bz dx dy w1
  have hm := mul_turn (turn_range ax ay bx bz cx cy) (turn_range ax ay bx bz dx dy)
  unfold partS
  generalize turnV ax ay bx bz cx cy = t at *
  generalize turnV ax ay bx bz dx dy = u at *
  have hmix := mixed7
  have hb0 := Blk.new_at w 66 #[.int .i64 ax, .int .i64 ay, .int .i64 bx, .int .i64 bz] (n := w.heap.size) (by simp)
  have hb1 := Blk.new_at (w.alloc (.cells #[.int .i64 ax, .int .i64 ay, .int .i64 bx, .int .i64 bz] 66)) 66 #[.int .i64 cx, .int .i64 cy, .int .i64 dx, .int .i64 dy] (n := w.heap.size + 1) (by simp)
  have hk0 : ∀ p : KeptW ((w.alloc (.cells #[.int .i64 ax, .int .i64 ay, .int .i64 bx, .int .i64 bz] 66)).alloc (.cells #[.int .i64 cx, .int .i64 cy, .int .i64 dx, .int .i64 dy] 66)), Blk p.wd (w.heap.size) 66 #[.int .i64 ax, .int .i64 ay, .int .i64 bx, .int .i64 bz] := fun p => (hb0.alloc _).kept p
  have q0 := fun p => (hk0 p).cell 0
  have q1 := fun p => (hk0 p).cell 1
  have q2 := fun p => (hk0 p).cell 2
  have q3 := fun p => (hk0 p).cell 3
  have hk1 : ∀ p : KeptW ((w.alloc (.cells #[.int .i64 ax, .int .i64 ay, .int .i64 bx, .int .i64 bz] 66)).alloc (.cells #[.int .i64 cx, .int .i64 cy, .int .i64 dx, .int .i64 dy] 66)), Blk p.wd (w.heap.size + 1) 66 #[.int .i64 cx, .int .i64 cy, .int .i64 dx, .int .i64 dy] := fun p => hb1.kept p
  have q4 := fun p => (hk1 p).cell 0
  have q5 := fun p => (hk1 p).cell 1
  have q6 := fun p => (hk1 p).cell 2
  have q7 := fun p => (hk1 p).cell 3
  skip
  clear hb0 hk0 hb1 hk1
  go_enter Tryd.func93, Tryd.ntmps93
  go_wp2_with fail
  refine wp_region_kept (Kp.refl _ _) (by assumption) (by kernel_rfl) ?_
  repeat (with_reducible refine wpQuiet_step (fun K hK => ?_); go_simp; first | ((with_reducible refine hK _ ?_); clear hK K) | (with_reducible apply Exists.intro; (with_reducible refine ⟨fun _ => ?_, hK _ ?_⟩); ((first | (go_at_call 87; with_reducible exact Calls.kept_of (c1 _)) | (go_at_call 87; with_reducible exact Calls.kept_of (c2 _)) | fail)); clear hK K))
  with_reducible refine wpQuiet_nil ?_
  rintro _ ⟨p, rfl⟩
  go_wp2
  go_ret
  exact ⟨rfl, ((nw_alloc _ _).alloc _).tr p.since⟩

set_option maxHeartbeats 1600000 in
theorem rside_any (ax ay bx bz px py : Int) (w : World) : Calls Tryd.prog 71 #[sV ax ay bx bz, vV px py] w fun e w' => e = .returned (.int .i64 (sideS ax ay bx bz px py)) ∧ Nw w w' := by
  have c1 := fun w1 => rvalid_any ax ay bx bz w1
  have c2 := fun w1 => rwithin_any px py 4000 w1
  have c3 := fun w1 => rturn_any ax ay bx bz px py w1
  unfold sideS
  generalize validS ax ay bx bz = a at *
  generalize withinV px py 4000 = b at *
  generalize turnV ax ay bx bz px py = c at *
  have hb0 := Blk.new_at w 66 #[.int .i64 ax, .int .i64 ay, .int .i64 bx, .int .i64 bz] (n := w.heap.size) (by simp)
  have hb1 := Blk.new_at (w.alloc (.cells #[.int .i64 ax, .int .i64 ay, .int .i64 bx, .int .i64 bz] 66)) 23 #[.int .i64 px, .int .i64 py] (n := w.heap.size + 1) (by simp)
  have hk0 : ∀ p : KeptW ((w.alloc (.cells #[.int .i64 ax, .int .i64 ay, .int .i64 bx, .int .i64 bz] 66)).alloc (.cells #[.int .i64 px, .int .i64 py] 23)), Blk p.wd (w.heap.size) 66 #[.int .i64 ax, .int .i64 ay, .int .i64 bx, .int .i64 bz] := fun p => (hb0.alloc _).kept p
  have q0 := fun p => (hk0 p).cell 0
  have q1 := fun p => (hk0 p).cell 1
  have q2 := fun p => (hk0 p).cell 2
  have q3 := fun p => (hk0 p).cell 3
  have hk1 : ∀ p : KeptW ((w.alloc (.cells #[.int .i64 ax, .int .i64 ay, .int .i64 bx, .int .i64 bz] 66)).alloc (.cells #[.int .i64 px, .int .i64 py] 23)), Blk p.wd (w.heap.size + 1) 23 #[.int .i64 px, .int .i64 py] := fun p => hb1.kept p
  have q4 := fun p => (hk1 p).cell 0
  have q5 := fun p => (hk1 p).cell 1
  skip
  clear hb0 hk0 hb1 hk1
  cases a
  · go_enter Tryd.func71, Tryd.ntmps71
    go_wp2_with (first | (go_at_call 69; ((with_reducible refine (Calls.kept_first (c1 _)).mono ?_); rintro e _ ⟨rfl, p, rfl⟩)) | fail)
    go_ret
    exact ⟨by simp, ((nw_alloc _ _).alloc _).tr p.since⟩
  · cases b
    · go_enter Tryd.func71, Tryd.ntmps71
      go_wp2_with (first | (go_at_call 69; ((with_reducible refine (Calls.kept_first (c1 _)).mono ?_); rintro e _ ⟨rfl, p, rfl⟩)) | (go_at_call 30; ((with_reducible refine (Calls.kept_of (c2 _)).mono ?_); rintro e _ ⟨rfl, p, rfl⟩)) | (go_at_call 50; ((with_reducible refine (Calls.kept_of (c3 _)).mono ?_); rintro e _ ⟨rfl, p, rfl⟩)) | fail)
      go_ret
      exact ⟨by simp, ((nw_alloc _ _).alloc _).tr p.since⟩
    · go_enter Tryd.func71, Tryd.ntmps71
      go_wp2_with (first | (go_at_call 69; ((with_reducible refine (Calls.kept_first (c1 _)).mono ?_); rintro e _ ⟨rfl, p, rfl⟩)) | (go_at_call 30; ((with_reducible refine (Calls.kept_of (c2 _)).mono ?_); rintro e _ ⟨rfl, p, rfl⟩)) | (go_at_call 50; ((with_reducible refine (Calls.kept_of (c3 _)).mono ?_); rintro e _ ⟨rfl, p, rfl⟩)) | fail)
      go_ret
      exact ⟨by simp, ((nw_alloc _ _).alloc _).tr p.since⟩

end Go.Proofs.YtahamffngmdjfaaDoor.W

namespace Go.Proofs.YtahamffngmdjfaaDoor.W
open Go.RowKit Go.Proofs.YtahamffngmdjfaaDoor.V

def firstV : List (Int × Int) → Int × Int
  | [] => (0, 0)
  | x :: _ => x
def lastV (L : List (Int × Int)) : Int × Int := L.getLast?.getD (0, 0)
theorem lastV_is : ∀ {L : List (Int × Int)}, Asc L → L ≠ [] → lastV L ∈ L ∧ ∀ z ∈ L, z = lastV L ∨ ltV z (lastV L)
  | [], _, h => absurd rfl h
  | [x], _, _ => ⟨by simp [lastV], fun z hz => .inl (by simpa [lastV] using hz)⟩
  | x :: y :: r, h, _ => by
    obtain ⟨h1, h2⟩ := List.pairwise_cons.1 h
    obtain ⟨i1, i2⟩ := lastV_is h2 (by simp)
    have e : lastV (x :: y :: r) = lastV (y :: r) := by simp [lastV, List.getLast?_cons_cons]
    rw [e]
    refine ⟨List.mem_cons_of_mem _ i1, fun z hz => ?_⟩
    rcases List.mem_cons.1 hz with rfl | hz
    · exact .inr (h1 _ i1)
    · exact i2 z hz
theorem last_unique {L : List (Int × Int)} {m n : Int × Int} (hm : m ∈ L ∧ ∀ z ∈ L, z = m ∨ ltV z m) (hn : n ∈ L ∧ ∀ z ∈ L, z = n ∨ ltV z n) : m = n := by
  rcases hm.2 n hn.1 with h | h
  · exact h.symm
  · rcases hn.2 m hm.1 with g | g
    · exact g
    · exact absurd (ltV_trans h g) (ltV_irrefl _)
theorem insU_ne (L : List (Int × Int)) (x : Int × Int) : insU L x ≠ [] := by
  intro h
  have := (insU_mem L x x).2 (.inl rfl)
  rw [h] at this
  cases this
theorem first_ins (L : List (Int × Int)) (x : Int × Int) : firstV (insU L x) = if L = [] ∨ ltV x (firstV L) then x else firstV L := by
  cases L with
  | nil => simp [insU, place, firstV]
  | cons y r =>
    rw [insU_cons]
    show firstV _ = if (y :: r = []) ∨ ltV x y then x else y
    rcases ltV_tri x y with h | h | h
    · rw [if_neg (fun k => ltV_irrefl x (ltV_trans h k)), if_neg (fun e => ltV_irrefl x (by rw [e] at h; exact h)), if_pos (.inr h)]
      rfl
    · subst h
      rw [if_neg (ltV_irrefl x), if_pos rfl]
      simp [firstV]
    · rw [if_pos h, if_neg (by rintro (k | k); cases k; exact ltV_irrefl x (ltV_trans k h))]
      rfl
theorem last_ins {L : List (Int × Int)} (hL : Asc L) (x : Int × Int) : lastV (insU L x) = if L = [] ∨ ltV (lastV L) x then x else lastV L := by
  have h := lastV_is (insU_asc L x hL) (insU_ne L x)
  by_cases h0 : L = []
  · subst h0
    simp [insU, place, lastV]
  · have g := lastV_is hL h0
    by_cases h1 : ltV (lastV L) x
    · rw [if_pos (.inr h1)]
      refine last_unique h ⟨(insU_mem L x x).2 (.inl rfl), fun z hz => ?_⟩
      rcases (insU_mem L x z).1 hz with e | e
      · exact .inl e
      · rcases g.2 z e with f | f
        · rw [f]; exact .inr h1
        · exact .inr (ltV_trans f h1)
    · rw [if_neg (by rintro (k | k); exact h0 k; exact h1 k)]
      refine last_unique h ⟨(insU_mem L x _).2 (.inr g.1), fun z hz => ?_⟩
      rcases (insU_mem L x z).1 hz with e | e
      · subst e
        rcases ltV_tri z (lastV L) with k | k | k
        · exact .inr k
        · exact .inl k
        · exact absurd k h1
      · exact g.2 z e
/-- the least one, the greatest one, and whether there is one -/
def shStep (s : (Int × Int) × (Int × Int) × Bool) (x : Int × Int) : (Int × Int) × (Int × Int) × Bool :=
  (if s.2.2 = false ∨ ltV x s.1 then x else s.1, if s.2.2 = false ∨ ltV s.2.1 x then x else s.2.1, true)
theorem sh_fold (xs : List (Int × Int)) : ∀ L, Asc L → xs.foldl shStep (firstV L, lastV L, !L.isEmpty) = (firstV (xs.foldl insU L), lastV (xs.foldl insU L), !(xs.foldl insU L).isEmpty) := by
  induction xs with
  | nil => intro L _; rfl
  | cons x r ih =>
    intro L hL
    rw [List.foldl_cons, List.foldl_cons, ← ih (insU L x) (insU_asc L x hL)]
    congr 1
    unfold shStep
    have e : (!(insU L x).isEmpty) = true := by
      have := insU_ne L x
      cases hx : insU L x with
      | nil => exact absurd hx this
      | cons => rfl
    have e' : (!L.isEmpty) = false ↔ L = [] := by cases L <;> simp
    rw [e, first_ins, last_ins hL]
    simp only [e']
def endsL (ax ay bx bz cx cy dx dy : Int) : List (Int × Int) := [(ax, ay), (bx, bz), (cx, cy), (dx, dy)]
def bothS (ax ay bx bz cx cy dx dy : Int) (p : Int × Int) : Bool := conS ax ay bx bz p.1 p.2 && conS cx cy dx dy p.1 p.2
def comS (ax ay bx bz cx cy dx dy : Int) : List (Int × Int) := insAll ((endsL ax ay bx bz cx cy dx dy).filter (bothS ax ay bx bz cx cy dx dy))
def sharedS (ax ay bx bz cx cy dx dy : Int) (k : Nat) : (Int × Int) × (Int × Int) × Bool := (((endsL ax ay bx bz cx cy dx dy).take k).filter (bothS ax ay bx bz cx cy dx dy)).foldl shStep ((0, 0), (0, 0), false)
theorem shared_end (ax ay bx bz cx cy dx dy : Int) : sharedS ax ay bx bz cx cy dx dy 4 = (firstV (comS ax ay bx bz cx cy dx dy), lastV (comS ax ay bx bz cx cy dx dy), !(comS ax ay bx bz cx cy dx dy).isEmpty) := sh_fold _ [] List.Pairwise.nil
theorem com_asc (ax ay bx bz cx cy dx dy : Int) : Asc (comS ax ay bx bz cx cy dx dy) := (fold_ins _ [] List.Pairwise.nil).1
theorem com_mem (ax ay bx bz cx cy dx dy : Int) (z : Int × Int) : z ∈ comS ax ay bx bz cx cy dx dy ↔ z ∈ endsL ax ay bx bz cx cy dx dy ∧ bothS ax ay bx bz cx cy dx dy z = true := by
  have := (fold_ins ((endsL ax ay bx bz cx cy dx dy).filter (bothS ax ay bx bz cx cy dx dy)) [] List.Pairwise.nil).2 z
  rw [List.mem_filter] at this
  unfold comS insAll
  simpa using this
theorem shared_step (ax ay bx bz cx cy dx dy : Int) (k : Nat) (x : Int × Int) (h : (endsL ax ay bx bz cx cy dx dy)[k]? = some x) : sharedS ax ay bx bz cx cy dx dy (k + 1) = if bothS ax ay bx bz cx cy dx dy x then shStep (sharedS ax ay bx bz cx cy dx dy k) x else sharedS ax ay bx bz cx cy dx dy k := by
  unfold sharedS
  rw [List.take_add_one, h, Option.toList_some, List.filter_append, List.foldl_append]
  cases hb : bothS ax ay bx bz cx cy dx dy x <;> simp [hb]
end Go.Proofs.YtahamffngmdjfaaDoor.W
