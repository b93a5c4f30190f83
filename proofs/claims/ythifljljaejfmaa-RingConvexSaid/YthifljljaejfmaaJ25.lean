/-
  ring: Edges: what it returns. Condition: the list is not longer than 2^40.
  vec: Compact of any list in a row that the call may turn: it returns the list rid of equal neighbours. Condition: the list is not longer than a slice may be.
  awake: the examples of the document hold. No condition.
  small: whether all coordinates are within 2^28: the call returns true. No condition.
  vec: two laws for Compact's inner loop: clear of a row of vectors, unequal vectors. No condition.
-/
import Derived.Test.YthifljljaejfmaaJ23
import Derived.Test.YthifljljaejfmaaJ24
import Derived.BigRegion
import Derived.Test.YthifljljaejfmaaJ04
import Derived.Lib.SliceRun
import Derived.Laws.StructEq
namespace Go.Proofs.Ythifljljaejfmaa.W
open Go.RowKit Go.Proofs.Ythifljljaejfmaa.V Go.Proofs.Ythifljljaejfmaa.G


theorem edges_ext {l : List Pt} {M : List Ed} (h2 : ¬ l.length < 2) (hm : M.length = l.length) (h : ∀ j, j < l.length → M[j]? = some (edgeP l j)) : M = edgesP l := by
  apply List.ext_getElem?
  intro j
  rcases Nat.lt_or_ge j l.length with hj | hj
  · rw [h j hj, edges_at h2 hj]
  · rw [List.getElem?_eq_none (by omega), List.getElem?_eq_none (by rw [edges_len, if_neg h2]; exact hj)]
set_option maxRecDepth 100000 in
set_option maxHeartbeats 6400000 in
theorem edges_any (l : List (Int × Int)) (v : Value) (w : World) (hv : SrcV w v l) (hl : l.length ≤ 1099511627776) : Calls Try.prog 29 #[v] w fun e w' => ∃ v', e = .returned v' ∧ SrcE w' v' (edgesP l) ∧ Nw w w' := by
  obtain ⟨A, c, rfl⟩ := hv.shape
  obtain ⟨n, hn⟩ : ∃ n, l.length = n := ⟨_, rfl⟩
  replace hv := src_n hv hn
  rw [hn] at hl ⊢
  have HV := Lib.hid hv
  have HN := Lib.hid hn
  have hmx := src_max hv
  clear hv hn
  by_cases h2 : n < 2
  · have f2 : ((n : Int) < 2) := by omega
    go_enter Try.func29, Try.ntmps29
    go_wp2_with fail
    go_ret
    refine ⟨_, rfl, ?_, Kp.refl _ _⟩
    rw [show edgesP l = [] by unfold edgesP; rw [if_pos (by rw [HN.out]; exact h2)]]
    exact Src.nil _ _
  · have f2 : ¬ ((n : Int) < 2) := by omega
    have hmk := make_edges n hl
    have H2 := Lib.hid h2
    go_enter Try.func29, Try.ntmps29
    go_wp2_with fail
    obtain ⟨wa, hwa⟩ : ∃ wa, w.alloc (.cells ((List.replicate n zE).flatMap eC).toArray 47) = wa := ⟨_, rfl⟩
    rw [hwa]
    have HA0 := Lib.hid (show Nw w wa by rw [← hwa]; exact nw_alloc _ _)
    have HR0 := Lib.hid (show RowE wa w.heap.size (List.replicate n zE) by rw [← hwa]; exact Blk.new _ _ _)
    obtain ⟨G, hG⟩ : ∃ G, w.heap.size = G := ⟨_, rfl⟩
    rw [hG] at HR0 ⊢
    have HG := Lib.hid hG
    clear hwa hmk h2 hG
    go_loopw [14] (fun i wr => ∃ (k : Nat) (M : List Ed), i = .int .i64 k ∧ k ≤ n ∧ M.length = n ∧ (∀ j, j < k → M[j]? = some (edgeP l j)) ∧ RowE wr G M ∧ Nw w wr) (fun i _ => n - (intOf i).toNat)
    case atStart => exact ⟨0, _, rfl, Nat.zero_le _, List.length_replicate, fun j h => absurd h (Nat.not_lt_zero _), HR0.out, HA0.out⟩
    case round =>
      obtain ⟨k, M, rfl, hk, hml, hall, hrow, hnw⟩ := hrel
      have HML := Lib.hid hml
      have HALL := Lib.hid hall
      have HROW := Lib.hid hrow
      clear hml hall hrow
      have HK := Lib.hid hnw
      clear hnw
      by_cases hkn : k < n
      · have i0 : (0 : Int) ≤ (k : Int) := by omega
        have i1 : (k : Int) < (n : Int) := by omega
        obtain ⟨s4, hs4⟩ : ∃ s : Nat, k + 1 = s := ⟨_, rfl⟩
        have a4 : IntKind.i64.wrap ((k : Int) + 1) = (s4 : Int) := by rw [IntKind.wrap_i64]; omega
        have H4 := Lib.hid hs4
        have hn0 : 0 < n := by omega
        obtain ⟨s5, hs5⟩ : ∃ s : Nat, (k + 1) % n = s := ⟨_, rfl⟩
        have l5 : s5 < n := by rw [← hs5]; exact Nat.mod_lt _ hn0
        have a5 : (s4 : Int).tmod (n : Int) = (s5 : Int) := by rw [tmod_nat, ← hs4, hs5]
        have z0 : ¬ (n = 0) := by omega
        have b4 : (0 : Int) ≤ (s5 : Int) := by omega
        have b5 : (s5 : Int) < (n : Int) := by omega
        obtain ⟨g, o, rfl, hg, hc⟩ := src_at HV.out (by omega)
        obtain ⟨⟨ax, ay⟩, ha⟩ : ∃ p, at_ l k = p := ⟨_, rfl⟩
        obtain ⟨⟨bx, bz⟩, hb⟩ : ∃ p, at_ l s5 = p := ⟨_, rfl⟩
        have hE : edgeP l k = ((ax, ay), (bx, bz)) := by unfold edgeP; rw [HN.out, hs5, ha, hb]
        have HE := Lib.hid hE
        obtain ⟨y0, y1⟩ := hc wr HK.out k hkn
        rw [ha] at y0 y1
        have hH := Lib.hid hc
        have HL5 := Lib.hid l5
        have HB := Lib.hid hb
        have HGG := Lib.hid hg
        clear hc hg hs5 hs4 l5 ha hb hE
        go_upto_region 7 with fail
        generalize hwb : World.alloc _ (.cells #[.int .i64 ax, .int .i64 ay] _) = wb
        have HKB := Lib.hid (show Nw w wb by rw [← hwb]; exact HK.out.alloc _)
        obtain ⟨c0, c1⟩ : wb.cell? ⟨wr.heap.size, 0, none⟩ = some (.int .i64 ax) ∧ wb.cell? ⟨wr.heap.size, 1, none⟩ = some (.int .i64 ay) := by
          rw [← hwb]
          exact ⟨(Blk.new _ _ _).cell 0, (Blk.new _ _ _).cell 1⟩
        have HRB := Lib.hid (show RowE wb G M by rw [← hwb]; exact HROW.out.alloc _)
        have hKL : k < M.length := by rw [HML.out]; exact hkn
        obtain ⟨e0, he0⟩ : ∃ e, M[k]? = some e := ⟨_, List.getElem?_eq_getElem hKL⟩
        obtain ⟨⟨x0, x1, x2, x3⟩, y4, y5, y6, y7⟩ := HRB.out.at_ he0
        obtain ⟨c2, c3⟩ := hH.out wb HKB.out s5 HL5.out
        rw [HB.out] at c2 c3
        have hne : wr.heap.size ≠ G := by have := HK.out.size; have := HROW.out.lt; omega
        clear hwb y0 y1 he0 hKL
        go_region
        all_goals (
          generalize hwc : World.drew _ = wc
          have HKC := Lib.hid (show Nw w wc by
            rw [← hwc]
            have hG := HG.out
            exact (by repeat (first | exact HKB.out | refine Kp.drew ?_ | refine Kp.new ?_ (Nat.le_of_eq hG) _ _)))
          have HRC := Lib.hid (show RowE wc G (M.set k ((ax, ay), (bx, bz))) by
            rw [← hwc]
            exact (HRB.out.set_ k ax ay bx bz).drew)
          clear hwc x0 x1 x2 x3 y4 y5 y6 y7 c0 c1 c2 c3
          go_wp2_with fail
          go_roundw
          case rel =>
            refine ⟨k + 1, _, by rw [← H4.out], by omega, by rw [List.length_set]; exact HML.out, fun j hj => ?_, HRC.out, HKC.out⟩
            rcases Nat.lt_or_ge j k with h | h
            · rw [List.getElem?_set_ne (by omega)]
              exact HALL.out j h
            · obtain rfl : j = k := by omega
              rw [List.getElem?_set_self (by rw [HML.out]; exact hkn), HE.out]
          case measure => (have := H4.out; simp [intOf]; try omega))
      · obtain rfl : k = n := by omega
        have i5 : ¬ ((k : Int) < (k : Int)) := by omega
        have hsrc := HROW.out.src HML.out (by have := hmx.1; have := hmx.2.2; omega)
        go_wp2_with fail
        go_ret
        refine ⟨_, rfl, ?_, HK.out⟩
        rw [edges_ext (l := l) (M := M) (by rw [HN.out]; exact H2.out) (by rw [HN.out]; exact HML.out) (by rw [HN.out]; exact HALL.out)] at hsrc
        exact hsrc

end Go.Proofs.Ythifljljaejfmaa.W

namespace Go.Proofs.Ythifljljaejfmaa.W
open Go.RowKit Go.Proofs.Ythifljljaejfmaa.V

/-- a row of vectors, whose cells may be stored into -/
def RowV (w : World) (g : Nat) (l : List (Int × Int)) : Prop := ∀ i p, l[i]? = some p → (w.cell? ⟨g, i * 2, none⟩ = some (.int .i64 p.1) ∧ w.cell? ⟨g, i * 2 + 1, none⟩ = some (.int .i64 p.2)) ∧ w.frozen? ⟨g, i * 2, none⟩ = false ∧ w.frozen? ⟨g, i * 2 + 1, none⟩ = false
theorem frozen_set (w : World) (b o : Nat) (u : Value) (a : Addr) : (w.setCell ⟨b, o, none⟩ u).frozen? a = w.frozen? a := by
  have := World.frozen?_setCells b [u] o w a
  exact this
theorem RowV.of_holds {w : World} {g : Nat} {l : List (Int × Int)} (h : Sort.HoldsK vC 2 w g 0 l.toArray) : RowV w g l := by
  intro i p hp
  obtain ⟨hi, hv⟩ := List.getElem?_eq_some_iff.1 hp
  have h0 := Sort.HoldsK.cell h (i := i) (c := 0) (by simpa using hi) (by omega)
  have h1 := Sort.HoldsK.cell h (i := i) (c := 1) (by simpa using hi) (by omega)
  rw [show (l.toArray)[i]! = p by simp [hi, hv], Nat.zero_add] at h0 h1
  exact ⟨⟨h0.1, h1.1⟩, h0.2, h1.2⟩
theorem RowV.drew {w : World} {g : Nat} {l : List (Int × Int)} (h : RowV w g l) : RowV w.drew g l := h
theorem RowV.set_ {w : World} {g : Nat} {l : List (Int × Int)} (h : RowV w g l) {k : Nat} (hk : k < l.length) (x y : Int) : RowV ((w.setCell ⟨g, k * 2, none⟩ (.int .i64 x)).setCell ⟨g, k * 2 + 1, none⟩ (.int .i64 y)) g (l.set k (x, y)) := by
  intro i p hp
  obtain ⟨q, hq⟩ : ∃ q, l[k]? = some q := ⟨l[k], List.getElem?_eq_getElem hk⟩
  obtain ⟨⟨a, b⟩, c, d⟩ := h k q hq
  rw [frozen_set, frozen_set, frozen_set, frozen_set]
  by_cases hi : i = k
  · subst hi
    rw [List.getElem?_set_self hk] at hp
    injection hp with hp
    subst hp
    refine ⟨⟨?_, ?_⟩, c, d⟩
    · exact (World.cell?_setCell_other _ _ _ _ (by intro e; injection e with _ e; omega)).trans (World.cell?_setCell_same _ _ _ a)
    · exact World.cell?_setCell_same _ _ _ ((World.cell?_setCell_other _ _ _ _ (by intro e; injection e with _ e; omega)).trans b)
  · rw [List.getElem?_set_ne (by omega)] at hp
    obtain ⟨⟨a', b'⟩, c', d'⟩ := h i p hp
    refine ⟨⟨?_, ?_⟩, c', d'⟩
    · exact (World.cell?_setCell_other _ _ _ _ (by intro e; injection e with _ e; omega)).trans ((World.cell?_setCell_other _ _ _ _ (by intro e; injection e with _ e; omega)).trans a')
    · exact (World.cell?_setCell_other _ _ _ _ (by intro e; injection e with _ e; omega)).trans ((World.cell?_setCell_other _ _ _ _ (by intro e; injection e with _ e; omega)).trans b')
theorem RowV.src {w : World} {g cap m : Nat} {l d : List (Int × Int)} (h : RowV w g l) (hg : g < w.heap.size) (hd : l.take m = d) (hm : d.length = m) (hc : m ≤ cap) (hx : cap ≤ maxLen) : SrcV w (.slice (some ⟨g, 0, none⟩) m cap) d := by
  subst hm
  refine ⟨flatV_len d, _, _, rfl, hc, hx, fun _ => ⟨g, 0, rfl, hg, fun j u hu => ?_⟩⟩
  have hj : j < d.length * 2 := by
    obtain ⟨h, _⟩ := List.getElem?_eq_some_iff.1 hu
    rwa [flatV_len] at h
  have hq : j / 2 < d.length := by omega
  have hx : d[j / 2]? = some (d[j / 2]'hq) := List.getElem?_eq_getElem hq
  obtain ⟨f1, f2⟩ := flatV_at d (j / 2) _ hx
  have hl : l[j / 2]? = some (d[j / 2]'hq) := by
    rw [← hx, ← hd, List.getElem?_take_of_lt hq]
  obtain ⟨⟨a, b⟩, _⟩ := h _ _ hl
  rw [Nat.zero_add]
  rcases Nat.mod_two_eq_zero_or_one j with e | e
  · rw [show j / 2 * 2 = j by omega] at f1 a
    rw [a, ← f1, hu]
  · rw [show j / 2 * 2 + 1 = j by omega] at f2 b
    rw [b, ← f2, hu]
theorem setCells_kp (b : Nat) : ∀ (vs : List Value) (o : Nat) (w : World), Kp (fun i => i = b) w (w.setCells b o vs)
  | [], _, w => Kp.refl _ w
  | v :: r, o, w => (kp_set w b o v).tr (setCells_kp b r (o + 1) (w.setCell ⟨b, o, none⟩ v))
theorem clear_vecs (ty : TypeId) (b o n c : Nat) (w : World) (hn : 0 < n) (hc : ∀ j, j < n * 2 → (w.cell? ⟨b, o + j, none⟩).isSome = true) (hf : ∀ j, j < n * 2 → w.frozen? ⟨b, o + j, none⟩ = false) :
    (Builtin.clear_ #[22] ty #[.slice (some ⟨b, o, none⟩) n c]).run Try.prog w = .ok (.tuple #[]) (w.setCells b o (List.replicate (n * 2) (.int .i64 0))) := by
  have hv : ∀ w, (zeroValue 28).run Try.prog w = .ok (vV 0 0) w := fun w => by
    obtain ⟨i0, hi, hz, _⟩ := vec_info
    simp [zeroValue, typeInfo, hi, hz]
  have hzc : (Builtin.zeroCells (vV 0 0).cells n).toList = List.replicate (n * 2) (.int .i64 0) := by
    simp [Builtin.zeroCells, Value.cells]
    apply List.ext_getElem
    · simp
    · intro i h1 h2
      rcases Nat.mod_two_eq_zero_or_one i with e | e <;> simp [e]
  have hst := run_storeCells_cells (P := Try.prog) b o (List.replicate (n * 2) (.int .i64 0)) 0 w (by simpa using hc) (by simpa using hf) (by intro v hv'; rw [List.eq_of_mem_replicate hv']; rfl)
  simp only [Nat.add_zero] at hst
  obtain ⟨m, rfl⟩ : ∃ m, n = m + 1 := ⟨n - 1, by omega⟩
  simp [Builtin.clear_, run_underlying Try.underlying22, hv, hzc, hst]
end Go.Proofs.Ythifljljaejfmaa.W

namespace Go.Proofs.Ythifljljaejfmaa.W
open Go.RowKit Go.Proofs.Ythifljljaejfmaa.V

theorem aw_sort : sortV [(3, 0), (0, 1), (2, 0)] = [(2, 0), (3, 0), (0, 1)] := by
  simp [sortV, List.mergeSort, List.MergeSort.Internal.splitInTwo, lt_cf, lessV]
theorem aw_apart : Apart [(2, 0), (3, 0), (0, 1)] := by
  intro i p q hp hq
  match i with
  | 0 => simp at hp hq; subst hp hq; simp
  | 1 => simp at hp hq; subst hp hq; simp
  | i + 2 => simp at hq
theorem aw_turn : turnV 0 0 4 0 1 2 = 1 := by decide +kernel
theorem aw_within : withinV 2 0 2 = true := by decide +kernel
theorem aw_norm : normV 3 0 = 3 := by decide +kernel
theorem src_blk {w : World} {g : Nat} {l : List (Int × Int)} (h : Blk w g 28 (l.flatMap vC).toArray) (hl : l.length ≤ 1099511627776) : SrcV w (.slice (some ⟨g, 0, none⟩) l.length l.length) l := by
  refine ⟨flatV_len l, _, _, rfl, Nat.le_refl _, by unfold maxLen; omega, fun _ => ⟨g, 0, rfl, h.lt, fun j u hu => ?_⟩⟩
  rw [Nat.zero_add, h.cell j, List.getElem?_toArray]
  exact hu

end Go.Proofs.Ythifljljaejfmaa.W

namespace Go.Proofs.Ythifljljaejfmaa.W
open Go.RowKit Go.Proofs.Ythifljljaejfmaa.V

theorem eql_vec (x1 x2 y1 y2 : Int) (w : World) : (binOp .eql 28 (.agg #[.int .i64 x1, .int .i64 x2]) (.agg #[.int .i64 y1, .int .i64 y2])).run Try.prog w = .ok (.bool (x1 == y1 && x2 == y2)) w := by
  have u3 := Try.underlying3
  have a3 := Try.isAgg3
  have z3 := Try.sizeOf3
  have hS : Try.prog.underlying 28 = some (.struct (Try.prog.fieldsOf 28)) := by kernel_rfl
  have hp : Try.prog.stoodInHeld 28 = false := by kernel_rfl
  rw [run_eql_struct, show (10000 : Nat) = 9999 + 1 from rfl, run_equalIn_agg w 9999 28 _ _ hS hp]
  simp only [Program.fieldsOf, Try.underlying28]
  go_simp
  by_cases h1 : x1 = y1 <;> by_cases h2 : x2 = y2 <;> simp [h1, h2]
theorem four_new (w : World) (t : TypeId) (a b c d : Array Value) : Blk ((((w.alloc (.cells a t)).alloc (.cells b t)).alloc (.cells c t)).alloc (.cells d t)).drew w.heap.size t a ∧ Blk ((((w.alloc (.cells a t)).alloc (.cells b t)).alloc (.cells c t)).alloc (.cells d t)).drew (w.heap.size + 1) t b ∧ Blk ((((w.alloc (.cells a t)).alloc (.cells b t)).alloc (.cells c t)).alloc (.cells d t)).drew (w.heap.size + 1 + 1) t c ∧ Blk ((((w.alloc (.cells a t)).alloc (.cells b t)).alloc (.cells c t)).alloc (.cells d t)).drew (w.heap.size + 1 + 1 + 1) t d ∧ Nw w ((((w.alloc (.cells a t)).alloc (.cells b t)).alloc (.cells c t)).alloc (.cells d t)).drew :=
  ⟨((((Blk.new w t a).alloc _).alloc _).alloc _).drew, (((Blk.new_at _ t b (by simp)).alloc _).alloc _).drew, ((Blk.new_at _ t c (by simp)).alloc _).drew, (Blk.new_at _ t d (by simp)).drew, ((((nw_alloc w _).alloc _).alloc _).alloc _).drew⟩

end Go.Proofs.Ythifljljaejfmaa.W

namespace Go.Proofs.Ythifljljaejfmaa.W
open Go.RowKit Go.Proofs.Ythifljljaejfmaa.V

theorem neq_vec (x1 x2 y1 y2 : Int) (w : World) : (binOp .neq 28 (.agg #[.int .i64 x1, .int .i64 x2]) (.agg #[.int .i64 y1, .int .i64 y2])).run Try.prog w = .ok (.bool (!(x1 == y1 && x2 == y2))) w := by
  have u3 := Try.underlying3
  have a3 := Try.isAgg3
  have z3 := Try.sizeOf3
  have hS : Try.prog.underlying 28 = some (.struct (Try.prog.fieldsOf 28)) := by kernel_rfl
  have hp : Try.prog.stoodInHeld 28 = false := by kernel_rfl
  rw [run_neq_struct, show (10000 : Nat) = 9999 + 1 from rfl, run_equalIn_agg w 9999 28 _ _ hS hp]
  simp only [Program.fieldsOf, Try.underlying28]
  go_simp
  by_cases h1 : x1 = y1 <;> by_cases h2 : x2 = y2 <;> simp [h1, h2]
theorem RowV.some_ {w : World} {g : Nat} {l : List (Int × Int)} (h : RowV w g l) {i : Nat} (hi : i < l.length * 2) : (w.cell? ⟨g, i, none⟩).isSome = true ∧ w.frozen? ⟨g, i, none⟩ = false := by
  have hq : i / 2 < l.length := by omega
  obtain ⟨⟨a, b⟩, c, d⟩ := h (i / 2) _ (List.getElem?_eq_getElem hq)
  rcases Nat.mod_two_eq_zero_or_one i with e | e
  · rw [show i / 2 * 2 = i by omega] at a c
    exact ⟨by rw [a]; rfl, c⟩
  · rw [show i / 2 * 2 + 1 = i by omega] at b d
    exact ⟨by rw [b]; rfl, d⟩
/-- what lies ahead of the cells that are laid reads as it did -/
theorem src_ahead {w : World} {g m cap f : Nat} {l : List (Int × Int)} {vs : List Value} (h : SrcV w (.slice (some ⟨g, 0, none⟩) m cap) l) (hm : l.length = m) (hf : m * 2 ≤ f) : SrcV (w.setCells g f vs) (.slice (some ⟨g, 0, none⟩) m cap) l := by
  obtain ⟨hl, A, c, e, h1, h2, hc⟩ := h
  refine ⟨hl, A, c, e, h1, h2, fun hn => ?_⟩
  obtain ⟨g', o', rfl, hb, hcell⟩ := hc hn
  injection e with e1 e2 e3
  injection e1 with e1
  injection e1 with e4 e5
  subst e4 e5
  refine ⟨_, _, rfl, Nat.lt_of_lt_of_le hb (setCells_kp g vs f w).size, fun j u hu => ?_⟩
  have hj : j < l.length * 2 := by
    have := (List.getElem?_eq_some_iff.1 hu).1
    rw [flatV_len] at this
    exact this
  rw [World.cell?_setCells_out g vs f w _ (fun _ _ => .inl (by simp; omega))]
  exact hcell j u hu
section
variable {w : World} {ops : Array Oper} {rest : List Oper} {o : Oper} {a : Act} {Q : Exit → Act → World → Prop}
theorem wp_clear (hgd : o.guard = none) (s : Operand) (ho : o.op = .call { callee := .builtin .clear, args := #[s], argTypes := #[22] })
    (b f n c : Nat) (hs : a.eval s = .slice (some ⟨b, f, none⟩) n c) (hn : 0 < n) (hc : ∀ j, j < n * 2 → (w.cell? ⟨b, f + j, none⟩).isSome = true) (hf : ∀ j, j < n * 2 → w.frozen? ⟨b, f + j, none⟩ = false)
    (h : wpList Try.prog ops Q rest (a.put o.dst (.tuple #[])) (w.setCells b f (List.replicate (n * 2) (.int .i64 0)))) :
    wpList Try.prog ops Q (o :: rest) a w := by
  have hr := clear_vecs o.type b f n c w hn hc hf
  refine wpList_plain hgd fun K hK => ?_
  unfold Oper.wp execOp
  simp only [ho, resolve, invoke, builtin, Sem.run_bind, Sem.run_pure, Result.andThen_ok, List.map_toArray, List.map_cons, List.map_nil, hs, hr]
  exact hK _ _ h
end
end Go.Proofs.Ythifljljaejfmaa.W
