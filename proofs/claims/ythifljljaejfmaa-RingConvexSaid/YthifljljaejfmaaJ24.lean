/-
  ring: the reference's Side and on: what they return. Conditions: the coordinates are within 2000, the point is valid.
  vec: Compact where no two neighbours are equal; Sorted there: what they return. Condition: the list is not longer than a slice may be.
  vec: Clone; Sorted of a list whose sorted form has no two equal neighbours: what they return. Condition: the list is not longer than a slice may be.
  ring: a list of segments in memory. No condition.
-/
import Derived.Test.YthifljljaejfmaaJ23
import Derived.Test.YthifljljaejfmaaJ22
import Derived.BigFrame
import Derived.Test.YthifljljaejfmaaJ04
import Derived.Deep.OwnRows
import Derived.Laws.MakeOwn
namespace Go.Proofs.Ythifljljaejfmaa.W
open Go.RowKit Go.Proofs.Ythifljljaejfmaa.V Go.Proofs.Ythifljljaejfmaa.G


end Go.Proofs.Ythifljljaejfmaa.W

namespace Go.Proofs.Ythifljljaejfmaa.W
open Go.RowKit Go.Proofs.Ythifljljaejfmaa.V

/-- no two neighbours are equal -/
def Apart (l : List (Int × Int)) : Prop := ∀ i p q, l[i]? = some p → l[i + 1]? = some q → p ≠ q

end Go.Proofs.Ythifljljaejfmaa.W

namespace Go.Proofs.Ythifljljaejfmaa.W
open Go.RowKit Go.Proofs.Ythifljljaejfmaa.V

theorem vec_info : ∃ i0, Try.prog.info? 28 = some i0 ∧ i0.zero = some (vV 0 0) ∧ i0.size = 2 ∧ i0.bytes = 16 :=
  ⟨(Try.prog.info? 28).get (by kernel_rfl), by kernel_rfl, by kernel_rfl, by kernel_rfl, by kernel_rfl⟩

/-- the value is nil, or it lies in a block's own cells -/
def Flat (v : Value) : Prop := v = .slice none 0 0 ∨ ∃ g o n c, v = .slice (some ⟨g, o, none⟩) n c
theorem SrcV.flat {w : World} {v : Value} {l : List (Int × Int)} (h : SrcV w v l) (hne : l ≠ []) : Flat v := by
  obtain ⟨_, A, c, rfl, _, _, hc⟩ := h
  obtain ⟨g, o, rfl, _⟩ := hc (List.length_pos_iff.2 hne)
  exact .inr ⟨g, o, _, _, rfl⟩
theorem flatV_one (l : List (Int × Int)) : ∀ u ∈ l.flatMap vC, u.oneCell' = true := by
  intro u hu
  obtain ⟨p, _, hp⟩ := List.mem_flatMap.1 hu
  simp [vC] at hp
  rcases hp with rfl | rfl <;> rfl

set_option maxRecDepth 100000 in
set_option maxHeartbeats 1600000 in
theorem clone_any (l : List (Int × Int)) (g o c : Nat) (w : World) (hv : SrcV w (.slice (some ⟨g, o, none⟩) l.length c) l) (hl : l.length ≤ 1099511627776) :
    Calls Try.prog 31 #[.slice (some ⟨g, o, none⟩) l.length c] w fun e w' => ∃ k cap, w.heap.size ≤ k ∧ l.length ≤ cap ∧ cap ≤ maxLen ∧ k < w'.heap.size ∧ e = .returned (.slice (some ⟨k, 0, none⟩) l.length cap) ∧ Sort.HoldsK vC 2 w' k 0 l.toArray ∧ Nw w w' := by
  obtain ⟨i0, hi, hz, hs, hb⟩ := vec_info
  obtain ⟨hlen, A, c', hAA, hnc, hcm, hcell⟩ := hv
  obtain ⟨rfl, rfl⟩ : A = some ⟨g, o, none⟩ ∧ c' = c := by
    injection hAA with h1 h2 h3
    exact ⟨h1.symm, h3.symm⟩
  have hcon := AnyE.slices_Clone Try.cloneVec i0 (vV 0 0) 2 16 hi hz hs hb rfl (by decide) Try.sizeOf28 g o l.length c' (l.flatMap vC) w hlen (by unfold maxLen at *; omega) (by omega)
    (fun j u hu => by
      have hp : 0 < l.length := by
        have := List.getElem?_eq_some_iff.1 hu
        obtain ⟨h, _⟩ := this
        rw [hlen] at h
        omega
      obtain ⟨g', o', he, _, hc⟩ := hcell hp
      injection he with he
      injection he with h1 h2
      subst h1 h2
      exact hc j u hu) (flatV_one l)
  refine Calls.mono hcon ?_
  rintro e w' ⟨v', rfl, ho, hne, hbel⟩
  rcases ho.2 with ⟨rfl, _⟩ | ⟨k, cap, cur, rfl, hk, hgk, hcap, hmx, hs', ht⟩
  · exact absurd rfl hne
  · refine ⟨k, cap, hk, hcap, hmx, (Array.getElem?_eq_some_iff.1 hgk).1, rfl, ?_, Kp.of_below hbel⟩
    intro j hj
    have hfz : w'.frozen? ⟨k, 0 + j, none⟩ = false := by simp [World.frozen?, hgk]
    refine ⟨?_, hfz⟩
    rw [Sort.size_flatK] at hj
    have hj' : j < l.length * 2 := by simpa using hj
    rw [Sort.get_flatK _ _ _ _ hj]
    have hq : j / 2 < l.length := by omega
    have hx : l[j / 2]? = some (l[j / 2]'hq) := List.getElem?_eq_getElem hq
    obtain ⟨f1, f2⟩ := flatV_at l (j / 2) _ hx
    have hcells : ∀ u, (l.flatMap vC)[j]? = some u → w'.cell? ⟨k, 0 + j, none⟩ = some u := fun u hu => by
      have h := World.ownsRow.cells ho (g := k) rfl j u hu
      have hadd : (⟨k, 0, none⟩ : Addr).add j = ⟨k, 0 + j, none⟩ := by
        unfold Addr.add
        split <;> simp_all
      rw [hadd] at h
      exact h
    have hd : (l.toArray)[j / 2]! = l[j / 2]'hq := by simp [hq]
    rw [hd]
    rcases Nat.mod_two_eq_zero_or_one j with h | h
    · rw [h]
      exact hcells _ (by rw [show j / 2 * 2 = j by omega] at f1; exact f1)
    · rw [h]
      exact hcells _ (by rw [show j / 2 * 2 + 1 = j by omega] at f2; exact f2)

theorem src_holds {w : World} {g cap : Nat} {l : List (Int × Int)} {n : Nat} (h : Sort.HoldsK vC 2 w g 0 l.toArray) (hg : g < w.heap.size) (hn : l.length = n) (hc : n ≤ cap) (hm : cap ≤ maxLen) : SrcV w (.slice (some ⟨g, 0, none⟩) n cap) l := by
  subst hn
  refine ⟨flatV_len l, _, _, rfl, hc, hm, fun _ => ⟨g, 0, rfl, hg, fun j u hu => ?_⟩⟩
  have hj : j < l.length * 2 := by
    obtain ⟨h, _⟩ := List.getElem?_eq_some_iff.1 hu
    rwa [flatV_len] at h
  have hq : j / 2 < l.length := by omega
  have hx : l[j / 2]? = some (l[j / 2]'hq) := List.getElem?_eq_getElem hq
  obtain ⟨f1, f2⟩ := flatV_at l (j / 2) _ hx
  have h1 := h j (by rw [Sort.size_flatK]; simpa using hj)
  rw [Sort.get_flatK _ _ _ _ (by simpa using hj), show (l.toArray)[j / 2]! = l[j / 2]'hq by simp [hq]] at h1
  refine h1.1.trans ?_
  rcases Nat.mod_two_eq_zero_or_one j with h | h
  · rw [h]
    rw [show j / 2 * 2 = j by omega, hu] at f1
    exact f1.symm
  · rw [h]
    rw [show j / 2 * 2 + 1 = j by omega, hu] at f2
    exact f2.symm

end Go.Proofs.Ythifljljaejfmaa.W

namespace Go.Proofs.Ythifljljaejfmaa.W
open Go.RowKit Go.Proofs.Ythifljljaejfmaa.V Go.Proofs.Ythifljljaejfmaa.G

abbrev eC (e : Ed) : List Value := [.int .i64 e.1.1, .int .i64 e.1.2, .int .i64 e.2.1, .int .i64 e.2.2]
abbrev SrcE (w : World) (v : Value) (l : List Ed) : Prop := Src w 4 v l.length (l.flatMap eC)
abbrev RowE (w : World) (g : Nat) (l : List Ed) : Prop := Blk w g 47 (l.flatMap eC).toArray
theorem flatE_at : ∀ (l : List Ed) (k : Nat) (e : Ed), l[k]? = some e → (l.flatMap eC)[k * 4]? = some (.int .i64 e.1.1) ∧ (l.flatMap eC)[k * 4 + 1]? = some (.int .i64 e.1.2) ∧ (l.flatMap eC)[k * 4 + 2]? = some (.int .i64 e.2.1) ∧ (l.flatMap eC)[k * 4 + 3]? = some (.int .i64 e.2.2)
  | [], k, p, h => by simp at h
  | q :: r, 0, p, h => by
    obtain rfl : q = p := by simpa using h
    exact ⟨rfl, rfl, rfl, rfl⟩
  | q :: r, k + 1, p, h => by
    have hr := flatE_at r k p (by simpa using h)
    rw [List.flatMap_cons, show (k + 1) * 4 = k * 4 + 1 + 1 + 1 + 1 by omega]
    exact ⟨by simpa [eC] using hr.1, by simpa [eC] using hr.2.1, by simpa [eC] using hr.2.2.1, by simpa [eC] using hr.2.2.2⟩
theorem flatE_len (l : List Ed) : (l.flatMap eC).length = l.length * 4 := by
  induction l with
  | nil => rfl
  | cons x r ih => rw [List.flatMap_cons, List.length_append, ih, List.length_cons]; show 4 + r.length * 4 = (r.length + 1) * 4; omega
theorem flatE_one (l : List Ed) : ∀ u ∈ l.flatMap eC, u.oneCell' = true := by
  intro u hu
  obtain ⟨e, _, h⟩ := List.mem_flatMap.1 hu
  simp [eC] at h
  rcases h with rfl | rfl | rfl | rfl <;> rfl
theorem flatE_set : ∀ (l : List Ed) (k : Nat) (a b c d : Int), ((((l.flatMap eC).set (k * 4) (.int .i64 a)).set (k * 4 + 1) (.int .i64 b)).set (k * 4 + 2) (.int .i64 c)).set (k * 4 + 3) (.int .i64 d) = (l.set k ((a, b), (c, d))).flatMap eC
  | [], k, a, b, c, d => rfl
  | q :: r, 0, a, b, c, d => rfl
  | q :: r, k + 1, a, b, c, d => by
    rw [List.set_cons_succ, List.flatMap_cons, List.flatMap_cons, ← flatE_set r k a b c d]
    show ((((Value.int .i64 q.1.1 :: Value.int .i64 q.1.2 :: Value.int .i64 q.2.1 :: Value.int .i64 q.2.2 :: r.flatMap eC).set ((k + 1) * 4) _).set ((k + 1) * 4 + 1) _).set ((k + 1) * 4 + 2) _).set ((k + 1) * 4 + 3) _ = _
    rw [show (k + 1) * 4 = k * 4 + 1 + 1 + 1 + 1 by omega]
    rfl
theorem RowE.set_ {w : World} {g : Nat} {l : List Ed} (h : RowE w g l) (k : Nat) (a b c d : Int) : RowE ((((w.setCell ⟨g, k * 4, none⟩ (.int .i64 a)).setCell ⟨g, k * 4 + 1, none⟩ (.int .i64 b)).setCell ⟨g, k * 4 + 2, none⟩ (.int .i64 c)).setCell ⟨g, k * 4 + 3, none⟩ (.int .i64 d)) g (l.set k ((a, b), (c, d))) := by
  have := Blk.set_ (Blk.set_ (Blk.set_ (Blk.set_ h (k * 4) (.int .i64 a)) (k * 4 + 1) (.int .i64 b)) (k * 4 + 2) (.int .i64 c)) (k * 4 + 3) (.int .i64 d)
  rw [List.setIfInBounds_toArray, List.setIfInBounds_toArray, List.setIfInBounds_toArray, List.setIfInBounds_toArray, flatE_set] at this
  exact this
theorem RowE.at_ {w : World} {g : Nat} {l : List Ed} (h : RowE w g l) {k : Nat} {e : Ed} (hk : l[k]? = some e) : (w.cell? ⟨g, k * 4, none⟩ = some (.int .i64 e.1.1) ∧ w.cell? ⟨g, k * 4 + 1, none⟩ = some (.int .i64 e.1.2) ∧ w.cell? ⟨g, k * 4 + 2, none⟩ = some (.int .i64 e.2.1) ∧ w.cell? ⟨g, k * 4 + 3, none⟩ = some (.int .i64 e.2.2)) ∧ w.frozen? ⟨g, k * 4, none⟩ = false ∧ w.frozen? ⟨g, k * 4 + 1, none⟩ = false ∧ w.frozen? ⟨g, k * 4 + 2, none⟩ = false ∧ w.frozen? ⟨g, k * 4 + 3, none⟩ = false := by
  obtain ⟨f1, f2, f3, f4⟩ := flatE_at l k e hk
  refine ⟨⟨?_, ?_, ?_, ?_⟩, h.frozen _, h.frozen _, h.frozen _, h.frozen _⟩
  · rw [h.cell]; simpa using f1
  · rw [h.cell]; simpa using f2
  · rw [h.cell]; simpa using f3
  · rw [h.cell]; simpa using f4
theorem RowE.src {w : World} {g : Nat} {l : List Ed} (h : RowE w g l) {n : Nat} (hn : l.length = n) (hm : n ≤ maxLen) : SrcE w (.slice (some ⟨g, 0, none⟩) n n) l := by
  subst hn
  refine ⟨flatE_len l, _, _, rfl, Nat.le_refl _, hm, fun _ => ⟨g, 0, rfl, h.lt, fun j u hu => ?_⟩⟩
  rw [Nat.zero_add, h.cell j, ← hu]
  exact List.getElem?_toArray
theorem segInfo : ∃ i0, Try.prog.info? 47 = some i0 ∧ i0.zero = some (.agg #[.int .i64 0, .int .i64 0, .int .i64 0, .int .i64 0]) ∧ i0.size = 4 ∧ i0.bytes = 32 :=
  ⟨(Try.prog.info? 47).get (by kernel_rfl), by kernel_rfl, by kernel_rfl, by kernel_rfl, by kernel_rfl⟩
def zE : Ed := ((0, 0), (0, 0))
theorem made_edges (n : Nat) : madeCells #[Value.int .i64 0, .int .i64 0, .int .i64 0, .int .i64 0] (n * 4) = ((List.replicate n zE).flatMap eC).toArray := by
  have hl : ((List.replicate n zE).flatMap eC) = List.replicate (n * 4) (.int .i64 0) := by
    induction n with
    | zero => rfl
    | succ n ih => rw [List.replicate_succ, List.flatMap_cons, ih, show (n + 1) * 4 = n * 4 + 1 + 1 + 1 + 1 by omega, List.replicate_succ, List.replicate_succ, List.replicate_succ, List.replicate_succ]; rfl
  rw [hl]
  apply Array.ext_getElem?
  intro j
  by_cases hj : j < n * 4
  · have : j % 4 < 4 := Nat.mod_lt _ (by omega)
    rcases (show j % 4 = 0 ∨ j % 4 = 1 ∨ j % 4 = 2 ∨ j % 4 = 3 by omega) with h | h | h | h <;> simp [madeCells, hj, h]
  · simp [madeCells, hj]
theorem make_edges (n : Nat) (hn : n ≤ 1099511627776) (w : World) : (Instr.makeSlice 51 (.int .i64 (n : Int)) (.int .i64 (n : Int))).run Try.prog w = .ok (.slice (some ⟨w.heap.size, 0, none⟩) n n) (w.alloc (.cells ((List.replicate n zE).flatMap eC).toArray 47)) := by
  obtain ⟨i0, hi, hz, hs, hb⟩ := segInfo
  have hr := run_make (P := Try.prog) w 51 47 i0 (.agg #[.int .i64 0, .int .i64 0, .int .i64 0, .int .i64 0]) Try.underlying51 hi hz .i64 .i64 n n (by omega) (Int.le_refl _) (by rw [hb]; omega) (by omega)
  simp only [Int.toNat_natCast, hs] at hr
  rw [← made_edges]
  exact hr
/-- where a list's segments lie, in all later worlds -/
theorem srcE_at {w : World} {A : Option Addr} {n c : Nat} {l : List Ed} (h : Src w 4 (.slice A n c) n (l.flatMap eC)) (hn : 0 < n) :
    ∃ g o, A = some ⟨g, o, none⟩ ∧ g < w.heap.size ∧ ∀ w', Nw w w' → ∀ k e, l[k]? = some e → w'.cell? ⟨g, o + k * 4, none⟩ = some (.int .i64 e.1.1) ∧ w'.cell? ⟨g, o + k * 4 + 1, none⟩ = some (.int .i64 e.1.2) ∧ w'.cell? ⟨g, o + k * 4 + 2, none⟩ = some (.int .i64 e.2.1) ∧ w'.cell? ⟨g, o + k * 4 + 3, none⟩ = some (.int .i64 e.2.2) := by
  obtain ⟨_, A', c', e, _, _, hc⟩ := h
  injection e with e1 e2 e3
  subst e1
  obtain ⟨g, o, rfl, hg, hc⟩ := hc (by omega)
  refine ⟨g, o, rfl, hg, fun w' hk k e he => ?_⟩
  obtain ⟨f1, f2, f3, f4⟩ := flatE_at l k e he
  exact ⟨(hk.cell (p := ⟨g, o + k * 4, none⟩) hg id).trans (hc _ _ f1), (hk.cell (p := ⟨g, o + (k * 4 + 1), none⟩) hg id).trans (hc _ _ f2), (hk.cell (p := ⟨g, o + (k * 4 + 2), none⟩) hg id).trans (hc _ _ f3), (hk.cell (p := ⟨g, o + (k * 4 + 3), none⟩) hg id).trans (hc _ _ f4)⟩
end Go.Proofs.Ythifljljaejfmaa.W
