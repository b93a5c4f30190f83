/-
  vec: Compact where no two neighbours are equal; Sorted there: what they return. Condition: the list is not longer than a slice may be.
  vec: Clone; Sorted of a list whose sorted form has no two equal neighbours: what they return. Condition: the list is not longer than a slice may be.
  ring: a list of segments in memory. No condition.
  ring: Edges: what it returns. Condition: the list is not longer than 2^40.
  vec: Compact of any list in a row that the call may turn: it returns the list rid of equal neighbours. Condition: the list is not longer than a slice may be.
  awake: the examples of the document hold. No condition.
  small: whether all coordinates are within 2^28: the call returns true. No condition.
  vec: two laws for Compact's inner loop: clear of a row of vectors, unequal vectors. No condition.
  vec: Compact of any list in a row that the call may turn: it returns the list rid of equal neighbours. Condition: the list is not longer than a slice may be.
  vec: Sorted of any list: it returns the list in ascending order, each vector once. Condition: the list is not longer than a slice may be.
  ring: a row of vectors of the call's own: what is stored into it. No condition.
-/
import Derived.Test.YtahamffngmdjfaaK04
import Derived.Test.YtahamffngmdjfaaK13
import Derived.Deep.OwnRows
import Derived.Laws.MakeOwn
import Derived.Test.YtahamffngmdjfaaK14
import Derived.BigRegion
import Derived.Lib.SliceRun
import Derived.Laws.StructEq
namespace Go.Proofs.Ytahamffngmdjfaa.W
open Go.RowKit Go.Proofs.Ytahamffngmdjfaa.V

/-- no two neighbours are equal -/
def Apart (l : List (Int × Int)) : Prop := ∀ i p q, l[i]? = some p → l[i + 1]? = some q → p ≠ q

set_option maxRecDepth 100000 in
set_option maxHeartbeats 3200000 in
theorem compact_same (l : List (Int × Int)) (v : Value) (w : World) (hv : SrcV w v l) (ha : Apart l) : Calls Try.prog 100 #[v] w fun e w' => e = .returned v ∧ Nw w w' := by
  obtain ⟨hl, A, c, rfl, hnc, hcm, hcell⟩ := hv
  obtain ⟨n, hn⟩ : ∃ n, l.length = n := ⟨_, rfl⟩
  rw [hn] at hnc hcell ⊢
  unfold maxLen at hcm
  have HN := Lib.hid hn
  have HC := Lib.hid hcell
  have HA := Lib.hid ha
  clear hl hn hcell ha
  by_cases h2 : n < 2
  · have e1 : decide ((n : Int) < 2) = true := decide_eq_true (by omega)
    go_enter Try.func100, Try.ntmps100
    go_wp2
    go_ret
    exact ⟨rfl, Kp.refl _ _⟩
  · have e1 : decide ((n : Int) < 2) = false := decide_eq_false (by omega)
    obtain ⟨g, o, rfl, hb, hc⟩ := HC.out (by omega)
    have HC := Lib.hid hc
    have HG := Lib.hid hb
    clear hc hb
    go_enter Try.func100, Try.ntmps100
    go_wp2
    go_loopw [3] (fun i wr => ∃ j : Nat, i = .int .i64 ((j + 1 : Nat) : Int) ∧ j + 1 ≤ n ∧ Nw w wr) (fun i _ => n - (intOf i).toNat)
    case atStart => exact ⟨0, rfl, by omega, Kp.refl _ _⟩
    case round =>
      obtain ⟨j, rfl, hj, hnw⟩ := hrel
      have HK := Lib.hid hnw
      clear hnw
      by_cases hkn : j + 1 < n
      · have i0 : (0 : Int) ≤ (j : Int) := by omega
        have i1 : (j : Int) < (n : Int) := by omega
        have i3 : (0 : Int) ≤ ((j + 1 : Nat) : Int) := by omega
        have i4 : ((j + 1 : Nat) : Int) < (n : Int) := by omega
        have e2 : IntKind.i64.wrap (((j + 1 : Nat) : Int) - 1) = (j : Int) := by rw [IntKind.wrap_i64]; omega
        have e3 : IntKind.i64.wrap (((j + 1 : Nat) : Int) + 1) = ((j + 1 + 1 : Nat) : Int) := by rw [IntKind.wrap_i64]; omega
        obtain ⟨⟨px, py⟩, hp⟩ : ∃ x, l[j]? = some x := ⟨l[j]'(by rw [HN.out]; omega), List.getElem?_eq_getElem _⟩
        obtain ⟨⟨sx, sy⟩, hs⟩ : ∃ x, l[j + 1]? = some x := ⟨l[j + 1]'(by rw [HN.out]; omega), List.getElem?_eq_getElem _⟩
        have hne := HA.out j _ _ hp hs
        obtain ⟨f1, f2⟩ := flatV_at l j (px, py) hp
        obtain ⟨f3, f4⟩ := flatV_at l (j + 1) (sx, sy) hs
        have q0 : wr.cell? ⟨g, o + j * 2, none⟩ = some (.int .i64 px) := (HK.out.cell (p := ⟨g, o + j * 2, none⟩) HG.out id).trans (HC.out _ _ f1)
        have q1 : wr.cell? ⟨g, o + j * 2 + 1, none⟩ = some (.int .i64 py) := (HK.out.cell (p := ⟨g, o + (j * 2 + 1), none⟩) HG.out id).trans (HC.out _ _ f2)
        have q2 : wr.cell? ⟨g, o + (j + 1) * 2, none⟩ = some (.int .i64 sx) := (HK.out.cell (p := ⟨g, o + (j + 1) * 2, none⟩) HG.out id).trans (HC.out _ _ f3)
        have q3 : wr.cell? ⟨g, o + (j + 1) * 2 + 1, none⟩ = some (.int .i64 sy) := (HK.out.cell (p := ⟨g, o + ((j + 1) * 2 + 1), none⟩) HG.out id).trans (HC.out _ _ f4)
        clear f1 f2 f3 f4 hp hs
        by_cases h1 : sx = px
        · subst h1
          have e4 : (sy == py) = false := by simp; rintro rfl; exact hne rfl
          clear hne
          go_wp2_with fail
          go_region
          go_wp2_with fail
          go_roundw
          case rel => exact ⟨j + 1, rfl, by omega, by repeat (first | exact HK.out | refine Kp.drew ?_)⟩
          case measure => simp [intOf]; omega
        · have e4 : (sx == px) = false := by simp [h1]
          clear hne h1
          go_wp2_with fail
          go_region
          go_wp2_with fail
          go_roundw
          case rel => exact ⟨j + 1, rfl, by omega, by repeat (first | exact HK.out | refine Kp.drew ?_)⟩
          case measure => simp [intOf]; omega
      · obtain rfl : j + 1 = n := by omega
        have i5 : decide (((j + 1 : Nat) : Int) < ((j + 1 : Nat) : Int)) = false := by simp
        go_wp2_with fail
        go_ret
        exact ⟨rfl, HK.out⟩
end Go.Proofs.Ytahamffngmdjfaa.W

namespace Go.Proofs.Ytahamffngmdjfaa.W
open Go.RowKit Go.Proofs.Ytahamffngmdjfaa.V

theorem vec_info : ∃ i0, Try.prog.info? 23 = some i0 ∧ i0.zero = some (vV 0 0) ∧ i0.size = 2 ∧ i0.bytes = 16 :=
  ⟨(Try.prog.info? 23).get (by kernel_rfl), by kernel_rfl, by kernel_rfl, by kernel_rfl, by kernel_rfl⟩

/-- the value is nil, or it lies in a block's own cells -/
def Flat (v : Value) : Prop := v = .slice none 0 0 ∨ ∃ g o n c, v = .slice (some ⟨g, o, none⟩) n c
theorem SrcV.flat {w : World} {v : Value} {l : List (Int × Int)} (h : SrcV w v l) (hne : l ≠ []) : Flat v := by
  obtain ⟨_, A, c, rfl, _, _, hc⟩ := h
  obtain ⟨g, o, rfl, _⟩ := hc (List.length_pos_iff.2 hne)
  exact .inr ⟨g, o, _, _, rfl⟩
theorem flatV_one (l : List (Int × Int)) : ∀ u ∈ l.flatMap vC, u.oneCell' = true := by
  intro u hu
  obtain ⟨p, _, hp⟩ := List.mem_flatMap.1 hu
  simp [vC] at hp
  rcases hp with rfl | rfl <;> rfl

set_option maxRecDepth 100000 in
set_option maxHeartbeats 1600000 in
theorem clone_any (l : List (Int × Int)) (g o c : Nat) (w : World) (hv : SrcV w (.slice (some ⟨g, o, none⟩) l.length c) l) (hl : l.length ≤ 1099511627776) :
    Calls Try.prog 98 #[.slice (some ⟨g, o, none⟩) l.length c] w fun e w' => ∃ k cap, w.heap.size ≤ k ∧ l.length ≤ cap ∧ cap ≤ maxLen ∧ k < w'.heap.size ∧ e = .returned (.slice (some ⟨k, 0, none⟩) l.length cap) ∧ Sort.HoldsK vC 2 w' k 0 l.toArray ∧ Nw w w' := by
  obtain ⟨i0, hi, hz, hs, hb⟩ := vec_info
  obtain ⟨hlen, A, c', hAA, hnc, hcm, hcell⟩ := hv
  obtain ⟨rfl, rfl⟩ : A = some ⟨g, o, none⟩ ∧ c' = c := by
    injection hAA with h1 h2 h3
    exact ⟨h1.symm, h3.symm⟩
  have hcon := AnyE.slices_Clone Try.cloneVec i0 (vV 0 0) 2 16 hi hz hs hb rfl (by decide) Try.sizeOf23 g o l.length c' (l.flatMap vC) w hlen (by unfold maxLen at *; omega) (by omega)
    (fun j u hu => by
      have hp : 0 < l.length := by
        have := List.getElem?_eq_some_iff.1 hu
        obtain ⟨h, _⟩ := this
        rw [hlen] at h
        omega
      obtain ⟨g', o', he, _, hc⟩ := hcell hp
      injection he with he
      injection he with h1 h2
      subst h1 h2
      exact hc j u hu) (flatV_one l)
  refine Calls.mono hcon ?_
  rintro e w' ⟨v', rfl, ho, hne, hbel⟩
  rcases ho.2 with ⟨rfl, _⟩ | ⟨k, cap, cur, rfl, hk, hgk, hcap, hmx, hs', ht⟩
  · exact absurd rfl hne
  · refine ⟨k, cap, hk, hcap, hmx, (Array.getElem?_eq_some_iff.1 hgk).1, rfl, ?_, Kp.of_below hbel⟩
    intro j hj
    have hfz : w'.frozen? ⟨k, 0 + j, none⟩ = false := by simp [World.frozen?, hgk]
    refine ⟨?_, hfz⟩
    rw [Sort.size_flatK] at hj
    have hj' : j < l.length * 2 := by simpa using hj
    rw [Sort.get_flatK _ _ _ _ hj]
    have hq : j / 2 < l.length := by omega
    have hx : l[j / 2]? = some (l[j / 2]'hq) := List.getElem?_eq_getElem hq
    obtain ⟨f1, f2⟩ := flatV_at l (j / 2) _ hx
    have hcells : ∀ u, (l.flatMap vC)[j]? = some u → w'.cell? ⟨k, 0 + j, none⟩ = some u := fun u hu => by
      have h := World.ownsRow.cells ho (g := k) rfl j u hu
      have hadd : (⟨k, 0, none⟩ : Addr).add j = ⟨k, 0 + j, none⟩ := by
        unfold Addr.add
        split <;> simp_all
      rw [hadd] at h
      exact h
    have hd : (l.toArray)[j / 2]! = l[j / 2]'hq := by simp [hq]
    rw [hd]
    rcases Nat.mod_two_eq_zero_or_one j with h | h
    · rw [h]
      exact hcells _ (by rw [show j / 2 * 2 = j by omega] at f1; exact f1)
    · rw [h]
      exact hcells _ (by rw [show j / 2 * 2 + 1 = j by omega] at f2; exact f2)

theorem src_holds {w : World} {g cap : Nat} {l : List (Int × Int)} {n : Nat} (h : Sort.HoldsK vC 2 w g 0 l.toArray) (hg : g < w.heap.size) (hn : l.length = n) (hc : n ≤ cap) (hm : cap ≤ maxLen) : SrcV w (.slice (some ⟨g, 0, none⟩) n cap) l := by
  subst hn
  refine ⟨flatV_len l, _, _, rfl, hc, hm, fun _ => ⟨g, 0, rfl, hg, fun j u hu => ?_⟩⟩
  have hj : j < l.length * 2 := by
    obtain ⟨h, _⟩ := List.getElem?_eq_some_iff.1 hu
    rwa [flatV_len] at h
  have hq : j / 2 < l.length := by omega
  have hx : l[j / 2]? = some (l[j / 2]'hq) := List.getElem?_eq_getElem hq
  obtain ⟨f1, f2⟩ := flatV_at l (j / 2) _ hx
  have h1 := h j (by rw [Sort.size_flatK]; simpa using hj)
  rw [Sort.get_flatK _ _ _ _ (by simpa using hj), show (l.toArray)[j / 2]! = l[j / 2]'hq by simp [hq]] at h1
  refine h1.1.trans ?_
  rcases Nat.mod_two_eq_zero_or_one j with h | h
  · rw [h]
    rw [show j / 2 * 2 = j by omega, hu] at f1
    exact f1.symm
  · rw [h]
    rw [show j / 2 * 2 + 1 = j by omega, hu] at f2
    exact f2.symm

set_option maxHeartbeats 800000 in
theorem sorted_apart (l : List (Int × Int)) (v : Value) (w : World) (hv : SrcV w v l) (hne : l ≠ []) (ha : Apart (sortV l)) (hl : l.length ≤ 1099511627776) :
    Calls Try.prog 47 #[v] w fun e w' => ∃ k cap, w.heap.size ≤ k ∧ k < w'.heap.size ∧ e = .returned (.slice (some ⟨k, 0, none⟩) l.length cap) ∧ SrcV w' (.slice (some ⟨k, 0, none⟩) l.length cap) (sortV l) ∧ Nw w w' := by
  obtain ⟨A, c, rfl⟩ := hv.shape
  obtain ⟨g, o, rfl⟩ : ∃ g o, A = some ⟨g, o, none⟩ := by
    rcases SrcV.flat hv hne with h | ⟨g, o, n, c', h⟩
    · injection h with h1 h2
      exact absurd (List.length_eq_zero_iff.1 h2) hne
    · injection h with h1
      exact ⟨g, o, h1⟩
  have h1 := clone_any l g o c w hv hl
  go_enter Try.func47, Try.ntmps47
  go_wp2_with fail
  refine h1.mono ?_
  rintro e w1 ⟨k, cap, hk, hcap, hmx, hkw, rfl, hH, hk1⟩
  have h2 := sort_any k cap l w1 hH hkw hl
  go_wp2_with fail
  refine h2.mono ?_
  rintro e w2 ⟨rfl, hk2, hH2⟩
  have hkw2 := Nat.lt_of_lt_of_le hkw hk2.size
  have hs2 := src_holds hH2 hkw2 (sortV_len l) hcap hmx
  have h3 := compact_same (sortV l) (.slice (some ⟨k, 0, none⟩) l.length cap) w2 hs2 ha
  go_wp2_with fail
  refine h3.mono ?_
  rintro e w3 ⟨rfl, hk3⟩
  go_wp2_with fail
  go_ret
  exact ⟨k, cap, hk, Nat.lt_of_lt_of_le hkw2 hk3.size, rfl, hs2.nw hk3, (hk1.own hk2 (fun i hi => by rw [hi]; exact hk)).tr hk3⟩
end Go.Proofs.Ytahamffngmdjfaa.W

namespace Go.Proofs.Ytahamffngmdjfaa.W
open Go.RowKit Go.Proofs.Ytahamffngmdjfaa.V Go.Proofs.Ytahamffngmdjfaa.G

abbrev eC (e : Ed) : List Value := [.int .i64 e.1.1, .int .i64 e.1.2, .int .i64 e.2.1, .int .i64 e.2.2]
abbrev SrcE (w : World) (v : Value) (l : List Ed) : Prop := Src w 4 v l.length (l.flatMap eC)
abbrev RowE (w : World) (g : Nat) (l : List Ed) : Prop := Blk w g 48 (l.flatMap eC).toArray
theorem flatE_at : ∀ (l : List Ed) (k : Nat) (e : Ed), l[k]? = some e → (l.flatMap eC)[k * 4]? = some (.int .i64 e.1.1) ∧ (l.flatMap eC)[k * 4 + 1]? = some (.int .i64 e.1.2) ∧ (l.flatMap eC)[k * 4 + 2]? = some (.int .i64 e.2.1) ∧ (l.flatMap eC)[k * 4 + 3]? = some (.int .i64 e.2.2)
  | [], k, p, h => by simp at h
  | q :: r, 0, p, h => by
    obtain rfl : q = p := by simpa using h
    exact ⟨rfl, rfl, rfl, rfl⟩
  | q :: r, k + 1, p, h => by
    have hr := flatE_at r k p (by simpa using h)
    rw [List.flatMap_cons, show (k + 1) * 4 = k * 4 + 1 + 1 + 1 + 1 by omega]
    exact ⟨by simpa [eC] using hr.1, by simpa [eC] using hr.2.1, by simpa [eC] using hr.2.2.1, by simpa [eC] using hr.2.2.2⟩
theorem flatE_len (l : List Ed) : (l.flatMap eC).length = l.length * 4 := by
  induction l with
  | nil => rfl
  | cons x r ih => rw [List.flatMap_cons, List.length_append, ih, List.length_cons]; show 4 + r.length * 4 = (r.length + 1) * 4; omega
theorem flatE_one (l : List Ed) : ∀ u ∈ l.flatMap eC, u.oneCell' = true := by
  intro u hu
  obtain ⟨e, _, h⟩ := List.mem_flatMap.1 hu
  simp [eC] at h
  rcases h with rfl | rfl | rfl | rfl <;> rfl
theorem flatE_set : ∀ (l : List Ed) (k : Nat) (a b c d : Int), ((((l.flatMap eC).set (k * 4) (.int .i64 a)).set (k * 4 + 1) (.int .i64 b)).set (k * 4 + 2) (.int .i64 c)).set (k * 4 + 3) (.int .i64 d) = (l.set k ((a, b), (c, d))).flatMap eC
  | [], k, a, b, c, d => rfl
  | q :: r, 0, a, b, c, d => rfl
  | q :: r, k + 1, a, b, c, d => by
    rw [List.set_cons_succ, List.flatMap_cons, List.flatMap_cons, ← flatE_set r k a b c d]
    show ((((Value.int .i64 q.1.1 :: Value.int .i64 q.1.2 :: Value.int .i64 q.2.1 :: Value.int .i64 q.2.2 :: r.flatMap eC).set ((k + 1) * 4) _).set ((k + 1) * 4 + 1) _).set ((k + 1) * 4 + 2) _).set ((k + 1) * 4 + 3) _ = _
    rw [show (k + 1) * 4 = k * 4 + 1 + 1 + 1 + 1 by omega]
    rfl
theorem RowE.set_ {w : World} {g : Nat} {l : List Ed} (h : RowE w g l) (k : Nat) (a b c d : Int) : RowE ((((w.setCell ⟨g, k * 4, none⟩ (.int .i64 a)).setCell ⟨g, k * 4 + 1, none⟩ (.int .i64 b)).setCell ⟨g, k * 4 + 2, none⟩ (.int .i64 c)).setCell ⟨g, k * 4 + 3, none⟩ (.int .i64 d)) g (l.set k ((a, b), (c, d))) := by
  have := Blk.set_ (Blk.set_ (Blk.set_ (Blk.set_ h (k * 4) (.int .i64 a)) (k * 4 + 1) (.int .i64 b)) (k * 4 + 2) (.int .i64 c)) (k * 4 + 3) (.int .i64 d)
  rw [List.setIfInBounds_toArray, List.setIfInBounds_toArray, List.setIfInBounds_toArray, List.setIfInBounds_toArray, flatE_set] at this
  exact this
theorem RowE.at_ {w : World} {g : Nat} {l : List Ed} (h : RowE w g l) {k : Nat} {e : Ed} (hk : l[k]? = some e) : (w.cell? ⟨g, k * 4, none⟩ = some (.int .i64 e.1.1) ∧ w.cell? ⟨g, k * 4 + 1, none⟩ = some (.int .i64 e.1.2) ∧ w.cell? ⟨g, k * 4 + 2, none⟩ = some (.int .i64 e.2.1) ∧ w.cell? ⟨g, k * 4 + 3, none⟩ = some (.int .i64 e.2.2)) ∧ w.frozen? ⟨g, k * 4, none⟩ = false ∧ w.frozen? ⟨g, k * 4 + 1, none⟩ = false ∧ w.frozen? ⟨g, k * 4 + 2, none⟩ = false ∧ w.frozen? ⟨g, k * 4 + 3, none⟩ = false := by
  obtain ⟨f1, f2, f3, f4⟩ := flatE_at l k e hk
  refine ⟨⟨?_, ?_, ?_, ?_⟩, h.frozen _, h.frozen _, h.frozen _, h.frozen _⟩
  · rw [h.cell]; simpa using f1
  · rw [h.cell]; simpa using f2
  · rw [h.cell]; simpa using f3
  · rw [h.cell]; simpa using f4
theorem RowE.src {w : World} {g : Nat} {l : List Ed} (h : RowE w g l) {n : Nat} (hn : l.length = n) (hm : n ≤ maxLen) : SrcE w (.slice (some ⟨g, 0, none⟩) n n) l := by
  subst hn
  refine ⟨flatE_len l, _, _, rfl, Nat.le_refl _, hm, fun _ => ⟨g, 0, rfl, h.lt, fun j u hu => ?_⟩⟩
  rw [Nat.zero_add, h.cell j, ← hu]
  exact List.getElem?_toArray
theorem segInfo : ∃ i0, Try.prog.info? 48 = some i0 ∧ i0.zero = some (.agg #[.int .i64 0, .int .i64 0, .int .i64 0, .int .i64 0]) ∧ i0.size = 4 ∧ i0.bytes = 32 :=
  ⟨(Try.prog.info? 48).get (by kernel_rfl), by kernel_rfl, by kernel_rfl, by kernel_rfl, by kernel_rfl⟩
def zE : Ed := ((0, 0), (0, 0))
theorem made_edges (n : Nat) : madeCells #[Value.int .i64 0, .int .i64 0, .int .i64 0, .int .i64 0] (n * 4) = ((List.replicate n zE).flatMap eC).toArray := by
  have hl : ((List.replicate n zE).flatMap eC) = List.replicate (n * 4) (.int .i64 0) := by
    induction n with
    | zero => rfl
    | succ n ih => rw [List.replicate_succ, List.flatMap_cons, ih, show (n + 1) * 4 = n * 4 + 1 + 1 + 1 + 1 by omega, List.replicate_succ, List.replicate_succ, List.replicate_succ, List.replicate_succ]; rfl
  rw [hl]
  apply Array.ext_getElem?
  intro j
  by_cases hj : j < n * 4
  · have : j % 4 < 4 := Nat.mod_lt _ (by omega)
    rcases (show j % 4 = 0 ∨ j % 4 = 1 ∨ j % 4 = 2 ∨ j % 4 = 3 by omega) with h | h | h | h <;> simp [madeCells, hj, h]
  · simp [madeCells, hj]
theorem make_edges (n : Nat) (hn : n ≤ 1099511627776) (w : World) : (Instr.makeSlice 78 (.int .i64 (n : Int)) (.int .i64 (n : Int))).run Try.prog w = .ok (.slice (some ⟨w.heap.size, 0, none⟩) n n) (w.alloc (.cells ((List.replicate n zE).flatMap eC).toArray 48)) := by
  obtain ⟨i0, hi, hz, hs, hb⟩ := segInfo
  have hr := run_make (P := Try.prog) w 78 48 i0 (.agg #[.int .i64 0, .int .i64 0, .int .i64 0, .int .i64 0]) Try.underlying78 hi hz .i64 .i64 n n (by omega) (Int.le_refl _) (by rw [hb]; omega) (by omega)
  simp only [Int.toNat_natCast, hs] at hr
  rw [← made_edges]
  exact hr
/-- where a list's segments lie, in all later worlds -/
theorem srcE_at {w : World} {A : Option Addr} {n c : Nat} {l : List Ed} (h : Src w 4 (.slice A n c) n (l.flatMap eC)) (hn : 0 < n) :
    ∃ g o, A = some ⟨g, o, none⟩ ∧ g < w.heap.size ∧ ∀ w', Nw w w' → ∀ k e, l[k]? = some e → w'.cell? ⟨g, o + k * 4, none⟩ = some (.int .i64 e.1.1) ∧ w'.cell? ⟨g, o + k * 4 + 1, none⟩ = some (.int .i64 e.1.2) ∧ w'.cell? ⟨g, o + k * 4 + 2, none⟩ = some (.int .i64 e.2.1) ∧ w'.cell? ⟨g, o + k * 4 + 3, none⟩ = some (.int .i64 e.2.2) := by
  obtain ⟨_, A', c', e, _, _, hc⟩ := h
  injection e with e1 e2 e3
  subst e1
  obtain ⟨g, o, rfl, hg, hc⟩ := hc (by omega)
  refine ⟨g, o, rfl, hg, fun w' hk k e he => ?_⟩
  obtain ⟨f1, f2, f3, f4⟩ := flatE_at l k e he
  exact ⟨(hk.cell (p := ⟨g, o + k * 4, none⟩) hg id).trans (hc _ _ f1), (hk.cell (p := ⟨g, o + (k * 4 + 1), none⟩) hg id).trans (hc _ _ f2), (hk.cell (p := ⟨g, o + (k * 4 + 2), none⟩) hg id).trans (hc _ _ f3), (hk.cell (p := ⟨g, o + (k * 4 + 3), none⟩) hg id).trans (hc _ _ f4)⟩
end Go.Proofs.Ytahamffngmdjfaa.W

namespace Go.Proofs.Ytahamffngmdjfaa.W
open Go.RowKit Go.Proofs.Ytahamffngmdjfaa.V Go.Proofs.Ytahamffngmdjfaa.G


theorem edges_ext {l : List Pt} {M : List Ed} (h2 : ¬ l.length < 2) (hm : M.length = l.length) (h : ∀ j, j < l.length → M[j]? = some (edgeP l j)) : M = edgesP l := by
  apply List.ext_getElem?
  intro j
  rcases Nat.lt_or_ge j l.length with hj | hj
  · rw [h j hj, edges_at h2 hj]
  · rw [List.getElem?_eq_none (by omega), List.getElem?_eq_none (by rw [edges_len, if_neg h2]; exact hj)]
set_option maxRecDepth 100000 in
set_option maxHeartbeats 6400000 in
theorem edges_any (l : List (Int × Int)) (v : Value) (w : World) (hv : SrcV w v l) (hl : l.length ≤ 1099511627776) : Calls Try.prog 81 #[v] w fun e w' => ∃ v', e = .returned v' ∧ SrcE w' v' (edgesP l) ∧ Nw w w' := by
  obtain ⟨A, c, rfl⟩ := hv.shape
  obtain ⟨n, hn⟩ : ∃ n, l.length = n := ⟨_, rfl⟩
  replace hv := src_n hv hn
  rw [hn] at hl ⊢
  have HV := Lib.hid hv
  have HN := Lib.hid hn
  have hmx := src_max hv
  clear hv hn
  by_cases h2 : n < 2
  · have f2 : ((n : Int) < 2) := by omega
    go_enter Try.func81, Try.ntmps81
    go_wp2_with fail
    go_ret
    refine ⟨_, rfl, ?_, Kp.refl _ _⟩
    rw [show edgesP l = [] by unfold edgesP; rw [if_pos (by rw [HN.out]; exact h2)]]
    exact Src.nil _ _
  · have f2 : ¬ ((n : Int) < 2) := by omega
    have hmk := make_edges n hl
    have H2 := Lib.hid h2
    go_enter Try.func81, Try.ntmps81
    go_wp2_with fail
    obtain ⟨wa, hwa⟩ : ∃ wa, w.alloc (.cells ((List.replicate n zE).flatMap eC).toArray 48) = wa := ⟨_, rfl⟩
    rw [hwa]
    have HA0 := Lib.hid (show Nw w wa by rw [← hwa]; exact nw_alloc _ _)
    have HR0 := Lib.hid (show RowE wa w.heap.size (List.replicate n zE) by rw [← hwa]; exact Blk.new _ _ _)
    obtain ⟨G, hG⟩ : ∃ G, w.heap.size = G := ⟨_, rfl⟩
    rw [hG] at HR0 ⊢
    have HG := Lib.hid hG
    clear hwa hmk h2 hG
    go_loopw [14] (fun i wr => ∃ (k : Nat) (M : List Ed), i = .int .i64 k ∧ k ≤ n ∧ M.length = n ∧ (∀ j, j < k → M[j]? = some (edgeP l j)) ∧ RowE wr G M ∧ Nw w wr) (fun i _ => n - (intOf i).toNat)
    case atStart => exact ⟨0, _, rfl, Nat.zero_le _, List.length_replicate, fun j h => absurd h (Nat.not_lt_zero _), HR0.out, HA0.out⟩
    case round =>
      obtain ⟨k, M, rfl, hk, hml, hall, hrow, hnw⟩ := hrel
      have HML := Lib.hid hml
      have HALL := Lib.hid hall
      have HROW := Lib.hid hrow
      clear hml hall hrow
      have HK := Lib.hid hnw
      clear hnw
      by_cases hkn : k < n
      · have i0 : (0 : Int) ≤ (k : Int) := by omega
        have i1 : (k : Int) < (n : Int) := by omega
        obtain ⟨s4, hs4⟩ : ∃ s : Nat, k + 1 = s := ⟨_, rfl⟩
        have a4 : IntKind.i64.wrap ((k : Int) + 1) = (s4 : Int) := by rw [IntKind.wrap_i64]; omega
        have H4 := Lib.hid hs4
        have hn0 : 0 < n := by omega
        obtain ⟨s5, hs5⟩ : ∃ s : Nat, (k + 1) % n = s := ⟨_, rfl⟩
        have l5 : s5 < n := by rw [← hs5]; exact Nat.mod_lt _ hn0
        have a5 : (s4 : Int).tmod (n : Int) = (s5 : Int) := by rw [tmod_nat, ← hs4, hs5]
        have z0 : ¬ (n = 0) := by omega
        have b4 : (0 : Int) ≤ (s5 : Int) := by omega
        have b5 : (s5 : Int) < (n : Int) := by omega
        obtain ⟨g, o, rfl, hg, hc⟩ := src_at HV.out (by omega)
        obtain ⟨⟨ax, ay⟩, ha⟩ : ∃ p, at_ l k = p := ⟨_, rfl⟩
        obtain ⟨⟨bx, bz⟩, hb⟩ : ∃ p, at_ l s5 = p := ⟨_, rfl⟩
        have hE : edgeP l k = ((ax, ay), (bx, bz)) := by unfold edgeP; rw [HN.out, hs5, ha, hb]
        have HE := Lib.hid hE
        obtain ⟨y0, y1⟩ := hc wr HK.out k hkn
        rw [ha] at y0 y1
        have hH := Lib.hid hc
        have HL5 := Lib.hid l5
        have HB := Lib.hid hb
        have HGG := Lib.hid hg
        clear hc hg hs5 hs4 l5 ha hb hE
        go_upto_region 7 with fail
        generalize hwb : World.alloc _ (.cells #[.int .i64 ax, .int .i64 ay] _) = wb
        have HKB := Lib.hid (show Nw w wb by rw [← hwb]; exact HK.out.alloc _)
        obtain ⟨c0, c1⟩ : wb.cell? ⟨wr.heap.size, 0, none⟩ = some (.int .i64 ax) ∧ wb.cell? ⟨wr.heap.size, 1, none⟩ = some (.int .i64 ay) := by
          rw [← hwb]
          exact ⟨(Blk.new _ _ _).cell 0, (Blk.new _ _ _).cell 1⟩
        have HRB := Lib.hid (show RowE wb G M by rw [← hwb]; exact HROW.out.alloc _)
        have hKL : k < M.length := by rw [HML.out]; exact hkn
        obtain ⟨e0, he0⟩ : ∃ e, M[k]? = some e := ⟨_, List.getElem?_eq_getElem hKL⟩
        obtain ⟨⟨x0, x1, x2, x3⟩, y4, y5, y6, y7⟩ := HRB.out.at_ he0
        obtain ⟨c2, c3⟩ := hH.out wb HKB.out s5 HL5.out
        rw [HB.out] at c2 c3
        have hne : wr.heap.size ≠ G := by have := HK.out.size; have := HROW.out.lt; omega
        clear hwb y0 y1 he0 hKL
        go_region
        all_goals (
          generalize hwc : World.drew _ = wc
          have HKC := Lib.hid (show Nw w wc by
            rw [← hwc]
            have hG := HG.out
            exact (by repeat (first | exact HKB.out | refine Kp.drew ?_ | refine Kp.new ?_ (Nat.le_of_eq hG) _ _)))
          have HRC := Lib.hid (show RowE wc G (M.set k ((ax, ay), (bx, bz))) by
            rw [← hwc]
            exact (HRB.out.set_ k ax ay bx bz).drew)
          clear hwc x0 x1 x2 x3 y4 y5 y6 y7 c0 c1 c2 c3
          go_wp2_with fail
          go_roundw
          case rel =>
            refine ⟨k + 1, _, by rw [← H4.out], by omega, by rw [List.length_set]; exact HML.out, fun j hj => ?_, HRC.out, HKC.out⟩
            rcases Nat.lt_or_ge j k with h | h
            · rw [List.getElem?_set_ne (by omega)]
              exact HALL.out j h
            · obtain rfl : j = k := by omega
              rw [List.getElem?_set_self (by rw [HML.out]; exact hkn), HE.out]
          case measure => (have := H4.out; simp [intOf]; try omega))
      · obtain rfl : k = n := by omega
        have i5 : ¬ ((k : Int) < (k : Int)) := by omega
        have hsrc := HROW.out.src HML.out (by have := hmx.1; have := hmx.2.2; omega)
        go_wp2_with fail
        go_ret
        refine ⟨_, rfl, ?_, HK.out⟩
        rw [edges_ext (l := l) (M := M) (by rw [HN.out]; exact H2.out) (by rw [HN.out]; exact HML.out) (by rw [HN.out]; exact HALL.out)] at hsrc
        exact hsrc

end Go.Proofs.Ytahamffngmdjfaa.W

namespace Go.Proofs.Ytahamffngmdjfaa.W
open Go.RowKit Go.Proofs.Ytahamffngmdjfaa.V

/-- a row of vectors, whose cells may be stored into -/
def RowV (w : World) (g : Nat) (l : List (Int × Int)) : Prop := ∀ i p, l[i]? = some p → (w.cell? ⟨g, i * 2, none⟩ = some (.int .i64 p.1) ∧ w.cell? ⟨g, i * 2 + 1, none⟩ = some (.int .i64 p.2)) ∧ w.frozen? ⟨g, i * 2, none⟩ = false ∧ w.frozen? ⟨g, i * 2 + 1, none⟩ = false
theorem frozen_set (w : World) (b o : Nat) (u : Value) (a : Addr) : (w.setCell ⟨b, o, none⟩ u).frozen? a = w.frozen? a := by
  have := World.frozen?_setCells b [u] o w a
  exact this
theorem RowV.of_holds {w : World} {g : Nat} {l : List (Int × Int)} (h : Sort.HoldsK vC 2 w g 0 l.toArray) : RowV w g l := by
  intro i p hp
  obtain ⟨hi, hv⟩ := List.getElem?_eq_some_iff.1 hp
  have h0 := Sort.HoldsK.cell h (i := i) (c := 0) (by simpa using hi) (by omega)
  have h1 := Sort.HoldsK.cell h (i := i) (c := 1) (by simpa using hi) (by omega)
  rw [show (l.toArray)[i]! = p by simp [hi, hv], Nat.zero_add] at h0 h1
  exact ⟨⟨h0.1, h1.1⟩, h0.2, h1.2⟩
theorem RowV.drew {w : World} {g : Nat} {l : List (Int × Int)} (h : RowV w g l) : RowV w.drew g l := h
theorem RowV.set_ {w : World} {g : Nat} {l : List (Int × Int)} (h : RowV w g l) {k : Nat} (hk : k < l.length) (x y : Int) : RowV ((w.setCell ⟨g, k * 2, none⟩ (.int .i64 x)).setCell ⟨g, k * 2 + 1, none⟩ (.int .i64 y)) g (l.set k (x, y)) := by
  intro i p hp
  obtain ⟨q, hq⟩ : ∃ q, l[k]? = some q := ⟨l[k], List.getElem?_eq_getElem hk⟩
  obtain ⟨⟨a, b⟩, c, d⟩ := h k q hq
  rw [frozen_set, frozen_set, frozen_set, frozen_set]
  by_cases hi : i = k
  · subst hi
    rw [List.getElem?_set_self hk] at hp
    injection hp with hp
    subst hp
    refine ⟨⟨?_, ?_⟩, c, d⟩
    · exact (World.cell?_setCell_other _ _ _ _ (by intro e; injection e with _ e; omega)).trans (World.cell?_setCell_same _ _ _ a)
    · exact World.cell?_setCell_same _ _ _ ((World.cell?_setCell_other _ _ _ _ (by intro e; injection e with _ e; omega)).trans b)
  · rw [List.getElem?_set_ne (by omega)] at hp
    obtain ⟨⟨a', b'⟩, c', d'⟩ := h i p hp
    refine ⟨⟨?_, ?_⟩, c', d'⟩
    · exact (World.cell?_setCell_other _ _ _ _ (by intro e; injection e with _ e; omega)).trans ((World.cell?_setCell_other _ _ _ _ (by intro e; injection e with _ e; omega)).trans a')
    · exact (World.cell?_setCell_other _ _ _ _ (by intro e; injection e with _ e; omega)).trans ((World.cell?_setCell_other _ _ _ _ (by intro e; injection e with _ e; omega)).trans b')
theorem RowV.src {w : World} {g cap m : Nat} {l d : List (Int × Int)} (h : RowV w g l) (hg : g < w.heap.size) (hd : l.take m = d) (hm : d.length = m) (hc : m ≤ cap) (hx : cap ≤ maxLen) : SrcV w (.slice (some ⟨g, 0, none⟩) m cap) d := by
  subst hm
  refine ⟨flatV_len d, _, _, rfl, hc, hx, fun _ => ⟨g, 0, rfl, hg, fun j u hu => ?_⟩⟩
  have hj : j < d.length * 2 := by
    obtain ⟨h, _⟩ := List.getElem?_eq_some_iff.1 hu
    rwa [flatV_len] at h
  have hq : j / 2 < d.length := by omega
  have hx : d[j / 2]? = some (d[j / 2]'hq) := List.getElem?_eq_getElem hq
  obtain ⟨f1, f2⟩ := flatV_at d (j / 2) _ hx
  have hl : l[j / 2]? = some (d[j / 2]'hq) := by
    rw [← hx, ← hd, List.getElem?_take_of_lt hq]
  obtain ⟨⟨a, b⟩, _⟩ := h _ _ hl
  rw [Nat.zero_add]
  rcases Nat.mod_two_eq_zero_or_one j with e | e
  · rw [show j / 2 * 2 = j by omega] at f1 a
    rw [a, ← f1, hu]
  · rw [show j / 2 * 2 + 1 = j by omega] at f2 b
    rw [b, ← f2, hu]
theorem setCells_kp (b : Nat) : ∀ (vs : List Value) (o : Nat) (w : World), Kp (fun i => i = b) w (w.setCells b o vs)
  | [], _, w => Kp.refl _ w
  | v :: r, o, w => (kp_set w b o v).tr (setCells_kp b r (o + 1) (w.setCell ⟨b, o, none⟩ v))
theorem clear_vecs (ty : TypeId) (b o n c : Nat) (w : World) (hn : 0 < n) (hc : ∀ j, j < n * 2 → (w.cell? ⟨b, o + j, none⟩).isSome = true) (hf : ∀ j, j < n * 2 → w.frozen? ⟨b, o + j, none⟩ = false) :
    (Builtin.clear_ #[36] ty #[.slice (some ⟨b, o, none⟩) n c]).run Try.prog w = .ok (.tuple #[]) (w.setCells b o (List.replicate (n * 2) (.int .i64 0))) := by
  have hv : ∀ w, (zeroValue 23).run Try.prog w = .ok (vV 0 0) w := fun w => by
    obtain ⟨i0, hi, hz, _⟩ := vec_info
    simp [zeroValue, typeInfo, hi, hz]
  have hzc : (Builtin.zeroCells (vV 0 0).cells n).toList = List.replicate (n * 2) (.int .i64 0) := by
    simp [Builtin.zeroCells, Value.cells]
    apply List.ext_getElem
    · simp
    · intro i h1 h2
      rcases Nat.mod_two_eq_zero_or_one i with e | e <;> simp [e]
  have hst := run_storeCells_cells (P := Try.prog) b o (List.replicate (n * 2) (.int .i64 0)) 0 w (by simpa using hc) (by simpa using hf) (by intro v hv'; rw [List.eq_of_mem_replicate hv']; rfl)
  simp only [Nat.add_zero] at hst
  obtain ⟨m, rfl⟩ : ∃ m, n = m + 1 := ⟨n - 1, by omega⟩
  simp [Builtin.clear_, run_underlying Try.underlying36, hv, hzc, hst]
end Go.Proofs.Ytahamffngmdjfaa.W

namespace Go.Proofs.Ytahamffngmdjfaa.W
open Go.RowKit Go.Proofs.Ytahamffngmdjfaa.V

theorem aw_sort : sortV [(3, 0), (0, 1), (2, 0)] = [(2, 0), (3, 0), (0, 1)] := by
  simp [sortV, List.mergeSort, List.MergeSort.Internal.splitInTwo, lt_cf, lessV]
theorem aw_apart : Apart [(2, 0), (3, 0), (0, 1)] := by
  intro i p q hp hq
  match i with
  | 0 => simp at hp hq; subst hp hq; simp
  | 1 => simp at hp hq; subst hp hq; simp
  | i + 2 => simp at hq
theorem aw_turn : turnV 0 0 4 0 1 2 = 1 := by decide +kernel
theorem aw_within : withinV 2 0 2 = true := by decide +kernel
theorem aw_norm : normV 3 0 = 3 := by decide +kernel
theorem src_blk {w : World} {g : Nat} {l : List (Int × Int)} (h : Blk w g 23 (l.flatMap vC).toArray) (hl : l.length ≤ 1099511627776) : SrcV w (.slice (some ⟨g, 0, none⟩) l.length l.length) l := by
  refine ⟨flatV_len l, _, _, rfl, Nat.le_refl _, by unfold maxLen; omega, fun _ => ⟨g, 0, rfl, h.lt, fun j u hu => ?_⟩⟩
  rw [Nat.zero_add, h.cell j, List.getElem?_toArray]
  exact hu

set_option maxRecDepth 100000 in
set_option maxHeartbeats 3200000 in
theorem awake_any (w : World) : Calls Try.prog 21 #[] w fun e w' => e = .returned (.bool true) ∧ Nw w w' := by
  have c0 : ∀ w1, SrcV w1 (.slice (some ⟨w.heap.size, 0, none⟩) 3 3) [(3, 0), (0, 1), (2, 0)] → Calls Try.prog 47 #[.slice (some ⟨w.heap.size, 0, none⟩) 3 3] w1 fun e w' => ∃ k cap, w1.heap.size ≤ k ∧ k < w'.heap.size ∧ e = .returned (.slice (some ⟨k, 0, none⟩) 3 cap) ∧ SrcV w' (.slice (some ⟨k, 0, none⟩) 3 cap) [(2, 0), (3, 0), (0, 1)] ∧ Nw w1 w' := fun w1 h => by
    have h := sorted_apart [(3, 0), (0, 1), (2, 0)] (.slice (some ⟨w.heap.size, 0, none⟩) 3 3) w1 h (by simp) (by rw [aw_sort]; exact aw_apart) (by simp)
    rw [aw_sort] at h
    exact h
  have c1 := fun w1 => turn_any 0 0 4 0 1 2 w1
  rw [aw_turn] at c1
  have c2 := fun w1 => within_any 2 0 2 w1
  rw [aw_within] at c2
  have c3 := fun w1 => norm_any 3 0 w1
  rw [aw_norm] at c3
  go_enter Try.func21, Try.ntmps21
  go_wp2_with fail
  refine (c0 _ (src_blk (l := [(3, 0), (0, 1), (2, 0)]) (Blk.new w _ _) (by simp))).mono ?_
  rintro e w1 ⟨k, cap, hk, hkw, rfl, hs, hk1⟩
  have hK := (nw_alloc w (.cells #[.int .i64 3, .int .i64 0, .int .i64 0, .int .i64 1, .int .i64 2, .int .i64 0] 23)).tr hk1
  obtain ⟨_, A, c, hA, _, _, hc⟩ := hs
  injection hA with h1 h2 h3
  subst h1
  obtain ⟨g', o', he, _, hc⟩ := hc (by simp)
  injection he with he
  injection he with h4 h5
  subst h4 h5
  have HK := Lib.hid hK
  have hP : ∀ w' : World, Nw w1 w' → w'.cell? (⟨k, 0, none⟩ : Addr) = some (.int .i64 2) ∧ w'.cell? (⟨k, 1, none⟩ : Addr) = some (.int .i64 0) ∧ w'.cell? (⟨k, 2, none⟩ : Addr) = some (.int .i64 3) ∧ w'.cell? (⟨k, 3, none⟩ : Addr) = some (.int .i64 0) ∧ w'.cell? (⟨k, 4, none⟩ : Addr) = some (.int .i64 0) ∧ w'.cell? (⟨k, 5, none⟩ : Addr) = some (.int .i64 1) := fun w' h => by
    have hx := fun j u hu => (h.cell (p := ⟨k, 0 + j, none⟩) hkw id).trans (hc j u hu)
    exact ⟨hx 0 _ rfl, hx 1 _ rfl, hx 2 _ rfl, hx 3 _ rfl, hx 4 _ rfl, hx 5 _ rfl⟩
  have HP := Lib.hid hP
  clear hP hc hK hk hk1 hkw
  go_wp2_with fail
  with_reducible refine (c1 _).mono ?_
  rintro e w2 ⟨rfl, hk2⟩
  obtain ⟨q0, q1, q2, q3, q4, q5⟩ := HP.out _ hk2
  have HB := Lib.hid hk2
  clear hk2
  go_wp2_with fail
  with_reducible refine (c2 _).mono ?_
  rintro e w3 ⟨rfl, hk3⟩
  have HB := Lib.hid (HB.out.tr hk3)
  clear hk3 q0 q1 q2 q3 q4 q5
  obtain ⟨q0, q1, q2, q3, q4, q5⟩ := HP.out _ HB.out
  go_wp2_with fail
  with_reducible refine (c3 _).mono ?_
  rintro e w4 ⟨rfl, hk4⟩
  have HB := Lib.hid (HB.out.tr hk4)
  clear hk4
  go_wp2
  go_ret
  exact ⟨rfl, HK.out.tr HB.out⟩
end Go.Proofs.Ytahamffngmdjfaa.W

namespace Go.Proofs.Ytahamffngmdjfaa.W
open Go.RowKit Go.Proofs.Ytahamffngmdjfaa.V

theorem eql_vec (x1 x2 y1 y2 : Int) (w : World) : (binOp .eql 23 (.agg #[.int .i64 x1, .int .i64 x2]) (.agg #[.int .i64 y1, .int .i64 y2])).run Try.prog w = .ok (.bool (x1 == y1 && x2 == y2)) w := by
  have u3 := Try.underlying3
  have a3 := Try.isAgg3
  have z3 := Try.sizeOf3
  have hS : Try.prog.underlying 23 = some (.struct (Try.prog.fieldsOf 23)) := by kernel_rfl
  have hp : Try.prog.stoodInHeld 23 = false := by kernel_rfl
  rw [run_eql_struct, show (10000 : Nat) = 9999 + 1 from rfl, run_equalIn_agg w 9999 23 _ _ hS hp]
  simp only [Program.fieldsOf, Try.underlying23]
  go_simp
  by_cases h1 : x1 = y1 <;> by_cases h2 : x2 = y2 <;> simp [h1, h2]
theorem four_new (w : World) (t : TypeId) (a b c d : Array Value) : Blk ((((w.alloc (.cells a t)).alloc (.cells b t)).alloc (.cells c t)).alloc (.cells d t)).drew w.heap.size t a ∧ Blk ((((w.alloc (.cells a t)).alloc (.cells b t)).alloc (.cells c t)).alloc (.cells d t)).drew (w.heap.size + 1) t b ∧ Blk ((((w.alloc (.cells a t)).alloc (.cells b t)).alloc (.cells c t)).alloc (.cells d t)).drew (w.heap.size + 1 + 1) t c ∧ Blk ((((w.alloc (.cells a t)).alloc (.cells b t)).alloc (.cells c t)).alloc (.cells d t)).drew (w.heap.size + 1 + 1 + 1) t d ∧ Nw w ((((w.alloc (.cells a t)).alloc (.cells b t)).alloc (.cells c t)).alloc (.cells d t)).drew :=
  ⟨((((Blk.new w t a).alloc _).alloc _).alloc _).drew, (((Blk.new_at _ t b (by simp)).alloc _).alloc _).drew, ((Blk.new_at _ t c (by simp)).alloc _).drew, (Blk.new_at _ t d (by simp)).drew, ((((nw_alloc w _).alloc _).alloc _).alloc _).drew⟩

end Go.Proofs.Ytahamffngmdjfaa.W

namespace Go.Proofs.Ytahamffngmdjfaa.W
open Go.RowKit Go.Proofs.Ytahamffngmdjfaa.V

theorem neq_vec (x1 x2 y1 y2 : Int) (w : World) : (binOp .neq 23 (.agg #[.int .i64 x1, .int .i64 x2]) (.agg #[.int .i64 y1, .int .i64 y2])).run Try.prog w = .ok (.bool (!(x1 == y1 && x2 == y2))) w := by
  have u3 := Try.underlying3
  have a3 := Try.isAgg3
  have z3 := Try.sizeOf3
  have hS : Try.prog.underlying 23 = some (.struct (Try.prog.fieldsOf 23)) := by kernel_rfl
  have hp : Try.prog.stoodInHeld 23 = false := by kernel_rfl
  rw [run_neq_struct, show (10000 : Nat) = 9999 + 1 from rfl, run_equalIn_agg w 9999 23 _ _ hS hp]
  simp only [Program.fieldsOf, Try.underlying23]
  go_simp
  by_cases h1 : x1 = y1 <;> by_cases h2 : x2 = y2 <;> simp [h1, h2]
theorem RowV.some_ {w : World} {g : Nat} {l : List (Int × Int)} (h : RowV w g l) {i : Nat} (hi : i < l.length * 2) : (w.cell? ⟨g, i, none⟩).isSome = true ∧ w.frozen? ⟨g, i, none⟩ = false := by
  have hq : i / 2 < l.length := by omega
  obtain ⟨⟨a, b⟩, c, d⟩ := h (i / 2) _ (List.getElem?_eq_getElem hq)
  rcases Nat.mod_two_eq_zero_or_one i with e | e
  · rw [show i / 2 * 2 = i by omega] at a c
    exact ⟨by rw [a]; rfl, c⟩
  · rw [show i / 2 * 2 + 1 = i by omega] at b d
    exact ⟨by rw [b]; rfl, d⟩
/-- what lies ahead of the cells that are laid reads as it did -/
theorem src_ahead {w : World} {g m cap f : Nat} {l : List (Int × Int)} {vs : List Value} (h : SrcV w (.slice (some ⟨g, 0, none⟩) m cap) l) (hm : l.length = m) (hf : m * 2 ≤ f) : SrcV (w.setCells g f vs) (.slice (some ⟨g, 0, none⟩) m cap) l := by
  obtain ⟨hl, A, c, e, h1, h2, hc⟩ := h
  refine ⟨hl, A, c, e, h1, h2, fun hn => ?_⟩
  obtain ⟨g', o', rfl, hb, hcell⟩ := hc hn
  injection e with e1 e2 e3
  injection e1 with e1
  injection e1 with e4 e5
  subst e4 e5
  refine ⟨_, _, rfl, Nat.lt_of_lt_of_le hb (setCells_kp g vs f w).size, fun j u hu => ?_⟩
  have hj : j < l.length * 2 := by
    have := (List.getElem?_eq_some_iff.1 hu).1
    rw [flatV_len] at this
    exact this
  rw [World.cell?_setCells_out g vs f w _ (fun _ _ => .inl (by simp; omega))]
  exact hcell j u hu
section
variable {w : World} {ops : Array Oper} {rest : List Oper} {o : Oper} {a : Act} {Q : Exit → Act → World → Prop}
theorem wp_clear (hgd : o.guard = none) (s : Operand) (ho : o.op = .call { callee := .builtin .clear, args := #[s], argTypes := #[36] })
    (b f n c : Nat) (hs : a.eval s = .slice (some ⟨b, f, none⟩) n c) (hn : 0 < n) (hc : ∀ j, j < n * 2 → (w.cell? ⟨b, f + j, none⟩).isSome = true) (hf : ∀ j, j < n * 2 → w.frozen? ⟨b, f + j, none⟩ = false)
    (h : wpList Try.prog ops Q rest (a.put o.dst (.tuple #[])) (w.setCells b f (List.replicate (n * 2) (.int .i64 0)))) :
    wpList Try.prog ops Q (o :: rest) a w := by
  have hr := clear_vecs o.type b f n c w hn hc hf
  refine wpList_plain hgd fun K hK => ?_
  unfold Oper.wp execOp
  simp only [ho, resolve, invoke, builtin, Sem.run_bind, Sem.run_pure, Result.andThen_ok, List.map_toArray, List.map_cons, List.map_nil, hs, hr]
  exact hK _ _ h
end
end Go.Proofs.Ytahamffngmdjfaa.W

namespace Go.Proofs.Ytahamffngmdjfaa.W
open Go.RowKit Go.Proofs.Ytahamffngmdjfaa.V

set_option maxRecDepth 100000 in
set_option maxHeartbeats 6400000 in
theorem compact_any (l : List (Int × Int)) (g cap : Nat) (w : World) (hrow : RowV w g l) (hg : g < w.heap.size) (hcap : l.length ≤ cap) (hmx : cap ≤ maxLen) (hl : l.length ≤ 1099511627776) : Calls Try.prog 100 #[.slice (some ⟨g, 0, none⟩) l.length cap] w fun e w' => ∃ m, e = .returned (.slice (some ⟨g, 0, none⟩) m cap) ∧ m = (dd l).length ∧ SrcV w' (.slice (some ⟨g, 0, none⟩) m cap) (dd l) ∧ Kp (fun i => i = g) w w' := by
  obtain ⟨n, hn⟩ : ∃ n, l.length = n := ⟨_, rfl⟩
  have hall : (∀ i p q, i + 1 < l.length → l[i]? = some p → l[i + 1]? = some q → p ≠ q) → dd l = l := fun h => by
    have := dd_apart l l.length (Nat.le_refl _) h
    rwa [List.take_length] at this
  have HD := Lib.hid hall
  have HN := Lib.hid hn
  have HR := Lib.hid hrow
  have HG := Lib.hid hg
  have HM := Lib.hid hmx
  have HL := Lib.hid hl
  have HC := Lib.hid hcap
  rw [hn] at hcap hl ⊢
  clear hall hn hrow hg hmx
  by_cases h2 : n < 2
  · have e1 : decide ((n : Int) < 2) = true := decide_eq_true (by omega)
    go_enter Try.func100, Try.ntmps100
    go_wp2
    go_ret
    have hd : dd l = l := HD.out fun i p q hi => absurd hi (by rw [HN.out]; omega)
    refine ⟨n, rfl, by rw [hd, HN.out], ?_, Kp.refl _ _⟩
    rw [hd]
    exact HR.out.src HG.out (List.take_of_length_le (by rw [HN.out]; exact Nat.le_refl _)) HN.out hcap HM.out
  · have e1 : decide ((n : Int) < 2) = false := decide_eq_false (by omega)
    go_enter Try.func100, Try.ntmps100
    go_wp2
    go_loopw [3] (fun i wr => ∃ j : Nat, i = .int .i64 ((j + 1 : Nat) : Int) ∧ j + 1 ≤ n ∧ (∀ i p q, i + 1 < j + 1 → l[i]? = some p → l[i + 1]? = some q → p ≠ q) ∧ Kp (fun i => i = g) w wr ∧ RowV wr g l) (fun i _ => n - (intOf i).toNat)
    case atStart => exact ⟨0, rfl, by omega, fun i _ _ hi => absurd hi (by omega), Kp.refl _ _, HR.out⟩
    case round =>
      obtain ⟨j, rfl, hj, hap, hkp, hrw⟩ := hrel
      have HA := Lib.hid hap
      have HK := Lib.hid hkp
      have HW := Lib.hid hrw
      clear hap hkp hrw
      by_cases hkn : j + 1 < n
      · have i0 : (0 : Int) ≤ (j : Int) := by omega
        have i1 : (j : Int) < (n : Int) := by omega
        have i3 : (0 : Int) ≤ ((j + 1 : Nat) : Int) := by omega
        have i4 : ((j + 1 : Nat) : Int) < (n : Int) := by omega
        have e2 : IntKind.i64.wrap (((j + 1 : Nat) : Int) - 1) = (j : Int) := by rw [IntKind.wrap_i64]; omega
        have e3 : IntKind.i64.wrap (((j + 1 : Nat) : Int) + 1) = ((j + 1 + 1 : Nat) : Int) := by rw [IntKind.wrap_i64]; omega
        obtain ⟨⟨px, py⟩, hp⟩ : ∃ x, l[j]? = some x := ⟨l[j]'(by rw [HN.out]; omega), List.getElem?_eq_getElem _⟩
        obtain ⟨⟨sx, sy⟩, hs⟩ : ∃ x, l[j + 1]? = some x := ⟨l[j + 1]'(by rw [HN.out]; omega), List.getElem?_eq_getElem _⟩
        obtain ⟨⟨q0, q1⟩, _⟩ := HW.out j _ hp
        obtain ⟨⟨q2, q3⟩, _⟩ := HW.out (j + 1) _ hs
        have hq := fun w1 => eql_vec sx sy px py w1
        have HP := Lib.hid (And.intro hp hs)
        clear hp hs
        by_cases h1 : (sx, sy) = (px, py)
        · rw [show (sx == px && sy == py) = true by injection h1 with h1 h2; simp [h1, h2]] at hq
          have HE := Lib.hid h1
          clear h1
          go_wp2_with fail
          go_region
          clear hq q0 q1 q2 q3
          go_wp2_with fail
          obtain ⟨N2, hN2⟩ : ∃ x, n - (j + 1) = x := ⟨_, rfl⟩
          obtain ⟨C2, hC2⟩ : ∃ x, cap - (j + 1) = x := ⟨_, rfl⟩
          rw [hN2, hC2]
          have hdd : dd (l.take (j + 1 + (0 + 1))) = l.take (j + 1) := by
            rw [dd_step HP.out.1 HP.out.2, if_pos HE.out.symm]
            exact dd_apart l (j + 1) (by rw [HN.out]; omega) HA.out
          have HD2 := Lib.hid hdd
          clear hdd
          go_loopw [3, 5] (fun kv qv wx => ∃ (K q : Nat) (L : List (Int × Int)), kv = .int .i64 K ∧ qv = .int .i64 ((q + 1 : Nat) : Int) ∧ q + 1 ≤ N2 ∧ K ≤ j + 1 + q ∧ (L.length = n ∧ L.take K = dd (l.take (j + 1 + (q + 1))) ∧ K = (dd (l.take (j + 1 + (q + 1)))).length ∧ ∀ i, j + 1 + q ≤ i → L[i]? = l[i]?) ∧ RowV wx g L ∧ Kp (fun i => i = g) w wx) (fun _ qv _ => N2 - (intOf qv).toNat)
          case atStart =>
            exact ⟨j + 1, 0, l, by go_num, by go_num, by omega, by omega, ⟨HN.out, HD2.out.symm, by rw [HD2.out, List.length_take, HN.out]; omega, fun _ _ => rfl⟩, HW.out, HK.out.drew⟩
          case round =>
            obtain ⟨K, q, L, rfl, rfl, hq1, hK, hLL, hrL, hkx⟩ := hrel
            have HLL := Lib.hid hLL
            have HRL := Lib.hid hrL
            have HKX := Lib.hid hkx
            clear hLL hrL hkx
            by_cases hqn : q + 1 < N2
            · have j0 : (0 : Int) ≤ (q : Int) := by omega
              have j1 : (q : Int) < (N2 : Int) := by omega
              have j3 : (0 : Int) ≤ ((q + 1 : Nat) : Int) := by omega
              have j4 : ((q + 1 : Nat) : Int) < (N2 : Int) := by omega
              have j5 : (0 : Int) ≤ (K : Int) := by omega
              have j6 : (K : Int) < (n : Int) := by omega
              have f2 : IntKind.i64.wrap (((q + 1 : Nat) : Int) - 1) = (q : Int) := by rw [IntKind.wrap_i64]; omega
              have f3 : IntKind.i64.wrap (((q + 1 : Nat) : Int) + 1) = ((q + 1 + 1 : Nat) : Int) := by rw [IntKind.wrap_i64]; omega
              have f4 : IntKind.i64.wrap ((K : Int) + 1) = ((K + 1 : Nat) : Int) := by rw [IntKind.wrap_i64]; omega
              obtain ⟨⟨ax, ay⟩, ha⟩ : ∃ x, l[j + 1 + q]? = some x := ⟨l[j + 1 + q]'(by rw [HN.out]; omega), List.getElem?_eq_getElem _⟩
              obtain ⟨⟨bx, bz⟩, hb⟩ : ∃ x, l[j + 1 + q + 1]? = some x := ⟨l[j + 1 + q + 1]'(by rw [HN.out]; omega), List.getElem?_eq_getElem _⟩
              obtain ⟨⟨q0, q1⟩, _⟩ := HRL.out (j + 1 + q) _ ((HLL.out.2.2.2 _ (by omega)).trans ha)
              obtain ⟨⟨q2, q3⟩, _⟩ := HRL.out (j + 1 + q + 1) _ ((HLL.out.2.2.2 _ (by omega)).trans hb)
              rw [show (j + 1 + q) * 2 = (j + 1) * 2 + q * 2 by omega] at q0 q1
              rw [show (j + 1 + q + 1) * 2 = (j + 1) * 2 + (q + 1) * 2 by omega] at q2 q3
              have hne := fun w1 => neq_vec bx bz ax ay w1
              have HAB := Lib.hid (And.intro ha hb)
              have hst := dd_step ha hb
              have HST := Lib.hid hst
              clear ha hb hst
              by_cases h1 : (bx, bz) = (ax, ay)
              · rw [show (!(bx == ax && bz == ay)) = false by injection h1 with h1 h2; simp [h1, h2]] at hne
                have HE2 := Lib.hid h1
                clear h1
                go_wp2_with fail
                go_region
                go_wp2_with fail
                go_roundw
                case rel =>
                  have hs := HST.out
                  rw [if_pos HE2.out.symm] at hs
                  refine ⟨K, q + 1, L, rfl, rfl, by omega, by omega, ⟨HLL.out.1, ?_, ?_, fun i hi => HLL.out.2.2.2 i (by omega)⟩, HRL.out, by repeat (first | exact HKX.out | refine Kp.drew ?_)⟩
                  · rw [show j + 1 + (q + 1 + 1) = j + 1 + q + 1 + 1 by omega, hs]; exact HLL.out.2.1
                  · rw [show j + 1 + (q + 1 + 1) = j + 1 + q + 1 + 1 by omega, hs]; exact HLL.out.2.2.1
                case measure => simp [intOf]; omega
              · rw [show (!(bx == ax && bz == ay)) = true by
                  have h : (bx == ax && bz == ay) = false := by
                    apply Bool.eq_false_iff.2
                    intro h
                    simp at h
                    exact h1 (by rw [h.1, h.2])
                  rw [h]
                  rfl] at hne
                have HE2 := Lib.hid h1
                have hkl : K < L.length := by rw [HLL.out.1]; omega
                obtain ⟨⟨kx, ky⟩, hk0⟩ : ∃ x, L[K]? = some x := ⟨L[K], List.getElem?_eq_getElem hkl⟩
                obtain ⟨⟨r0, r1⟩, r2, r3⟩ := HRL.out K _ hk0
                have HKL := Lib.hid hkl
                clear h1 hkl hk0
                go_wp2_with fail
                go_region
                go_wp2_with fail
                go_roundw
                case rel =>
                  have hs := HST.out
                  rw [if_neg (fun e => HE2.out e.symm)] at hs
                  refine ⟨K + 1, q + 1, L.set K (bx, bz), rfl, rfl, by omega, by omega, ⟨by rw [List.length_set]; exact HLL.out.1, ?_, ?_, fun i hi => ?_⟩, HRL.out.drew.set_ HKL.out bx bz, ?_⟩
                  · rw [show j + 1 + (q + 1 + 1) = j + 1 + q + 1 + 1 by omega, hs, List.take_add_one, List.getElem?_set_self HKL.out, List.take_set_of_le (Nat.le_refl _), HLL.out.2.1]
                    rfl
                  · rw [show j + 1 + (q + 1 + 1) = j + 1 + q + 1 + 1 by omega, hs, List.length_append, HLL.out.2.2.1]
                    rfl
                  · rw [List.getElem?_set_ne (by omega)]
                    exact HLL.out.2.2.2 i (by omega)
                  · exact (HKX.out.drew.setCell (p := ⟨g, K * 2, none⟩) (fun _ => rfl) _).setCell (p := ⟨g, K * 2 + 1, none⟩) (fun _ => rfl) _
                case measure => simp [intOf]; omega
            · obtain rfl : q + 1 = N2 := by omega
              have j4 : ¬ (((q + 1 : Nat) : Int) < ((q + 1 : Nat) : Int)) := by omega
              have j5 : (0 : Int) ≤ (K : Int) := by omega
              have j6 : (K : Int) ≤ (n : Int) := by omega
              have j7 : (K : Int) ≤ (cap : Int) := by omega
              have hfull : l.take (j + 1 + (q + 1)) = l := List.take_of_length_le (by rw [HN.out]; omega)
              have hL := HLL.out
              rw [hfull] at hL
              have hsrc := HRL.out.src (m := K) (d := dd l) (cap := cap) (Nat.lt_of_lt_of_le HG.out HKX.out.size) hL.2.1 hL.2.2.1.symm (by omega) HM.out
              have hsm := fun (i : Nat) (hi : i < (n - K) * 2) => HRL.out.some_ (i := K * 2 + i) (by rw [hL.1]; omega)
              have HS1 := Lib.hid hsrc
              have HS2 := Lib.hid hsm
              have HL2 := Lib.hid hL
              clear hfull hL hsrc hsm
              go_wp2_with (refine wp_clear rfl (.tmp 56) (by rfl) g (K * 2) (n - K) (cap - K) (by rfl) (by omega) (fun i hi => (HS2.out i hi).1) (fun i hi => (HS2.out i hi).2) ?_)
              go_ret
              exact ⟨K, rfl, HL2.out.2.2.1, src_ahead HS1.out HL2.out.2.2.1.symm (Nat.le_refl _), HKX.out.tr (setCells_kp _ _ _ _)⟩
        · rw [show (sx == px && sy == py) = false by
            apply Bool.eq_false_iff.2
            intro h
            simp at h
            exact h1 (by rw [h.1, h.2])] at hq
          have HE := Lib.hid h1
          clear h1
          go_wp2_with fail
          go_region
          go_wp2_with fail
          go_roundw
          case rel =>
            refine ⟨j + 1, rfl, by omega, fun i p q hi h1 h2 => ?_, by repeat (first | exact HK.out | refine Kp.drew ?_), HW.out⟩
            by_cases hij : i = j
            · subst hij
              rw [HP.out.1] at h1
              rw [HP.out.2] at h2
              injection h1 with h1
              injection h2 with h2
              subst h1 h2
              exact fun e => HE.out e.symm
            · exact HA.out i p q (by omega) h1 h2
          case measure => simp [intOf]; omega
      · obtain rfl : j + 1 = n := by omega
        have i5 : decide (((j + 1 : Nat) : Int) < ((j + 1 : Nat) : Int)) = false := by simp
        go_wp2_with fail
        go_ret
        have hd : dd l = l := HD.out fun i p q hi => HA.out i p q (by rw [HN.out] at hi; exact hi)
        refine ⟨j + 1, rfl, by rw [hd, HN.out], ?_, HK.out⟩
        rw [hd]
        exact HW.out.src (Nat.lt_of_lt_of_le HG.out HK.out.size) (List.take_of_length_le (by rw [HN.out]; exact Nat.le_refl _)) HN.out hcap HM.out
end Go.Proofs.Ytahamffngmdjfaa.W

namespace Go.Proofs.Ytahamffngmdjfaa.W
open Go.RowKit Go.Proofs.Ytahamffngmdjfaa.V

theorem src_none (w : World) (A : Option Addr) (c : Nat) (hc : c ≤ maxLen) : SrcV w (.slice A 0 c) [] := ⟨rfl, A, c, rfl, Nat.zero_le _, hc, fun h => absurd h (Nat.lt_irrefl 0)⟩
theorem clone_none (A : Option Addr) (c : Nat) (w : World) : Calls Try.prog 98 #[.slice A 0 c] w fun e w' => ∃ A' c', e = .returned (.slice A' 0 c') ∧ c' ≤ maxLen ∧ Nw w w' := by
  cases A with
  | none =>
    refine Calls.mono (AnyE.slices_Clone_nil Try.cloneVec 0 c w) ?_
    rintro e w' ⟨rfl, rfl⟩
    exact ⟨none, 0, rfl, Nat.zero_le _, Kp.refl _ _⟩
  | some ad =>
    obtain ⟨i0, hi, hz, hs, hb⟩ := vec_info
    have hq : ∀ w : World, (binOp .eql 36 (.slice (some ad) 0 c) (.slice none 0 0)).run Try.prog w = .ok (.bool false) w := fun w => Lib.run_eql_slice_nil w _ _ (some ad) 0 c 0 0 Try.underlying36
    go_enter Try.func98, Try.ntmps98
    go_wp2
    go_ret
    exact ⟨_, _, rfl, Nat.zero_le _, nw_alloc _ _⟩

set_option maxHeartbeats 800000 in
theorem sorted_any (l : List (Int × Int)) (v : Value) (w : World) (hv : SrcV w v l) (hl : l.length ≤ 1099511627776) :
    Calls Try.prog 47 #[v] w fun e w' => ∃ v', e = .returned v' ∧ SrcV w' v' (dd (sortV l)) ∧ Nw w w' := by
  obtain ⟨A, c, rfl⟩ := hv.shape
  by_cases hne : l = []
  · subst hne
    have h1 := clone_none A c w
    have hds : dd (sortV []) = [] := by simp [sortV, dd]
    rw [hds]
    go_enter Try.func47, Try.ntmps47
    go_wp2_with fail
    refine h1.mono ?_
    rintro e w1 ⟨A', c', rfl, hc', hk1⟩
    have h2 := AnyF.slices_SortFunc_none Try.sortVec A' c' (.func (.func 38) #[] #[]) w1
    go_wp2_with fail
    refine Calls.mono h2 ?_
    rintro e w2 ⟨rfl, rfl⟩
    have h3 := compact_same [] (.slice A' 0 c') w2 (src_none w2 A' c' hc') (by intro i p q hp; simp at hp)
    go_wp2_with fail
    refine h3.mono ?_
    rintro e w3 ⟨rfl, hk3⟩
    go_wp2_with fail
    go_ret
    exact ⟨_, rfl, src_none w3 A' c' hc', hk1.tr hk3⟩
  · obtain ⟨g, o, rfl⟩ : ∃ g o, A = some ⟨g, o, none⟩ := by
      rcases SrcV.flat hv hne with h | ⟨g, o, n, c', h⟩
      · injection h with h1 h2
        exact absurd (List.length_eq_zero_iff.1 h2) hne
      · injection h with h1
        exact ⟨g, o, h1⟩
    have h1 := clone_any l g o c w hv hl
    go_enter Try.func47, Try.ntmps47
    go_wp2_with fail
    refine h1.mono ?_
    rintro e w1 ⟨k, cap, hk, hcap, hmx, hkw, rfl, hH, hk1⟩
    have h2 := sort_any k cap l w1 hH hkw hl
    go_wp2_with fail
    refine h2.mono ?_
    rintro e w2 ⟨rfl, hk2, hH2⟩
    have hkw2 := Nat.lt_of_lt_of_le hkw hk2.size
    have h3 := compact_any (sortV l) k cap w2 (RowV.of_holds hH2) hkw2 (by rw [sortV_len]; exact hcap) hmx (by rw [sortV_len]; exact hl)
    rw [sortV_len] at h3
    go_wp2_with fail
    refine h3.mono ?_
    rintro e w3 ⟨m, rfl, hm, hs3, hk3⟩
    go_wp2_with fail
    go_ret
    exact ⟨_, rfl, by rw [← hm]; exact hs3, (hk1.own hk2 (fun i hi => by rw [hi]; exact hk)).own hk3 (fun i hi => by rw [hi]; exact hk)⟩
end Go.Proofs.Ytahamffngmdjfaa.W

namespace Go.Proofs.Ytahamffngmdjfaa.W
open Go.RowKit Go.Proofs.Ytahamffngmdjfaa.V Go.Proofs.Ytahamffngmdjfaa.G

/-- a slice of a list in a row that has been made since w0, whose cells may be stored into; or one that is empty -/
def OwnL (w0 w : World) (v : Value) (l : List (Int × Int)) : Prop :=
  (∃ k cap, v = .slice (some ⟨k, 0, none⟩) l.length cap ∧ w0.heap.size ≤ k ∧ k < w.heap.size ∧ l.length ≤ cap ∧ cap ≤ maxLen ∧ RowV w k l) ∨ (l = [] ∧ ∃ A c, v = .slice A 0 c ∧ c ≤ maxLen)
theorem OwnL.src {w0 w : World} {v : Value} {l : List (Int × Int)} (h : OwnL w0 w v l) : SrcV w v l := by
  rcases h with ⟨k, cap, rfl, h1, h2, h3, h4, h5⟩ | ⟨rfl, A, c, rfl, h⟩
  · exact RowV.src h5 h2 (List.take_length ..) rfl h3 h4
  · exact src_none _ _ _ h
theorem RowV.nw {w w' : World} {g : Nat} {l : List (Int × Int)} (h : RowV w g l) (hg : g < w.heap.size) (hk : Nw w w') : RowV w' g l := by
  intro i p hp
  obtain ⟨⟨a, b⟩, c, d⟩ := h i p hp
  exact ⟨⟨(hk.cell (p := ⟨g, i * 2, none⟩) hg id).trans a, (hk.cell (p := ⟨g, i * 2 + 1, none⟩) hg id).trans b⟩, (hk.frozen (p := ⟨g, i * 2, none⟩) hg id).trans c, (hk.frozen (p := ⟨g, i * 2 + 1, none⟩) hg id).trans d⟩
theorem OwnL.nw {w0 w w' : World} {v : Value} {l : List (Int × Int)} (h : OwnL w0 w v l) (hk : Nw w w') : OwnL w0 w' v l := by
  rcases h with ⟨k, cap, rfl, h1, h2, h3, h4, h5⟩ | h
  · exact .inl ⟨k, cap, rfl, h1, Nat.lt_of_lt_of_le h2 hk.size, h3, h4, h5.nw h2 hk⟩
  · exact .inr h
theorem RowV.pre {w : World} {g : Nat} {l r : List (Int × Int)} (h : RowV w g (l ++ r)) : RowV w g l := by
  intro i p hp
  have hi := (List.getElem?_eq_some_iff.1 hp).1
  exact h i p (by rw [List.getElem?_append_left hi]; exact hp)
theorem RowV.sets {g : Nat} : ∀ (m : List (Int × Int)) (w : World) (l : List (Int × Int)) (i : Nat), RowV w g l → i + m.length ≤ l.length → RowV (w.setCells g (i * 2) (m.flatMap vC)) g (l.take i ++ m ++ l.drop (i + m.length))
  | [], w, l, i, h, _ => by
    simp only [List.append_nil, List.length_nil, Nat.add_zero, List.take_append_drop]
    exact h
  | x :: m, w, l, i, h, hm => by
    rw [List.length_cons] at hm
    have hi : i < l.length := by omega
    have h1 := h.set_ (k := i) hi x.1 x.2
    have h2 := RowV.sets m _ _ (i + 1) h1 (by rw [List.length_set]; omega)
    rw [List.flatMap_cons]
    show RowV (((w.setCell ⟨g, i * 2, none⟩ (.int .i64 x.1)).setCell ⟨g, i * 2 + 1, none⟩ (.int .i64 x.2)).setCells g (i * 2 + 1 + 1) (m.flatMap vC)) g _
    rw [show i * 2 + 1 + 1 = (i + 1) * 2 by omega]
    have e : (l.set i (x.1, x.2)).take (i + 1) ++ m ++ (l.set i (x.1, x.2)).drop (i + 1 + m.length) = l.take i ++ x :: m ++ l.drop (i + (x :: m).length) := by
      rw [List.take_add_one, List.getElem?_set_self hi, List.take_set_of_le (Nat.le_refl _), List.drop_set_of_lt (by omega), List.length_cons, show i + (m.length + 1) = i + 1 + m.length by omega]
      simp
    rw [← e]
    exact h2
theorem kp_sets (g f : Nat) (vs : List Value) (w : World) : Kp (fun i => i = g) w (w.setCells g f vs) := setCells_kp g vs f w
theorem RowV.holds {w : World} {g : Nat} {l : List (Int × Int)} (h : RowV w g l) : Sort.HoldsK vC 2 w g 0 l.toArray := by
  intro j hj
  rw [Sort.size_flatK] at hj
  have hj' : j < l.length * 2 := by simpa using hj
  rw [Sort.get_flatK _ _ _ _ hj]
  have hq : j / 2 < l.length := by omega
  obtain ⟨⟨a, b⟩, c, d⟩ := h (j / 2) _ (List.getElem?_eq_getElem hq)
  have hd : (l.toArray)[j / 2]! = l[j / 2]'hq := by simp [hq]
  rw [hd, Nat.zero_add]
  rcases Nat.mod_two_eq_zero_or_one j with e | e
  · rw [e]
    rw [show j / 2 * 2 = j by omega] at a c
    exact ⟨a, c⟩
  · rw [e]
    rw [show j / 2 * 2 + 1 = j by omega] at b d
    exact ⟨b, d⟩
end Go.Proofs.Ytahamffngmdjfaa.W
