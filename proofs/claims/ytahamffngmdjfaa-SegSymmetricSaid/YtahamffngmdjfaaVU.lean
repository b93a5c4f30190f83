/-
  vec: Clone; Sorted of a list whose sorted form has no two equal neighbours: what they return. Condition: the list is not longer than a slice may be.
-/
import Derived.Test.YtahamffngmdjfaaVT
namespace Go.Proofs.Ytahamffngmdjfaa.W
open Go.RowKit Go.Proofs.Ytahamffngmdjfaa.V

theorem vec_info : ∃ i0, Try.prog.info? 23 = some i0 ∧ i0.zero = some (vV 0 0) ∧ i0.size = 2 ∧ i0.bytes = 16 :=
  ⟨(Try.prog.info? 23).get (by kernel_rfl), by kernel_rfl, by kernel_rfl, by kernel_rfl, by kernel_rfl⟩

/-- the value is nil, or it lies in a block's own cells -/
def Flat (v : Value) : Prop := v = .slice none 0 0 ∨ ∃ g o n c, v = .slice (some ⟨g, o, none⟩) n c
theorem SrcV.flat {w : World} {v : Value} {l : List (Int × Int)} (h : SrcV w v l) (hne : l ≠ []) : Flat v := by
  obtain ⟨_, A, c, rfl, _, _, hc⟩ := h
  obtain ⟨g, o, rfl, _⟩ := hc (List.length_pos_iff.2 hne)
  exact .inr ⟨g, o, _, _, rfl⟩
theorem flatV_one (l : List (Int × Int)) : ∀ u ∈ l.flatMap vC, u.oneCell' = true := by
  intro u hu
  obtain ⟨p, _, hp⟩ := List.mem_flatMap.1 hu
  simp [vC] at hp
  rcases hp with rfl | rfl <;> rfl

set_option maxRecDepth 100000 in
set_option maxHeartbeats 1600000 in
theorem clone_any (l : List (Int × Int)) (g o c : Nat) (w : World) (hv : SrcV w (.slice (some ⟨g, o, none⟩) l.length c) l) (hl : l.length ≤ 1099511627776) :
    Calls Try.prog 98 #[.slice (some ⟨g, o, none⟩) l.length c] w fun e w' => ∃ k cap, w.heap.size ≤ k ∧ l.length ≤ cap ∧ cap ≤ maxLen ∧ k < w'.heap.size ∧ e = .returned (.slice (some ⟨k, 0, none⟩) l.length cap) ∧ Sort.HoldsK vC 2 w' k 0 l.toArray ∧ Nw w w' := by
  obtain ⟨i0, hi, hz, hs, hb⟩ := vec_info
  obtain ⟨hlen, A, c', hAA, hnc, hcm, hcell⟩ := hv
  obtain ⟨rfl, rfl⟩ : A = some ⟨g, o, none⟩ ∧ c' = c := by
    injection hAA with h1 h2 h3
    exact ⟨h1.symm, h3.symm⟩
  have hcon := AnyE.slices_Clone Try.cloneVec i0 (vV 0 0) 2 16 hi hz hs hb rfl (by decide) Try.sizeOf23 g o l.length c' (l.flatMap vC) w hlen (by unfold maxLen at *; omega) (by omega)
    (fun j u hu => by
      have hp : 0 < l.length := by
        have := List.getElem?_eq_some_iff.1 hu
        obtain ⟨h, _⟩ := this
        rw [hlen] at h
        omega
      obtain ⟨g', o', he, _, hc⟩ := hcell hp
      injection he with he
      injection he with h1 h2
      subst h1 h2
      exact hc j u hu) (flatV_one l)
  refine Calls.mono hcon ?_
  rintro e w' ⟨v', rfl, ho, hne, hbel⟩
  rcases ho.2 with ⟨rfl, _⟩ | ⟨k, cap, cur, rfl, hk, hgk, hcap, hmx, hs', ht⟩
  · exact absurd rfl hne
  · refine ⟨k, cap, hk, hcap, hmx, (Array.getElem?_eq_some_iff.1 hgk).1, rfl, ?_, Kp.of_below hbel⟩
    intro j hj
    have hfz : w'.frozen? ⟨k, 0 + j, none⟩ = false := by simp [World.frozen?, hgk]
    refine ⟨?_, hfz⟩
    rw [Sort.size_flatK] at hj
    have hj' : j < l.length * 2 := by simpa using hj
    rw [Sort.get_flatK _ _ _ _ hj]
    have hq : j / 2 < l.length := by omega
    have hx : l[j / 2]? = some (l[j / 2]'hq) := List.getElem?_eq_getElem hq
    obtain ⟨f1, f2⟩ := flatV_at l (j / 2) _ hx
    have hcells : ∀ u, (l.flatMap vC)[j]? = some u → w'.cell? ⟨k, 0 + j, none⟩ = some u := fun u hu => by
      have h := World.ownsRow.cells ho (g := k) rfl j u hu
      have hadd : (⟨k, 0, none⟩ : Addr).add j = ⟨k, 0 + j, none⟩ := by
        unfold Addr.add
        split <;> simp_all
      rw [hadd] at h
      exact h
    have hd : (l.toArray)[j / 2]! = l[j / 2]'hq := by simp [hq]
    rw [hd]
    rcases Nat.mod_two_eq_zero_or_one j with h | h
    · rw [h]
      exact hcells _ (by rw [show j / 2 * 2 = j by omega] at f1; exact f1)
    · rw [h]
      exact hcells _ (by rw [show j / 2 * 2 + 1 = j by omega] at f2; exact f2)

theorem src_holds {w : World} {g cap : Nat} {l : List (Int × Int)} {n : Nat} (h : Sort.HoldsK vC 2 w g 0 l.toArray) (hg : g < w.heap.size) (hn : l.length = n) (hc : n ≤ cap) (hm : cap ≤ maxLen) : SrcV w (.slice (some ⟨g, 0, none⟩) n cap) l := by
  subst hn
  refine ⟨flatV_len l, _, _, rfl, hc, hm, fun _ => ⟨g, 0, rfl, hg, fun j u hu => ?_⟩⟩
  have hj : j < l.length * 2 := by
    obtain ⟨h, _⟩ := List.getElem?_eq_some_iff.1 hu
    rwa [flatV_len] at h
  have hq : j / 2 < l.length := by omega
  have hx : l[j / 2]? = some (l[j / 2]'hq) := List.getElem?_eq_getElem hq
  obtain ⟨f1, f2⟩ := flatV_at l (j / 2) _ hx
  have h1 := h j (by rw [Sort.size_flatK]; simpa using hj)
  rw [Sort.get_flatK _ _ _ _ (by simpa using hj), show (l.toArray)[j / 2]! = l[j / 2]'hq by simp [hq]] at h1
  refine h1.1.trans ?_
  rcases Nat.mod_two_eq_zero_or_one j with h | h
  · rw [h]
    rw [show j / 2 * 2 = j by omega, hu] at f1
    exact f1.symm
  · rw [h]
    rw [show j / 2 * 2 + 1 = j by omega, hu] at f2
    exact f2.symm

set_option maxHeartbeats 800000 in
theorem sorted_apart (l : List (Int × Int)) (v : Value) (w : World) (hv : SrcV w v l) (hne : l ≠ []) (ha : Apart (sortV l)) (hl : l.length ≤ 1099511627776) :
    Calls Try.prog 47 #[v] w fun e w' => ∃ k cap, w.heap.size ≤ k ∧ k < w'.heap.size ∧ e = .returned (.slice (some ⟨k, 0, none⟩) l.length cap) ∧ SrcV w' (.slice (some ⟨k, 0, none⟩) l.length cap) (sortV l) ∧ Nw w w' := by
  obtain ⟨A, c, rfl⟩ := hv.shape
  obtain ⟨g, o, rfl⟩ : ∃ g o, A = some ⟨g, o, none⟩ := by
    rcases SrcV.flat hv hne with h | ⟨g, o, n, c', h⟩
    · injection h with h1 h2
      exact absurd (List.length_eq_zero_iff.1 h2) hne
    · injection h with h1
      exact ⟨g, o, h1⟩
  have h1 := clone_any l g o c w hv hl
  go_enter Try.func47, Try.ntmps47
  go_wp2_with fail
  refine h1.mono ?_
  rintro e w1 ⟨k, cap, hk, hcap, hmx, hkw, rfl, hH, hk1⟩
  have h2 := sort_any k cap l w1 hH hkw hl
  go_wp2_with fail
  refine h2.mono ?_
  rintro e w2 ⟨rfl, hk2, hH2⟩
  have hkw2 := Nat.lt_of_lt_of_le hkw hk2.size
  have hs2 := src_holds hH2 hkw2 (sortV_len l) hcap hmx
  have h3 := compact_same (sortV l) (.slice (some ⟨k, 0, none⟩) l.length cap) w2 hs2 ha
  go_wp2_with fail
  refine h3.mono ?_
  rintro e w3 ⟨rfl, hk3⟩
  go_wp2_with fail
  go_ret
  exact ⟨k, cap, hk, Nat.lt_of_lt_of_le hkw2 hk3.size, rfl, hs2.nw hk3, (hk1.own hk2 (fun i hi => by rw [hi]; exact hk)).tr hk3⟩
end Go.Proofs.Ytahamffngmdjfaa.W
