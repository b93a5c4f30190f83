/-
  vec: Sorted of any list: it returns the list in ascending order, each vector once. Condition: the list is not longer than a slice may be.
-/
import Derived.Test.YtgmojgeclljajaaVCp
namespace Go.Proofs.Ytgmojgeclljajaa.W
open Go.RowKit Go.Proofs.Ytgmojgeclljajaa.V

theorem src_none (w : World) (A : Option Addr) (c : Nat) (hc : c ≤ maxLen) : SrcV w (.slice A 0 c) [] := ⟨rfl, A, c, rfl, Nat.zero_le _, hc, fun h => absurd h (Nat.lt_irrefl 0)⟩
theorem clone_none (A : Option Addr) (c : Nat) (w : World) : Calls Try.prog 77 #[.slice A 0 c] w fun e w' => ∃ A' c', e = .returned (.slice A' 0 c') ∧ c' ≤ maxLen ∧ Nw w w' := by
  cases A with
  | none =>
    refine Calls.mono (AnyE.slices_Clone_nil Try.cloneVec 0 c w) ?_
    rintro e w' ⟨rfl, rfl⟩
    exact ⟨none, 0, rfl, Nat.zero_le _, Kp.refl _ _⟩
  | some ad =>
    obtain ⟨i0, hi, hz, hs, hb⟩ := vec_info
    have hq : ∀ w : World, (binOp .eql 36 (.slice (some ad) 0 c) (.slice none 0 0)).run Try.prog w = .ok (.bool false) w := fun w => Lib.run_eql_slice_nil w _ _ (some ad) 0 c 0 0 Try.underlying36
    go_enter Try.func77, Try.ntmps77
    go_wp2
    go_ret
    exact ⟨_, _, rfl, Nat.zero_le _, nw_alloc _ _⟩

set_option maxHeartbeats 800000 in
theorem sorted_any (l : List (Int × Int)) (v : Value) (w : World) (hv : SrcV w v l) (hl : l.length ≤ 1099511627776) :
    Calls Try.prog 44 #[v] w fun e w' => ∃ v', e = .returned v' ∧ SrcV w' v' (dd (sortV l)) ∧ Nw w w' := by
  obtain ⟨A, c, rfl⟩ := hv.shape
  by_cases hne : l = []
  · subst hne
    have h1 := clone_none A c w
    have hds : dd (sortV []) = [] := by simp [sortV, dd]
    rw [hds]
    go_enter Try.func44, Try.ntmps44
    go_wp2_with fail
    refine h1.mono ?_
    rintro e w1 ⟨A', c', rfl, hc', hk1⟩
    have h2 := AnyF.slices_SortFunc_none Try.sortVec A' c' (.func (.func 35) #[] #[]) w1
    go_wp2_with fail
    refine Calls.mono h2 ?_
    rintro e w2 ⟨rfl, rfl⟩
    have h3 := compact_same [] (.slice A' 0 c') w2 (src_none w2 A' c' hc') (by intro i p q hp; simp at hp)
    go_wp2_with fail
    refine h3.mono ?_
    rintro e w3 ⟨rfl, hk3⟩
    go_wp2_with fail
    go_ret
    exact ⟨_, rfl, src_none w3 A' c' hc', hk1.tr hk3⟩
  · obtain ⟨g, o, rfl⟩ : ∃ g o, A = some ⟨g, o, none⟩ := by
      rcases SrcV.flat hv hne with h | ⟨g, o, n, c', h⟩
      · injection h with h1 h2
        exact absurd (List.length_eq_zero_iff.1 h2) hne
      · injection h with h1
        exact ⟨g, o, h1⟩
    have h1 := clone_any l g o c w hv hl
    go_enter Try.func44, Try.ntmps44
    go_wp2_with fail
    refine h1.mono ?_
    rintro e w1 ⟨k, cap, hk, hcap, hmx, hkw, rfl, hH, hk1⟩
    have h2 := sort_any k cap l w1 hH hkw hl
    go_wp2_with fail
    refine h2.mono ?_
    rintro e w2 ⟨rfl, hk2, hH2⟩
    have hkw2 := Nat.lt_of_lt_of_le hkw hk2.size
    have h3 := compact_any (sortV l) k cap w2 (RowV.of_holds hH2) hkw2 (by rw [sortV_len]; exact hcap) hmx (by rw [sortV_len]; exact hl)
    rw [sortV_len] at h3
    go_wp2_with fail
    refine h3.mono ?_
    rintro e w3 ⟨m, rfl, hm, hs3, hk3⟩
    go_wp2_with fail
    go_ret
    exact ⟨_, rfl, by rw [← hm]; exact hs3, (hk1.own hk2 (fun i hi => by rw [hi]; exact hk)).own hk3 (fun i hi => by rw [hi]; exact hk)⟩
end Go.Proofs.Ytgmojgeclljajaa.W
