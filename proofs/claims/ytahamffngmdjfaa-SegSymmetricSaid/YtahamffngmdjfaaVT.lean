/-
  vec: Compact where no two neighbours are equal; Sorted there: what they return. Condition: the list is not longer than a slice may be.
-/
import Derived.Test.YtahamffngmdjfaaVS
namespace Go.Proofs.Ytahamffngmdjfaa.W
open Go.RowKit Go.Proofs.Ytahamffngmdjfaa.V

/-- no two neighbours are equal -/
def Apart (l : List (Int × Int)) : Prop := ∀ i p q, l[i]? = some p → l[i + 1]? = some q → p ≠ q

set_option maxRecDepth 100000 in
set_option maxHeartbeats 3200000 in
theorem compact_same (l : List (Int × Int)) (v : Value) (w : World) (hv : SrcV w v l) (ha : Apart l) : Calls Try.prog 100 #[v] w fun e w' => e = .returned v ∧ Nw w w' := by
  obtain ⟨hl, A, c, rfl, hnc, hcm, hcell⟩ := hv
  obtain ⟨n, hn⟩ : ∃ n, l.length = n := ⟨_, rfl⟩
  rw [hn] at hnc hcell ⊢
  unfold maxLen at hcm
  have HN := Lib.hid hn
  have HC := Lib.hid hcell
  have HA := Lib.hid ha
  clear hl hn hcell ha
  by_cases h2 : n < 2
  · have e1 : decide ((n : Int) < 2) = true := decide_eq_true (by omega)
    go_enter Try.func100, Try.ntmps100
    go_wp2
    go_ret
    exact ⟨rfl, Kp.refl _ _⟩
  · have e1 : decide ((n : Int) < 2) = false := decide_eq_false (by omega)
    obtain ⟨g, o, rfl, hb, hc⟩ := HC.out (by omega)
    have HC := Lib.hid hc
    have HG := Lib.hid hb
    clear hc hb
    go_enter Try.func100, Try.ntmps100
    go_wp2
    go_loopw [3] (fun i wr => ∃ j : Nat, i = .int .i64 ((j + 1 : Nat) : Int) ∧ j + 1 ≤ n ∧ Nw w wr) (fun i _ => n - (intOf i).toNat)
    case atStart => exact ⟨0, rfl, by omega, Kp.refl _ _⟩
    case round =>
      obtain ⟨j, rfl, hj, hnw⟩ := hrel
      have HK := Lib.hid hnw
      clear hnw
      by_cases hkn : j + 1 < n
      · have i0 : (0 : Int) ≤ (j : Int) := by omega
        have i1 : (j : Int) < (n : Int) := by omega
        have i3 : (0 : Int) ≤ ((j + 1 : Nat) : Int) := by omega
        have i4 : ((j + 1 : Nat) : Int) < (n : Int) := by omega
        have e2 : IntKind.i64.wrap (((j + 1 : Nat) : Int) - 1) = (j : Int) := by rw [IntKind.wrap_i64]; omega
        have e3 : IntKind.i64.wrap (((j + 1 : Nat) : Int) + 1) = ((j + 1 + 1 : Nat) : Int) := by rw [IntKind.wrap_i64]; omega
        obtain ⟨⟨px, py⟩, hp⟩ : ∃ x, l[j]? = some x := ⟨l[j]'(by rw [HN.out]; omega), List.getElem?_eq_getElem _⟩
        obtain ⟨⟨sx, sy⟩, hs⟩ : ∃ x, l[j + 1]? = some x := ⟨l[j + 1]'(by rw [HN.out]; omega), List.getElem?_eq_getElem _⟩
        have hne := HA.out j _ _ hp hs
        obtain ⟨f1, f2⟩ := flatV_at l j (px, py) hp
        obtain ⟨f3, f4⟩ := flatV_at l (j + 1) (sx, sy) hs
        have q0 : wr.cell? ⟨g, o + j * 2, none⟩ = some (.int .i64 px) := (HK.out.cell (p := ⟨g, o + j * 2, none⟩) HG.out id).trans (HC.out _ _ f1)
        have q1 : wr.cell? ⟨g, o + j * 2 + 1, none⟩ = some (.int .i64 py) := (HK.out.cell (p := ⟨g, o + (j * 2 + 1), none⟩) HG.out id).trans (HC.out _ _ f2)
        have q2 : wr.cell? ⟨g, o + (j + 1) * 2, none⟩ = some (.int .i64 sx) := (HK.out.cell (p := ⟨g, o + (j + 1) * 2, none⟩) HG.out id).trans (HC.out _ _ f3)
        have q3 : wr.cell? ⟨g, o + (j + 1) * 2 + 1, none⟩ = some (.int .i64 sy) := (HK.out.cell (p := ⟨g, o + ((j + 1) * 2 + 1), none⟩) HG.out id).trans (HC.out _ _ f4)
        clear f1 f2 f3 f4 hp hs
        by_cases h1 : sx = px
        · subst h1
          have e4 : (sy == py) = false := by simp; rintro rfl; exact hne rfl
          clear hne
          go_wp2_with fail
          go_region
          go_wp2_with fail
          go_roundw
          case rel => exact ⟨j + 1, rfl, by omega, by repeat (first | exact HK.out | refine Kp.drew ?_)⟩
          case measure => simp [intOf]; omega
        · have e4 : (sx == px) = false := by simp [h1]
          clear hne h1
          go_wp2_with fail
          go_region
          go_wp2_with fail
          go_roundw
          case rel => exact ⟨j + 1, rfl, by omega, by repeat (first | exact HK.out | refine Kp.drew ?_)⟩
          case measure => simp [intOf]; omega
      · obtain rfl : j + 1 = n := by omega
        have i5 : decide (((j + 1 : Nat) : Int) < ((j + 1 : Nat) : Int)) = false := by simp
        go_wp2_with fail
        go_ret
        exact ⟨rfl, HK.out⟩
end Go.Proofs.Ytahamffngmdjfaa.W
