/-
  The reference's Same of two slices that read as one list: it returns true. No condition.
-/
import Derived.Test.YtgmojgeclljajaaVU
namespace Go.Proofs.Ytgmojgeclljajaa.W
open Go.RowKit Go.Proofs.Ytgmojgeclljajaa.V

set_option maxRecDepth 100000 in
set_option maxHeartbeats 3200000 in
theorem same_any (l : List (Int × Int)) (u v : Value) (w : World) (hu : SrcV w u l) (hv : SrcV w v l) : Calls Try.prog 43 #[u, v] w fun e w' => e = .returned (.bool true) ∧ Nw w w' := by
  obtain ⟨_, A, c, rfl, hnc, hcm, hcell⟩ := hu
  obtain ⟨_, A2, c2, rfl, hnc2, hcm2, hcell2⟩ := hv
  obtain ⟨n, hn⟩ : ∃ n, l.length = n := ⟨_, rfl⟩
  rw [hn] at hnc hcell hnc2 hcell2 ⊢
  unfold maxLen at hcm
  have HN := Lib.hid hn
  have HC := Lib.hid hcell
  have HC2 := Lib.hid hcell2
  clear hn hcell hcell2
  go_enter Try.func43, Try.ntmps43
  go_wp2
  go_loopw [5] (fun i wr => ∃ j : Nat, i = .int .i64 j ∧ j ≤ n ∧ Nw w wr) (fun i _ => n - (intOf i).toNat)
  case atStart => exact ⟨0, rfl, by omega, Kp.refl _ _⟩
  case round =>
    obtain ⟨j, rfl, hj, hnw⟩ := hrel
    have HK := Lib.hid hnw
    clear hnw
    by_cases hkn : j < n
    · have i0 : (0 : Int) ≤ (j : Int) := by omega
      have i1 : (j : Int) < (n : Int) := by omega
      have e3 : IntKind.i64.wrap ((j : Int) + 1) = (j : Int) + 1 := by rw [IntKind.wrap_i64]; omega
      obtain ⟨⟨px, py⟩, hp⟩ : ∃ x, l[j]? = some x := ⟨l[j]'(by rw [HN.out]; omega), List.getElem?_eq_getElem _⟩
      obtain ⟨f1, f2⟩ := flatV_at l j (px, py) hp
      obtain ⟨g, o, rfl, hb, hc⟩ := HC.out (by omega)
      obtain ⟨g2, o2, rfl, hb2, hc2⟩ := HC2.out (by omega)
      have q0 : wr.cell? ⟨g, o + j * 2, none⟩ = some (.int .i64 px) := (HK.out.cell (p := ⟨g, o + j * 2, none⟩) hb id).trans (hc _ _ f1)
      have q1 : wr.cell? ⟨g, o + j * 2 + 1, none⟩ = some (.int .i64 py) := (HK.out.cell (p := ⟨g, o + (j * 2 + 1), none⟩) hb id).trans (hc _ _ f2)
      have q2 : wr.cell? ⟨g2, o2 + j * 2, none⟩ = some (.int .i64 px) := (HK.out.cell (p := ⟨g2, o2 + j * 2, none⟩) hb2 id).trans (hc2 _ _ f1)
      have q3 : wr.cell? ⟨g2, o2 + j * 2 + 1, none⟩ = some (.int .i64 py) := (HK.out.cell (p := ⟨g2, o2 + (j * 2 + 1), none⟩) hb2 id).trans (hc2 _ _ f2)
      clear f1 f2 hp hc hc2
      go_wp2_with fail
      go_region
      go_wp2_with fail
      go_roundw
      case rel => exact ⟨j + 1, by go_num, by omega, by repeat (first | exact HK.out | refine Kp.drew ?_)⟩
      case measure => simp [intOf]; omega
    · obtain rfl : j = n := by omega
      have i5 : ¬ ((j : Int) < (j : Int)) := by omega
      go_wp2_with fail
      go_ret
      exact ⟨rfl, HK.out⟩
end Go.Proofs.Ytgmojgeclljajaa.W
