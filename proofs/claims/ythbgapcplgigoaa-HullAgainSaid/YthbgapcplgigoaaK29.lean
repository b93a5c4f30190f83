/-
  The reference's Same of two slices that read as one list: it returns true. No condition.
  hull: HullOf: the call returns true. No condition.
-/
import Derived.Test.YthbgapcplgigoaaK08
import Derived.Test.YthbgapcplgigoaaK16
import Derived.Test.YthbgapcplgigoaaK27
import Derived.Test.YthbgapcplgigoaaK28
namespace Go.Proofs.Ythbgapcplgigoaa.W
open Go.RowKit Go.Proofs.Ythbgapcplgigoaa.V

set_option maxRecDepth 100000 in
set_option maxHeartbeats 3200000 in
theorem same_any (l : List (Int × Int)) (u v : Value) (w : World) (hu : SrcV w u l) (hv : SrcV w v l) : Calls Try.prog 14 #[u, v] w fun e w' => e = .returned (.bool true) ∧ Nw w w' := by
  obtain ⟨_, A, c, rfl, hnc, hcm, hcell⟩ := hu
  obtain ⟨_, A2, c2, rfl, hnc2, hcm2, hcell2⟩ := hv
  obtain ⟨n, hn⟩ : ∃ n, l.length = n := ⟨_, rfl⟩
  rw [hn] at hnc hcell hnc2 hcell2 ⊢
  unfold maxLen at hcm
  have HN := Lib.hid hn
  have HC := Lib.hid hcell
  have HC2 := Lib.hid hcell2
  clear hn hcell hcell2
  go_enter Try.func14, Try.ntmps14
  go_wp2
  go_loopw [5] (fun i wr => ∃ j : Nat, i = .int .i64 j ∧ j ≤ n ∧ Nw w wr) (fun i _ => n - (intOf i).toNat)
  case atStart => exact ⟨0, rfl, by omega, Kp.refl _ _⟩
  case round =>
    obtain ⟨j, rfl, hj, hnw⟩ := hrel
    have HK := Lib.hid hnw
    clear hnw
    by_cases hkn : j < n
    · have i0 : (0 : Int) ≤ (j : Int) := by omega
      have i1 : (j : Int) < (n : Int) := by omega
      have e3 : IntKind.i64.wrap ((j : Int) + 1) = (j : Int) + 1 := by rw [IntKind.wrap_i64]; omega
      obtain ⟨⟨px, py⟩, hp⟩ : ∃ x, l[j]? = some x := ⟨l[j]'(by rw [HN.out]; omega), List.getElem?_eq_getElem _⟩
      obtain ⟨f1, f2⟩ := flatV_at l j (px, py) hp
      obtain ⟨g, o, rfl, hb, hc⟩ := HC.out (by omega)
      obtain ⟨g2, o2, rfl, hb2, hc2⟩ := HC2.out (by omega)
      have q0 : wr.cell? ⟨g, o + j * 2, none⟩ = some (.int .i64 px) := (HK.out.cell (p := ⟨g, o + j * 2, none⟩) hb id).trans (hc _ _ f1)
      have q1 : wr.cell? ⟨g, o + j * 2 + 1, none⟩ = some (.int .i64 py) := (HK.out.cell (p := ⟨g, o + (j * 2 + 1), none⟩) hb id).trans (hc _ _ f2)
      have q2 : wr.cell? ⟨g2, o2 + j * 2, none⟩ = some (.int .i64 px) := (HK.out.cell (p := ⟨g2, o2 + j * 2, none⟩) hb2 id).trans (hc2 _ _ f1)
      have q3 : wr.cell? ⟨g2, o2 + j * 2 + 1, none⟩ = some (.int .i64 py) := (HK.out.cell (p := ⟨g2, o2 + (j * 2 + 1), none⟩) hb2 id).trans (hc2 _ _ f2)
      clear f1 f2 hp hc hc2
      go_wp2_with fail
      go_region
      go_wp2_with fail
      go_roundw
      case rel => exact ⟨j + 1, by go_num, by omega, by repeat (first | exact HK.out | refine Kp.drew ?_)⟩
      case measure => simp [intOf]; omega
    · obtain rfl : j = n := by omega
      have i5 : ¬ ((j : Int) < (j : Int)) := by omega
      go_wp2_with fail
      go_ret
      exact ⟨rfl, HK.out⟩
end Go.Proofs.Ythbgapcplgigoaa.W

namespace Go.Proofs.Ythbgapcplgigoaa.W
open Go.RowKit Go.Proofs.Ythbgapcplgigoaa.V Go.Proofs.Ythbgapcplgigoaa.G


set_option maxRecDepth 100000 in
set_option maxHeartbeats 12800000 in
theorem hullOf_any (l : List (Int × Int)) (v : Value) (w : World) (hv : SrcV w v l) : Calls Try.prog 3 #[v] w fun e w' => e = .returned (.bool true) ∧ Nw w w' := by
  have hmix := mixed7
  obtain ⟨A, c, rfl⟩ := hv.shape
  obtain ⟨n, hn⟩ : ∃ n, l.length = n := ⟨_, rfl⟩
  replace hv := src_n hv hn
  have HN := Lib.hid hn
  have HSV := Lib.hid (src_v hv hn)
  have hmx := src_max hv
  rw [hn]
  clear hv hn
  by_cases h10 : 410 < n
  · have f1 : ((n : Int) > 410) := by omega
    go_enter Try.func3, Try.ntmps3
    go_wp2_with fail
    refine (awakeH_any _).mono ?_
    rintro e w1 ⟨rfl, k1⟩
    go_wp2_with fail
    go_ret
    exact ⟨rfl, k1⟩
  have f1 : ¬ ((n : Int) > 410) := by omega
  have hl : l.length ≤ 1099511627776 := by rw [HN.out]; omega
  have cso := fun w1 (h : Nw w w1) => rsorted_any l (.slice A n c) w1 (HSV.out.nw h) hl
  have chl := fun w1 (h : Nw w w1) => hull_any l (.slice A n c) w1 (HSV.out.nw h)
  have chr := fun w1 (h : Nw w w1) => r10hull_any l (.slice A n c) w1 (HSV.out.nw h) hl
  obtain ⟨⟨rr, er⟩, hr⟩ : ∃ r, hullH l = r := ⟨_, rfl⟩
  rw [hr] at chl chr
  simp only at chl chr
  clear hr hl h10
  by_cases h4 : n ≤ 400
  · have f2 : ((n : Int) ≤ 400) := by omega
    go_enter Try.func3, Try.ntmps3
    go_wp2_with fail
    refine (awakeH_any _).mono ?_
    rintro e w1 ⟨rfl, k1⟩
    go_wp2_with fail
    refine (cso _ k1).mono ?_
    rintro e w2 ⟨v2, rfl, s2, k2⟩
    obtain ⟨A2, c2, e2⟩ := s2.shape
    subst e2
    have hKZ := k1.tr k2
    obtain ⟨q, hq⟩ : ∃ q, (insAll l).length = q := ⟨_, rfl⟩
    rw [hq]
    clear s2 k1 k2 cso hq
    by_cases h40 : 40 < q
    · have f3 : ((q : Int) > 40) := by omega
      go_wp2_with fail
      go_ret
      exact ⟨rfl, hKZ⟩
    have f3 : ¬ ((q : Int) > 40) := by omega
    go_wp2_with fail
    refine (chl _ hKZ).mono ?_
    rintro e w6 ⟨v6, rfl, s6, k6⟩
    obtain ⟨A6, c6, e6⟩ := s6.shape
    subst e6
    have HS6 := Lib.hid s6
    have HK6 := Lib.hid (hKZ.tr k6)
    clear s6 k6 chl
    go_wp2_with fail
    refine (chr _ HK6.out).mono ?_
    rintro e w7 ⟨v7, rfl, s7, k7⟩
    obtain ⟨A7, c7, e7⟩ := s7.shape
    subst e7
    have csm := same_any rr _ _ w7 (HS6.out.nw k7) s7
    have HK7 := Lib.hid (HK6.out.tr k7)
    clear s7 k7 chr
    go_wp2_with fail
    refine csm.mono ?_
    rintro e w8 ⟨rfl, k8⟩
    go_wp2_with fail
    go_ret
    exact ⟨by simp, HK7.out.tr k8⟩
  have f2 : ¬ ((n : Int) ≤ 400) := by omega
  go_enter Try.func3, Try.ntmps3
  go_wp2_with fail
  refine (awakeH_any _).mono ?_
  rintro e w1 ⟨rfl, hKZ⟩
  go_wp2_with fail
  refine (chl _ hKZ).mono ?_
  rintro e w6 ⟨v6, rfl, s6, k6⟩
  obtain ⟨A6, c6, e6⟩ := s6.shape
  subst e6
  have HS6 := Lib.hid s6
  have HK6 := Lib.hid (hKZ.tr k6)
  clear s6 k6 chl
  go_wp2_with fail
  refine (chr _ HK6.out).mono ?_
  rintro e w7 ⟨v7, rfl, s7, k7⟩
  obtain ⟨A7, c7, e7⟩ := s7.shape
  subst e7
  have csm := same_any rr _ _ w7 (HS6.out.nw k7) s7
  have HK7 := Lib.hid (HK6.out.tr k7)
  clear s7 k7 chr
  go_wp2_with fail
  refine csm.mono ?_
  rintro e w8 ⟨rfl, k8⟩
  go_wp2_with fail
  go_ret
  exact ⟨by simp, HK7.out.tr k8⟩

end Go.Proofs.Ythbgapcplgigoaa.W
