/-
  vec: Compact of any list in a row that the call may turn: it returns the list rid of equal neighbours. Condition: the list is not longer than a slice may be.
-/
import Derived.Test.YtgmojgeclljajaaVCq
namespace Go.Proofs.Ytgmojgeclljajaa.W
open Go.RowKit Go.Proofs.Ytgmojgeclljajaa.V

set_option maxRecDepth 100000 in
set_option maxHeartbeats 6400000 in
theorem compact_any (l : List (Int × Int)) (g cap : Nat) (w : World) (hrow : RowV w g l) (hg : g < w.heap.size) (hcap : l.length ≤ cap) (hmx : cap ≤ maxLen) (hl : l.length ≤ 1099511627776) : Calls Try.prog 79 #[.slice (some ⟨g, 0, none⟩) l.length cap] w fun e w' => ∃ m, e = .returned (.slice (some ⟨g, 0, none⟩) m cap) ∧ m = (dd l).length ∧ SrcV w' (.slice (some ⟨g, 0, none⟩) m cap) (dd l) ∧ Kp (fun i => i = g) w w' := by
  obtain ⟨n, hn⟩ : ∃ n, l.length = n := ⟨_, rfl⟩
  have hall : (∀ i p q, i + 1 < l.length → l[i]? = some p → l[i + 1]? = some q → p ≠ q) → dd l = l := fun h => by
    have := dd_apart l l.length (Nat.le_refl _) h
    rwa [List.take_length] at this
  have HD := Lib.hid hall
  have HN := Lib.hid hn
  have HR := Lib.hid hrow
  have HG := Lib.hid hg
  have HM := Lib.hid hmx
  have HL := Lib.hid hl
  have HC := Lib.hid hcap
  rw [hn] at hcap hl ⊢
  clear hall hn hrow hg hmx
  by_cases h2 : n < 2
  · have e1 : decide ((n : Int) < 2) = true := decide_eq_true (by omega)
    go_enter Try.func79, Try.ntmps79
    go_wp2
    go_ret
    have hd : dd l = l := HD.out fun i p q hi => absurd hi (by rw [HN.out]; omega)
    refine ⟨n, rfl, by rw [hd, HN.out], ?_, Kp.refl _ _⟩
    rw [hd]
    exact HR.out.src HG.out (List.take_of_length_le (by rw [HN.out]; exact Nat.le_refl _)) HN.out hcap HM.out
  · have e1 : decide ((n : Int) < 2) = false := decide_eq_false (by omega)
    go_enter Try.func79, Try.ntmps79
    go_wp2
    go_loopw [3] (fun i wr => ∃ j : Nat, i = .int .i64 ((j + 1 : Nat) : Int) ∧ j + 1 ≤ n ∧ (∀ i p q, i + 1 < j + 1 → l[i]? = some p → l[i + 1]? = some q → p ≠ q) ∧ Kp (fun i => i = g) w wr ∧ RowV wr g l) (fun i _ => n - (intOf i).toNat)
    case atStart => exact ⟨0, rfl, by omega, fun i _ _ hi => absurd hi (by omega), Kp.refl _ _, HR.out⟩
    case round =>
      obtain ⟨j, rfl, hj, hap, hkp, hrw⟩ := hrel
      have HA := Lib.hid hap
      have HK := Lib.hid hkp
      have HW := Lib.hid hrw
      clear hap hkp hrw
      by_cases hkn : j + 1 < n
      · have i0 : (0 : Int) ≤ (j : Int) := by omega
        have i1 : (j : Int) < (n : Int) := by omega
        have i3 : (0 : Int) ≤ ((j + 1 : Nat) : Int) := by omega
        have i4 : ((j + 1 : Nat) : Int) < (n : Int) := by omega
        have e2 : IntKind.i64.wrap (((j + 1 : Nat) : Int) - 1) = (j : Int) := by rw [IntKind.wrap_i64]; omega
        have e3 : IntKind.i64.wrap (((j + 1 : Nat) : Int) + 1) = ((j + 1 + 1 : Nat) : Int) := by rw [IntKind.wrap_i64]; omega
        obtain ⟨⟨px, py⟩, hp⟩ : ∃ x, l[j]? = some x := ⟨l[j]'(by rw [HN.out]; omega), List.getElem?_eq_getElem _⟩
        obtain ⟨⟨sx, sy⟩, hs⟩ : ∃ x, l[j + 1]? = some x := ⟨l[j + 1]'(by rw [HN.out]; omega), List.getElem?_eq_getElem _⟩
        obtain ⟨⟨q0, q1⟩, _⟩ := HW.out j _ hp
        obtain ⟨⟨q2, q3⟩, _⟩ := HW.out (j + 1) _ hs
        have hq := fun w1 => eql_vec sx sy px py w1
        have HP := Lib.hid (And.intro hp hs)
        clear hp hs
        by_cases h1 : (sx, sy) = (px, py)
        · rw [show (sx == px && sy == py) = true by injection h1 with h1 h2; simp [h1, h2]] at hq
          have HE := Lib.hid h1
          clear h1
          go_wp2_with fail
          go_region
          clear hq q0 q1 q2 q3
          go_wp2_with fail
          obtain ⟨N2, hN2⟩ : ∃ x, n - (j + 1) = x := ⟨_, rfl⟩
          obtain ⟨C2, hC2⟩ : ∃ x, cap - (j + 1) = x := ⟨_, rfl⟩
          rw [hN2, hC2]
          have hdd : dd (l.take (j + 1 + (0 + 1))) = l.take (j + 1) := by
            rw [dd_step HP.out.1 HP.out.2, if_pos HE.out.symm]
            exact dd_apart l (j + 1) (by rw [HN.out]; omega) HA.out
          have HD2 := Lib.hid hdd
          clear hdd
          go_loopw [3, 5] (fun kv qv wx => ∃ (K q : Nat) (L : List (Int × Int)), kv = .int .i64 K ∧ qv = .int .i64 ((q + 1 : Nat) : Int) ∧ q + 1 ≤ N2 ∧ K ≤ j + 1 + q ∧ (L.length = n ∧ L.take K = dd (l.take (j + 1 + (q + 1))) ∧ K = (dd (l.take (j + 1 + (q + 1)))).length ∧ ∀ i, j + 1 + q ≤ i → L[i]? = l[i]?) ∧ RowV wx g L ∧ Kp (fun i => i = g) w wx) (fun _ qv _ => N2 - (intOf qv).toNat)
          case atStart =>
            exact ⟨j + 1, 0, l, by go_num, by go_num, by omega, by omega, ⟨HN.out, HD2.out.symm, by rw [HD2.out, List.length_take, HN.out]; omega, fun _ _ => rfl⟩, HW.out, HK.out.drew⟩
          case round =>
            obtain ⟨K, q, L, rfl, rfl, hq1, hK, hLL, hrL, hkx⟩ := hrel
            have HLL := Lib.hid hLL
            have HRL := Lib.hid hrL
            have HKX := Lib.hid hkx
            clear hLL hrL hkx
            by_cases hqn : q + 1 < N2
            · have j0 : (0 : Int) ≤ (q : Int) := by omega
              have j1 : (q : Int) < (N2 : Int) := by omega
              have j3 : (0 : Int) ≤ ((q + 1 : Nat) : Int) := by omega
              have j4 : ((q + 1 : Nat) : Int) < (N2 : Int) := by omega
              have j5 : (0 : Int) ≤ (K : Int) := by omega
              have j6 : (K : Int) < (n : Int) := by omega
              have f2 : IntKind.i64.wrap (((q + 1 : Nat) : Int) - 1) = (q : Int) := by rw [IntKind.wrap_i64]; omega
              have f3 : IntKind.i64.wrap (((q + 1 : Nat) : Int) + 1) = ((q + 1 + 1 : Nat) : Int) := by rw [IntKind.wrap_i64]; omega
              have f4 : IntKind.i64.wrap ((K : Int) + 1) = ((K + 1 : Nat) : Int) := by rw [IntKind.wrap_i64]; omega
              obtain ⟨⟨ax, ay⟩, ha⟩ : ∃ x, l[j + 1 + q]? = some x := ⟨l[j + 1 + q]'(by rw [HN.out]; omega), List.getElem?_eq_getElem _⟩
              obtain ⟨⟨bx, bz⟩, hb⟩ : ∃ x, l[j + 1 + q + 1]? = some x := ⟨l[j + 1 + q + 1]'(by rw [HN.out]; omega), List.getElem?_eq_getElem _⟩
              obtain ⟨⟨q0, q1⟩, _⟩ := HRL.out (j + 1 + q) _ ((HLL.out.2.2.2 _ (by omega)).trans ha)
              obtain ⟨⟨q2, q3⟩, _⟩ := HRL.out (j + 1 + q + 1) _ ((HLL.out.2.2.2 _ (by omega)).trans hb)
              rw [show (j + 1 + q) * 2 = (j + 1) * 2 + q * 2 by omega] at q0 q1
              rw [show (j + 1 + q + 1) * 2 = (j + 1) * 2 + (q + 1) * 2 by omega] at q2 q3
              have hne := fun w1 => neq_vec bx bz ax ay w1
              have HAB := Lib.hid (And.intro ha hb)
              have hst := dd_step ha hb
              have HST := Lib.hid hst
              clear ha hb hst
              by_cases h1 : (bx, bz) = (ax, ay)
              · rw [show (!(bx == ax && bz == ay)) = false by injection h1 with h1 h2; simp [h1, h2]] at hne
                have HE2 := Lib.hid h1
                clear h1
                go_wp2_with fail
                go_region
                go_wp2_with fail
                go_roundw
                case rel =>
                  have hs := HST.out
                  rw [if_pos HE2.out.symm] at hs
                  refine ⟨K, q + 1, L, rfl, rfl, by omega, by omega, ⟨HLL.out.1, ?_, ?_, fun i hi => HLL.out.2.2.2 i (by omega)⟩, HRL.out, by repeat (first | exact HKX.out | refine Kp.drew ?_)⟩
                  · rw [show j + 1 + (q + 1 + 1) = j + 1 + q + 1 + 1 by omega, hs]; exact HLL.out.2.1
                  · rw [show j + 1 + (q + 1 + 1) = j + 1 + q + 1 + 1 by omega, hs]; exact HLL.out.2.2.1
                case measure => simp [intOf]; omega
              · rw [show (!(bx == ax && bz == ay)) = true by
                  have h : (bx == ax && bz == ay) = false := by
                    apply Bool.eq_false_iff.2
                    intro h
                    simp at h
                    exact h1 (by rw [h.1, h.2])
                  rw [h]
                  rfl] at hne
                have HE2 := Lib.hid h1
                have hkl : K < L.length := by rw [HLL.out.1]; omega
                obtain ⟨⟨kx, ky⟩, hk0⟩ : ∃ x, L[K]? = some x := ⟨L[K], List.getElem?_eq_getElem hkl⟩
                obtain ⟨⟨r0, r1⟩, r2, r3⟩ := HRL.out K _ hk0
                have HKL := Lib.hid hkl
                clear h1 hkl hk0
                go_wp2_with fail
                go_region
                go_wp2_with fail
                go_roundw
                case rel =>
                  have hs := HST.out
                  rw [if_neg (fun e => HE2.out e.symm)] at hs
                  refine ⟨K + 1, q + 1, L.set K (bx, bz), rfl, rfl, by omega, by omega, ⟨by rw [List.length_set]; exact HLL.out.1, ?_, ?_, fun i hi => ?_⟩, HRL.out.drew.set_ HKL.out bx bz, ?_⟩
                  · rw [show j + 1 + (q + 1 + 1) = j + 1 + q + 1 + 1 by omega, hs, List.take_add_one, List.getElem?_set_self HKL.out, List.take_set_of_le (Nat.le_refl _), HLL.out.2.1]
                    rfl
                  · rw [show j + 1 + (q + 1 + 1) = j + 1 + q + 1 + 1 by omega, hs, List.length_append, HLL.out.2.2.1]
                    rfl
                  · rw [List.getElem?_set_ne (by omega)]
                    exact HLL.out.2.2.2 i (by omega)
                  · exact (HKX.out.drew.setCell (p := ⟨g, K * 2, none⟩) (fun _ => rfl) _).setCell (p := ⟨g, K * 2 + 1, none⟩) (fun _ => rfl) _
                case measure => simp [intOf]; omega
            · obtain rfl : q + 1 = N2 := by omega
              have j4 : ¬ (((q + 1 : Nat) : Int) < ((q + 1 : Nat) : Int)) := by omega
              have j5 : (0 : Int) ≤ (K : Int) := by omega
              have j6 : (K : Int) ≤ (n : Int) := by omega
              have j7 : (K : Int) ≤ (cap : Int) := by omega
              have hfull : l.take (j + 1 + (q + 1)) = l := List.take_of_length_le (by rw [HN.out]; omega)
              have hL := HLL.out
              rw [hfull] at hL
              have hsrc := HRL.out.src (m := K) (d := dd l) (cap := cap) (Nat.lt_of_lt_of_le HG.out HKX.out.size) hL.2.1 hL.2.2.1.symm (by omega) HM.out
              have hsm := fun (i : Nat) (hi : i < (n - K) * 2) => HRL.out.some_ (i := K * 2 + i) (by rw [hL.1]; omega)
              have HS1 := Lib.hid hsrc
              have HS2 := Lib.hid hsm
              have HL2 := Lib.hid hL
              clear hfull hL hsrc hsm
              go_wp2_with (refine wp_clear rfl (.tmp 56) (by rfl) g (K * 2) (n - K) (cap - K) (by rfl) (by omega) (fun i hi => (HS2.out i hi).1) (fun i hi => (HS2.out i hi).2) ?_)
              go_ret
              exact ⟨K, rfl, HL2.out.2.2.1, src_ahead HS1.out HL2.out.2.2.1.symm (Nat.le_refl _), HKX.out.tr (setCells_kp _ _ _ _)⟩
        · rw [show (sx == px && sy == py) = false by
            apply Bool.eq_false_iff.2
            intro h
            simp at h
            exact h1 (by rw [h.1, h.2])] at hq
          have HE := Lib.hid h1
          clear h1
          go_wp2_with fail
          go_region
          go_wp2_with fail
          go_roundw
          case rel =>
            refine ⟨j + 1, rfl, by omega, fun i p q hi h1 h2 => ?_, by repeat (first | exact HK.out | refine Kp.drew ?_), HW.out⟩
            by_cases hij : i = j
            · subst hij
              rw [HP.out.1] at h1
              rw [HP.out.2] at h2
              injection h1 with h1
              injection h2 with h2
              subst h1 h2
              exact fun e => HE.out e.symm
            · exact HA.out i p q (by omega) h1 h2
          case measure => simp [intOf]; omega
      · obtain rfl : j + 1 = n := by omega
        have i5 : decide (((j + 1 : Nat) : Int) < ((j + 1 : Nat) : Int)) = false := by simp
        go_wp2_with fail
        go_ret
        have hd : dd l = l := HD.out fun i p q hi => HA.out i p q (by rw [HN.out] at hi; exact hi)
        refine ⟨j + 1, rfl, by rw [hd, HN.out], ?_, HK.out⟩
        rw [hd]
        exact HW.out.src (Nat.lt_of_lt_of_le HG.out HK.out.size) (List.take_of_length_le (by rw [HN.out]; exact Nat.le_refl _)) HN.out hcap HM.out
end Go.Proofs.Ytgmojgeclljajaa.W
