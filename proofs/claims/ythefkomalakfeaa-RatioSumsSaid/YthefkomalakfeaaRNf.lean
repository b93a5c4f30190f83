/-
  The reference's half: what it returns. Condition: at most 100000 digits.
-/
import Derived.Test.YthefkomalakfeaaRNe
import Derived.Test.YthefkomalakfeaaQNb
namespace Go.Proofs.Ythefkomalakfeaa.W
open Go.RowKit Go.Proofs.Ythefkomalakfeaa.Q

theorem drep_set {m : List Nat} {k n x : Nat} (h : m.length = k) (hk : k < n) : (m ++ List.replicate (n - k) 0).set k x = m ++ [x] ++ List.replicate (n - (k + 1)) 0 := rep_set h hk
theorem half_step {m a0 t h i x y : Nat} (e : 2 * m + a0 = t + B15 ^ i * (x % 2)) (hh : h = x / 2 + y % 2 * 16384) : 2 * (m + B15 ^ i * h) + a0 = t + B15 ^ i * x + B15 ^ (i + 1) * (y % 2) := by
  have e2 : B15 ^ i * (x % 2) + 2 * (B15 ^ i * h) = B15 ^ i * x + B15 ^ (i + 1) * (y % 2) := by
    rw [Nat.pow_succ, Nat.mul_assoc, ← Nat.mul_add, Nat.mul_left_comm 2, ← Nat.mul_add, b15_eq]
    congr 1
    omega
  generalize B15 ^ i * (x % 2) = a1 at *
  generalize B15 ^ i * h = a2 at *
  generalize B15 ^ i * x = a3 at *
  generalize B15 ^ (i + 1) * (y % 2) = a4 at *
  omega

set_option maxRecDepth 100000 in
set_option maxHeartbeats 6400000 in
theorem half_any (N : Nat) (x : Value) (w : World) (hx : Js w x N) (hN : FewD N) :
    Calls Try.prog 80 #[x] w fun e w' => ∃ v', e = .returned v' ∧ Js w' v' (N / 2) ∧ Nw w w' := by
  obtain ⟨la, ⟨hla, A1, c1, rfl, hn1, hc1, hcell1⟩, hw1, hcut1, rfl, _⟩ := hx
  have hlen1 := dfew_len hcut1 hN
  obtain ⟨na, hna⟩ : ∃ n, la.length = n := ⟨_, rfl⟩
  rw [hna] at hlen1 hcell1 ⊢
  have hmk := make_digits na (by omega)
  have HR := Lib.hid (show RowD (w.alloc (.cells (dgV (List.replicate na 0)).toArray 3)) w.heap.size (List.replicate na 0) from Blk.new w _ _)
  have HK0 := Lib.hid (nw_alloc w (.cells (dgV (List.replicate na 0)).toArray 3))
  have HA := Lib.hid (And.intro hcell1 (And.intro hw1 (And.intro hna hlen1)))
  clear hla hcell1 hw1 hcut1 hN hna hlen1 hn1 hc1
  go_enter Try.func80, Try.ntmps80
  go_wp2
  clear hmk
  go_loopw [4] (fun i wr => ∃ (k : Nat) (m : List Nat), i = .int .i64 k ∧ k ≤ na ∧ m.length = k ∧ Dgs m ∧ 2 * dnum m + la.getD 0 0 % 2 = dnum (la.take k) + B15 ^ k * (la.getD k 0 % 2) ∧ RowD wr w.heap.size (m ++ List.replicate (na - k) 0) ∧ Nw w wr) (fun i _ => na - (intOf i).toNat)
  case atStart => exact ⟨0, [], rfl, Nat.zero_le _, rfl, dwds_nil, by simp [dnum], by rw [List.nil_append, Nat.sub_zero]; exact HR.out, HK0.out⟩
  case round =>
    obtain ⟨k, m, rfl, hk, hml, hm, hv, hrow, hnw⟩ := hrel
    have HM := Lib.hid (And.intro hml (And.intro hm hv))
    have HO := Lib.hid hrow
    have HK := Lib.hid hnw
    clear hml hm hv hrow hnw
    have hkb : k ≤ 100000 := by have := HA.out.2.2.2; omega
    have i0 : (0 : Int) ≤ (k : Int) := by omega
    by_cases ha : k < na
    · have ia : (k : Int) < (na : Int) := by omega
      obtain ⟨k1, hk1⟩ : ∃ k1, k + 1 = k1 := ⟨_, rfl⟩
      have e9 : IntKind.i64.wrap ((k : Int) + 1) = (k1 : Int) := by rw [show (k : Int) + 1 = k1 by omega]; exact wrapI k1 (by omega)
      obtain ⟨x, hx⟩ : ∃ x, la.getD k 0 = x := ⟨_, rfl⟩
      have hxb : x < 32768 := by rw [← hx]; exact getD_lt HA.out.2.1 k
      obtain ⟨ga, oa, rfl, hba, hcla⟩ := HA.out.1 (by omega)
      have qa := (HK.out.cell (p := ⟨ga, oa + k, none⟩) hba id).trans (hcla k _ (getD_at (by rw [HA.out.2.2.1]; omega)))
      rw [hx] at qa
      obtain ⟨h1, hh1⟩ : ∃ h1, x / 2 = h1 := ⟨_, rfl⟩
      have f2 : (x : Int).tdiv 2 = (h1 : Int) := by rw [Int.tdiv_eq_ediv_of_nonneg (by omega)]; omega
      have f1 : IntKind.i64.wrap ((x : Int).tdiv 2) = (h1 : Int) := by rw [f2]; exact wrapI _ (by omega)
      have f3 : (x : Int) / 2 = (h1 : Int) := by omega
      have f4 := wrapI h1 (by omega)
      have hlen : (m ++ List.replicate (na - k) 0).length = na := by rw [List.length_append, HM.out.1, List.length_replicate]; omega
      have r0 := RowD.cell HO.out (k := k) (by rw [hlen]; exact ha)
      have r1 := Blk.frozen HO.out k
      have hrow2 := RowD.set_ HO.out k h1
      rw [drep_set HM.out.1 ha] at hrow2
      have hg2 : (m ++ [h1] ++ List.replicate (na - (k + 1)) 0).getD k 0 = h1 := by
        rw [List.getD_eq_getElem?_getD, List.append_assoc, List.getElem?_append_right (by rw [HM.out.1]; exact Nat.le_refl _), HM.out.1, Nat.sub_self]
        rfl
      have HO2 := Lib.hid hrow2
      have HX := Lib.hid (And.intro hx (And.intro hh1 (And.intro hk1 (And.intro hg2 hxb))))
      clear hx hh1 hcla hrow2 hlen hg2
      by_cases hn : k1 < na
      · have ib : (k1 : Int) < (na : Int) := by omega
        have i9 : (0 : Int) ≤ (k1 : Int) := by omega
        obtain ⟨y, hy⟩ : ∃ y, la.getD k1 0 = y := ⟨_, rfl⟩
        have hyb : y < 32768 := by rw [← hy]; exact getD_lt HA.out.2.1 k1
        have qb := ((HK.out.new (b := w.heap.size) (Nat.le_refl _) k (.int .i64 (h1 : Int))).cell (p := ⟨ga, oa + k1, none⟩) hba id).trans ((HA.out.1 (by omega)).elim fun g h => by
          obtain ⟨o, h2, _, h3⟩ := h
          obtain ⟨rfl, rfl⟩ : ga = g ∧ oa = o := by simpa using h2
          exact h3 k1 _ (getD_at (by rw [HA.out.2.2.1]; omega)))
        rw [hy] at qb
        have s0 := RowD.cell HO2.out (k := k) (by rw [List.length_append, List.length_append, HM.out.1, List.length_replicate]; simp; omega)
        rw [HX.out.2.2.2.1] at s0
        have s1 := Blk.frozen HO2.out k
        obtain ⟨z, hz⟩ : ∃ z, y % 2 = z := ⟨_, rfl⟩
        have g2 : (y : Int).tmod 2 = (z : Int) := by rw [Int.tmod_eq_emod_of_nonneg (by omega)]; omega
        have g1 : IntKind.i64.wrap ((y : Int).tmod 2) = (z : Int) := by rw [g2]; exact wrapI _ (by omega)
        have g3 : (y : Int) % 2 = (z : Int) := by omega
        have HY := Lib.hid (And.intro hy hz)
        obtain rfl | rfl : z = 0 ∨ z = 1 := by omega
        · clear hy hz
          go_wp2_with fail
          go_roundw
          case rel =>
            obtain ⟨hx, hh1, hk1, hg2, hxb⟩ := HX.out
            refine ⟨k + 1, m ++ [h1], by go_num, by omega, by rw [List.length_append, HM.out.1]; rfl, HM.out.2.1.append (Dgs.one (by rw [b15_eq]; omega)), ?_, HO2.out, HK.out.new (Nat.le_refl _) _ _⟩
            rw [dnum_snoc, HM.out.1, dnum_getD, hx]
            have hst := HM.out.2.2
            rw [hx] at hst
            exact half_step hst (by rw [show k + 1 = k1 from hk1, HY.out.1, HY.out.2]; omega)
          case measure => simp [intOf]; omega
        · clear hy hz
          obtain ⟨h2, hh2⟩ : ∃ h2, h1 + 16384 = h2 := ⟨_, rfl⟩
          have p1 : IntKind.i64.wrap ((h1 : Int) + 16384) = (h2 : Int) := by rw [show (h1 : Int) + 16384 = h2 by omega]; exact wrapI _ (by have := HX.out.2.1; omega)
          have hrow3 := RowD.set_ HO2.out k h2
          rw [show m ++ [h1] ++ List.replicate (na - (k + 1)) 0 = m ++ h1 :: List.replicate (na - (k + 1)) 0 by rw [List.append_assoc]; rfl, set_word m _ h2 h1 k HM.out.1, show m ++ h2 :: List.replicate (na - (k + 1)) 0 = m ++ [h2] ++ List.replicate (na - (k + 1)) 0 by rw [List.append_assoc]; rfl] at hrow3
          have HO3 := Lib.hid hrow3
          have HH2 := Lib.hid hh2
          clear hrow3 hh2
          go_wp2_with fail
          go_roundw
          case rel =>
            obtain ⟨hx, hh1, hk1, hg2, hxb⟩ := HX.out
            refine ⟨k + 1, m ++ [h2], by go_num, by omega, by rw [List.length_append, HM.out.1]; rfl, HM.out.2.1.append (Dgs.one (by rw [b15_eq]; have := HH2.out; omega)), ?_, HO3.out, (HK.out.new (Nat.le_refl _) _ _).new (Nat.le_refl _) _ _⟩
            rw [dnum_snoc, HM.out.1, dnum_getD, hx]
            have hst := HM.out.2.2
            rw [hx] at hst
            exact half_step hst (by rw [show k + 1 = k1 from hk1, HY.out.1, HY.out.2, ← HH2.out]; omega)
          case measure => simp [intOf]; omega
      · have ib : decide ((k1 : Int) < na) = false := decide_eq_false (by omega)
        have ib' : decide (k1 < na) = false := decide_eq_false hn
        have hy0 : la.getD k1 0 = 0 := getD_none (by rw [HA.out.2.2.1]; exact hn)
        have HY := Lib.hid hy0
        clear hy0
        go_wp2_with fail
        go_roundw
        case rel =>
          obtain ⟨hx, hh1, hk1, hg2, hxb⟩ := HX.out
          refine ⟨k + 1, m ++ [h1], by go_num, by omega, by rw [List.length_append, HM.out.1]; rfl, HM.out.2.1.append (Dgs.one (by rw [b15_eq]; omega)), ?_, HO2.out, HK.out.new (Nat.le_refl _) _ _⟩
          rw [dnum_snoc, HM.out.1, dnum_getD, hx]
          have hst := HM.out.2.2
          rw [hx] at hst
          exact half_step hst (by rw [show k + 1 = k1 from hk1, HY.out]; omega)
        case measure => simp [intOf]; omega
    · obtain rfl : k = na := by omega
      have hrow := HO.out
      rw [Nat.sub_self, List.replicate_zero, List.append_nil] at hrow
      have ht := trim_any m (.slice (some ⟨w.heap.size, 0, none⟩) m.length m.length) wr (RowD.dgV hrow (by rw [HM.out.1]; omega)) HM.out.2.1 (by rw [HM.out.1]; omega) (RowD.tyD hrow _ _)
      have e1 : dnum m = dnum la / 2 := by
        have h := HM.out.2.2
        rw [List.take_of_length_le (by rw [HA.out.2.2.1]; exact Nat.le_refl _), getD_none (l := la) (k := k) (by rw [HA.out.2.2.1]; exact ha)] at h
        simp at h
        omega
      rw [e1, HM.out.1] at ht
      have HT := Lib.hid ht
      clear ht hrow e1
      go_wp2_with fail
      refine HT.out.mono ?_
      rintro e w6 ⟨rfl, v6, rfl, hjs⟩
      go_wp2
      go_ret
      exact ⟨v6, rfl, hjs, HK.out⟩
end Go.Proofs.Ythefkomalakfeaa.W
