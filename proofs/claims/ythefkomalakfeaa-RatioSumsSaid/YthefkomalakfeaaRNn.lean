/-
  The reference's narrow, plus, wide in rational numbers; Of, Add, Sub: what they return. Condition: the parts are ints.
-/
import Derived.Test.YthefkomalakfeaaRNm
import Derived.Test.YthefkomalakfeaaQFl
namespace Go.Proofs.Ythefkomalakfeaa.W
open Go.RowKit Go.Proofs.Ythefkomalakfeaa.Q

theorem mk_out (n : Int) (d : Nat) (hd : d ≠ 0) (neg : Bool) (hs : n ≠ 0 → (neg = true ↔ n < 0)) : out (mkRat n d) = lowR neg (n.natAbs / Nat.gcd n.natAbs d) (d / Nat.gcd n.natAbs d) := by
  obtain ⟨h1, h2, h3⟩ := mk_way n d hd
  refine out_low _ _ _ _ h1 h2 fun h0 => ?_
  rw [h3]
  exact hs (by rintro rfl; simp at h0)
theorem wide_rat (n d : Int) (h : Vld n d) (w : World) : Calls Try.prog 40 #[raV n d] w fun e w' => ∃ v', e = .returned v' ∧ BR w' v' (Rat.divInt n d) ∧ Nw w w' := by
  obtain ⟨n1, n2⟩ := vld_n h
  obtain ⟨d1, d2⟩ := vld_d h
  obtain ⟨g1, g2, _⟩ := good_div h
  refine (wide_any n d ⟨by omega, by omega⟩ ⟨by omega, by omega⟩ w).mono ?_
  rintro e w' ⟨v', rfl, hb, hk⟩
  refine ⟨v', rfl, ?_, hk⟩
  unfold BR
  rw [g1, show (Rat.divInt n d).den = d.natAbs by omega]
  exact hb
theorem narrow_rat (q : Rat) (v : Value) (w : World) (hv : BR w v q) (hF : FewD (3 * (q.num.natAbs + q.den) + 2)) :
    Calls Try.prog 38 #[v] w fun e w' => e = .returned (resV (out q)) ∧ Nw w w' := by
  have h := narrow_any _ _ _ v w hv q.den_pos hF
  have hg : Nat.gcd q.num.natAbs q.den = 1 := q.reduced
  rw [hg, Nat.div_one, Nat.div_one] at h
  rw [out_low q (decide (q.num < 0)) _ _ rfl rfl (fun _ => by simp)]
  exact h
theorem plusN_way (x y : Int) (sg : Bool) (z : Nat) (h : plusN (decide (x < 0)) x.natAbs (decide (y < 0)) y.natAbs = (sg, z)) : (x + y).natAbs = z ∧ (z ≠ 0 → (sg = true ↔ x + y < 0)) := by
  unfold plusN at h
  by_cases hx : x < 0 <;> by_cases hy : y < 0
  · simp only [hx, hy, decide_true, beq_self_eq_true, if_true, Prod.mk.injEq] at h
    obtain ⟨rfl, rfl⟩ := h
    refine ⟨by omega, fun _ => ⟨fun _ => by omega, fun _ => rfl⟩⟩
  · simp only [hx, hy, decide_true, decide_false, show (true == false) = false from rfl, Bool.false_eq_true, if_false] at h
    split at h
    · obtain ⟨rfl, rfl⟩ := Prod.mk.inj h
      exact ⟨by omega, fun _ => ⟨fun _ => by omega, fun _ => rfl⟩⟩
    · obtain ⟨rfl, rfl⟩ := Prod.mk.inj h
      exact ⟨by omega, fun _ => ⟨fun h => (by cases h), fun _ => by omega⟩⟩
  · simp only [hx, hy, decide_true, decide_false, show (false == true) = false from rfl, Bool.false_eq_true, if_false] at h
    split at h
    · obtain ⟨rfl, rfl⟩ := Prod.mk.inj h
      exact ⟨by omega, fun _ => ⟨fun h => (by cases h), fun _ => by omega⟩⟩
    · obtain ⟨rfl, rfl⟩ := Prod.mk.inj h
      exact ⟨by omega, fun _ => ⟨fun _ => by omega, fun _ => rfl⟩⟩
  · simp only [hx, hy, decide_false, beq_self_eq_true, if_true, Prod.mk.injEq] at h
    obtain ⟨rfl, rfl⟩ := h
    exact ⟨by omega, fun _ => ⟨fun h => (by cases h), fun _ => by omega⟩⟩
theorem num_times (a b : Rat) : (a.num * b.den).natAbs = a.num.natAbs * b.den ∧ decide (a.num * b.den < 0) = decide (a.num < 0) := by
  refine ⟨by rw [Int.natAbs_mul, Int.natAbs_natCast], ?_⟩
  rw [decide_eq_decide]
  exact mul_neg_pos (by have := b.den_pos; omega)
theorem plus_rat (a b : Rat) (v u : Value) (w : World) (hv : BR w v a) (hu : BR w u b) (hF : FewD (3 * (a.num.natAbs * b.den + b.num.natAbs * a.den + a.den * b.den) + 2)) :
    Calls Try.prog 39 #[v, u] w fun e w' => ∃ v', e = .returned v' ∧ BR w' v' (a + b) ∧ Nw w w' := by
  obtain ⟨sg, z, hz⟩ : ∃ sg z, plusN (decide (a.num < 0)) (a.num.natAbs * b.den) (decide (b.num < 0)) (b.num.natAbs * a.den) = (sg, z) := ⟨_, _, rfl⟩
  have h := refPlus_any _ _ _ _ _ _ v u w hv hu a.den_pos b.den_pos hF sg z hz
  obtain ⟨t1, t2⟩ := num_times a b
  obtain ⟨t3, t4⟩ := num_times b a
  rw [← t1, ← t2, ← t3, ← t4] at hz
  obtain ⟨p1, p2⟩ := plusN_way _ _ _ _ hz
  have hd : a.den * b.den ≠ 0 := Nat.ne_of_gt (Nat.mul_pos a.den_pos b.den_pos)
  obtain ⟨m1, m2, m3⟩ := mk_way (a.num * b.den + b.num * a.den) (a.den * b.den) hd
  rw [← Rat.add_def', p1] at m1 m2
  rw [← Rat.add_def'] at m3
  refine h.mono ?_
  rintro e w' ⟨v', rfl, hb, hk⟩
  refine ⟨v', rfl, ?_, hk⟩
  unfold BR
  rw [m1, m2]
  have hg : Nat.gcd z (a.den * b.den) ∣ z := Nat.gcd_dvd_left _ _
  have hs : decide ((a + b).num < 0) = (sg && decide (0 < z / Nat.gcd z (a.den * b.den))) := by
    rw [decide_eq_decide.2 m3]
    by_cases h0 : z = 0
    · subst h0
      rw [decide_eq_false (by omega)]
      simp
    · have hp : 0 < z / Nat.gcd z (a.den * b.den) := Nat.div_pos (Nat.le_of_dvd (by omega) hg) (Nat.gcd_pos_of_pos_left _ (by omega))
      rw [decide_eq_true hp, Bool.and_true, Bool.eq_iff_iff, decide_eq_true_iff]
      exact (p2 h0).symm
  rw [hs]
  exact hb
theorem few_parts {a b c d : Nat} (ha : a ≤ 4611686018427387904) (hb : b ≤ 4611686018427387904) (hc : c ≤ 4611686018427387904) (hd : d ≤ 4611686018427387904) : FewD (3 * (a * d + b * c + c * d) + 2) := by
  have h1 := Nat.mul_le_mul ha hd
  have h2 := Nat.mul_le_mul hb hc
  have h3 := Nat.mul_le_mul hc hd
  exact dfew_of (m := 10) (by rw [b15_eq]; omega) (by omega)

end Go.Proofs.Ythefkomalakfeaa.W
