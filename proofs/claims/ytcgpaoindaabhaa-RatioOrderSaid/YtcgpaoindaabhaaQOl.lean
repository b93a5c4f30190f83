/-
  The laws of an order, plain: what Cmp, Sign and the other results are to each other. No condition but that the ratios are valid.
-/
import Derived.Test.YtcgpaoindaabhaaQFl
namespace Go.Proofs.Ytcgpaoindaabhaa.W
open Go.RowKit Go.Proofs.Ytcgpaoindaabhaa.Q

/-- how two numbers compare -/
def cq (a b : Rat) : Int := sgn (a.num * (b.den : Int) - b.num * (a.den : Int))
theorem cq_cases (a b : Rat) : (a < b ∧ cq a b = -1) ∨ (a = b ∧ cq a b = 0) ∨ (b < a ∧ cq a b = 1) := by
  unfold cq sgn
  rcases Int.lt_trichotomy (a.num * (b.den : Int)) (b.num * (a.den : Int)) with h | h | h
  · exact .inl ⟨(Rat.lt_iff a b).2 h, by rw [if_pos (by omega)]⟩
  · exact .inr (.inl ⟨Rat.eq_iff_mul_eq_mul.2 h, by rw [if_neg (by omega), if_pos (by omega)]⟩)
  · exact .inr (.inr ⟨(Rat.lt_iff b a).2 h, by rw [if_neg (by omega), if_neg (by omega)]⟩)
theorem rat_asymm {a b : Rat} (h : a < b) (k : b < a) : False := Rat.lt_irrefl (Std.lt_trans h k)
theorem cq_lt {a b : Rat} (h : a < b) : cq a b = -1 := by
  rcases cq_cases a b with ⟨_, e⟩ | ⟨h2, _⟩ | ⟨h2, _⟩
  · exact e
  · subst h2; exact (Rat.lt_irrefl h).elim
  · exact (rat_asymm h h2).elim
theorem cq_gt {a b : Rat} (h : b < a) : cq a b = 1 := by
  rcases cq_cases a b with ⟨h2, _⟩ | ⟨h2, _⟩ | ⟨_, e⟩
  · exact (rat_asymm h h2).elim
  · subst h2; exact (Rat.lt_irrefl h).elim
  · exact e
theorem cq_eq (a : Rat) : cq a a = 0 := by
  rcases cq_cases a a with ⟨h2, _⟩ | ⟨_, e⟩ | ⟨h2, _⟩
  · exact (Rat.lt_irrefl h2).elim
  · exact e
  · exact (Rat.lt_irrefl h2).elim
/-- the comparison is the sign of any number that has the sign of the difference -/
theorem cq_same {a b c d : Rat} (h1 : a < b → c < d) (h2 : b < a → d < c) (h3 : a = b → c = d) : cq c d = cq a b := by
  rcases cq_cases a b with ⟨h, e⟩ | ⟨h, e⟩ | ⟨h, e⟩
  · rw [e, cq_lt (h1 h)]
  · rw [e, h3 h, cq_eq]
  · rw [e, cq_gt (h2 h)]
theorem sgn_num (q : Rat) : sgn q.num = cq q 0 := by
  unfold cq
  rw [Rat.zero_num, Rat.zero_den]
  simp
theorem cq_swap (a b : Rat) : cq b a = -cq a b := by
  rcases cq_cases a b with ⟨h, e⟩ | ⟨h, e⟩ | ⟨h, e⟩
  · rw [e, cq_gt h]; rfl
  · rw [e, h, cq_eq]; rfl
  · rw [e, cq_lt h]
theorem cq_add (a b c : Rat) : cq (a + c) (b + c) = cq a b :=
  cq_same (fun h => Rat.add_lt_add_right.2 h) (fun h => Rat.add_lt_add_right.2 h) (fun h => by rw [h])
theorem cq_sub (a b : Rat) : cq (a - b) 0 = cq a b := by
  have := cq_add (a - b) 0 b
  rw [Rat.sub_add_cancel, Rat.zero_add] at this
  exact this.symm
theorem cq_mul (a b c : Rat) : cq (a * c) (b * c) = cq a b * cq c 0 := by
  rcases cq_cases c 0 with ⟨h, e⟩ | ⟨h, e⟩ | ⟨h, e⟩
  · rw [e]
    have hn : 0 < -c := by have := Rat.neg_lt_neg h; rwa [Rat.neg_zero] at this
    have k : ∀ x y : Rat, x < y → y * c < x * c := fun x y hxy => by
      have := (Rat.mul_lt_mul_right hn).2 hxy
      rw [Rat.mul_neg, Rat.mul_neg] at this
      exact Rat.neg_lt_neg_iff.1 this
    rcases cq_cases a b with ⟨h2, e2⟩ | ⟨h2, e2⟩ | ⟨h2, e2⟩
    · rw [e2, cq_gt (k _ _ h2)]; rfl
    · rw [e2, h2, cq_eq]; rfl
    · rw [e2, cq_lt (k _ _ h2)]; rfl
  · rw [e, h, Rat.mul_zero, Rat.mul_zero, cq_eq, Int.mul_zero]
  · rw [e, Int.mul_one]
    exact cq_same (fun h2 => (Rat.mul_lt_mul_right h).2 h2) (fun h2 => (Rat.mul_lt_mul_right h).2 h2) (fun h2 => by rw [h2])
theorem cq_three (a b : Rat) : cq a b = -1 ∨ cq a b = 0 ∨ cq a b = 1 := by
  rcases cq_cases a b with ⟨_, e⟩ | ⟨_, e⟩ | ⟨_, e⟩
  · exact .inl e
  · exact .inr (.inl e)
  · exact .inr (.inr e)
theorem cq_trans (a b c : Rat) : (cq a b < 0 → cq b c < 0 → cq a c < 0) ∧ (cq a b ≤ 0 → cq b c ≤ 0 → cq a c ≤ 0) := by
  rcases cq_cases a b with ⟨h1, e1⟩ | ⟨h1, e1⟩ | ⟨h1, e1⟩ <;> rcases cq_cases b c with ⟨h2, e2⟩ | ⟨h2, e2⟩ | ⟨h2, e2⟩ <;> rw [e1, e2]
  · rw [cq_lt (Std.lt_trans h1 h2)]; omega
  · rw [← h2, e1]; omega
  · omega
  · rw [h1, e2]; omega
  · rw [h1, h2, cq_eq]; omega
  · omega
  · omega
  · omega
  · omega

section
variable {an ad bn bd cn cd : Int} (ha : Vld an ad) (hb : Vld bn bd)
include ha
theorem signR_cq : signR an ad = cq (Rat.divInt an ad) 0 := by
  rw [← sgn_num, (good_div ha).1]
  exact if_pos ha
include hb
theorem cmpR_cq : cmpR an ad bn bd = cq (Rat.divInt an ad) (Rat.divInt bn bd) := by
  obtain ⟨a1, a2, _⟩ := good_div ha
  obtain ⟨b1, b2, _⟩ := good_div hb
  unfold cq
  rw [a1, a2, b1, b2]
  exact if_pos ⟨ha, hb⟩
theorem cmp_zero : cmpR an ad bn bd = 0 ↔ an = bn ∧ ad = bd := by
  rw [cmpR_cq ha hb]
  obtain ⟨a1, a2, _⟩ := good_div ha
  obtain ⟨b1, b2, _⟩ := good_div hb
  constructor
  · intro h
    rcases cq_cases (Rat.divInt an ad) (Rat.divInt bn bd) with ⟨_, e⟩ | ⟨e, _⟩ | ⟨_, e⟩
    · omega
    · exact ⟨by rw [← a1, e, b1], by rw [← a2, e, b2]⟩
    · omega
  · rintro ⟨rfl, rfl⟩
    exact cq_eq _
theorem order_sub (h : (subR an ad bn bd).2.2 = 0) : signR (subR an ad bn bd).1 (subR an ad bn bd).2.1 = cmpR an ad bn bd := by
  have e : subR an ad bn bd = out (Rat.divInt an ad - Rat.divInt bn bd) := by unfold subR; rw [good_rat ha, good_rat hb]; rfl
  rw [e] at h ⊢
  obtain ⟨h1, h2⟩ := out_ok h
  rw [h2, cmpR_cq ha hb, ← cq_sub, ← sgn_num]
  exact if_pos (good_num h1)
variable (hc : Vld cn cd)
include hc
theorem order_add (h : (addR an ad cn cd).2.2 = 0) (k : (addR bn bd cn cd).2.2 = 0) : cmpR (addR an ad cn cd).1 (addR an ad cn cd).2.1 (addR bn bd cn cd).1 (addR bn bd cn cd).2.1 = cmpR an ad bn bd := by
  rw [addR_vals ha hc] at h ⊢
  rw [addR_vals hb hc] at k ⊢
  obtain ⟨h1, h2⟩ := out_ok h
  obtain ⟨k1, k2⟩ := out_ok k
  rw [h2, k2, cmpR_cq ha hb, ← cq_add _ _ (Rat.divInt cn cd)]
  exact if_pos ⟨good_num h1, good_num k1⟩
theorem order_mul (h : (mulR an ad cn cd).2.2 = 0) (k : (mulR bn bd cn cd).2.2 = 0) : cmpR (mulR an ad cn cd).1 (mulR an ad cn cd).2.1 (mulR bn bd cn cd).1 (mulR bn bd cn cd).2.1 = cmpR an ad bn bd * signR cn cd := by
  rw [mulR_vals ha hc] at h ⊢
  rw [mulR_vals hb hc] at k ⊢
  obtain ⟨h1, h2⟩ := out_ok h
  obtain ⟨k1, k2⟩ := out_ok k
  rw [h2, k2, cmpR_cq ha hb, signR_cq hc, ← cq_mul]
  exact if_pos ⟨good_num h1, good_num k1⟩
end
end Go.Proofs.Ytcgpaoindaabhaa.W
