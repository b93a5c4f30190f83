/-
  The laws of a field, plain: what the results of ratio's functions are to each other. No condition but that the ratios are valid.
-/
import Derived.Test.YthefkomalakfeaaQAw
namespace Go.Proofs.Ythefkomalakfeaa.W
open Go.RowKit Go.Proofs.Ythefkomalakfeaa.Q

theorem out_ok {q : Rat} (h : (out q).2.2 = 0) : Fits q ∧ out q = (q.num, (q.den : Int), 0) := by
  unfold out at h ⊢
  by_cases hf : Fits q
  · rw [if_pos hf]; exact ⟨hf, rfl⟩
  · rw [if_neg hf] at h; cases h
theorem out_val {q : Rat} (h : (out q).2.2 = 0) : val (out q).1 (out q).2.1 = some q := by
  obtain ⟨h1, h2⟩ := out_ok h
  rw [h2]
  exact val_num h1
theorem i64_0 : I64 0 := ⟨by omega, by omega⟩
theorem out_i64 (q : Rat) : I64 (out q).1 ∧ I64 (out q).2.1 := by
  unfold out
  by_cases hf : Fits q
  · rw [if_pos hf]
    obtain ⟨h1, h2⟩ := (fits_iff q).1 hf
    exact ⟨⟨by simp only []; omega, by simp only []; omega⟩, ⟨by simp only []; omega, by simp only []; omega⟩⟩
  · rw [if_neg hf]; exact ⟨i64_0, i64_0⟩
theorem both_i64 (f : Rat → Rat → Rat) (a b : Option Rat) : I64 (both f a b).1 ∧ I64 (both f a b).2.1 := by
  cases a
  · exact ⟨i64_0, i64_0⟩
  · cases b
    · exact ⟨i64_0, i64_0⟩
    · exact out_i64 _
theorem addR_i64 (a b c d : Int) : I64 (addR a b c d).1 ∧ I64 (addR a b c d).2.1 := both_i64 _ _ _
theorem mulR_i64 (a b c d : Int) : I64 (mulR a b c d).1 ∧ I64 (mulR a b c d).2.1 := both_i64 _ _ _

theorem out_div {an ad : Int} (h : Vld an ad) : out (Rat.divInt an ad) = (an, ad, 0) := by
  obtain ⟨h1, h2, h3⟩ := good_div h
  unfold out
  rw [if_pos h3, h1, h2]

section
variable {an ad bn bd cn cd : Int} (ha : Vld an ad) (hb : Vld bn bd) (hc : Vld cn cd)
include ha hb
theorem addR_vals : addR an ad bn bd = out (Rat.divInt an ad + Rat.divInt bn bd) := by
  unfold addR; rw [good_rat ha, good_rat hb]; rfl
theorem mulR_vals : mulR an ad bn bd = out (Rat.divInt an ad * Rat.divInt bn bd) := by
  unfold mulR; rw [good_rat ha, good_rat hb]; rfl
theorem addR_comm : addR bn bd an ad = addR an ad bn bd := by rw [addR_vals ha hb, addR_vals hb ha, Rat.add_comm]
theorem mulR_comm : mulR bn bd an ad = mulR an ad bn bd := by rw [mulR_vals ha hb, mulR_vals hb ha, Rat.mul_comm]
theorem addR_ok (h : (addR an ad bn bd).2.2 = 0) : val (addR an ad bn bd).1 (addR an ad bn bd).2.1 = some (Rat.divInt an ad + Rat.divInt bn bd) := by
  rw [addR_vals ha hb] at h ⊢
  exact out_val h
theorem mulR_ok (h : (mulR an ad bn bd).2.2 = 0) : val (mulR an ad bn bd).1 (mulR an ad bn bd).2.1 = some (Rat.divInt an ad * Rat.divInt bn bd) := by
  rw [mulR_vals ha hb] at h ⊢
  exact out_val h
theorem field_sub (h : (addR an ad bn bd).2.2 = 0) : subR (addR an ad bn bd).1 (addR an ad bn bd).2.1 bn bd = (an, ad, 0) := by
  unfold subR
  rw [addR_ok ha hb h, good_rat hb]
  show out (_ - _) = _
  rw [Rat.add_sub_cancel]
  exact out_div ha
theorem field_div (h : (mulR an ad bn bd).2.2 = 0) (h0 : bn ≠ 0) : divR (mulR an ad bn bd).1 (mulR an ad bn bd).2.1 bn bd = (an, ad, 0) := by
  unfold divR
  rw [if_neg h0, mulR_ok ha hb h, good_rat hb]
  show out (_ / _) = _
  have hne : Rat.divInt bn bd ≠ 0 := fun e => h0 (by rw [← (good_div hb).1, e]; rfl)
  rw [Rat.mul_div_cancel hne]
  exact out_div ha
include hc
theorem field_add (h : (addR an ad bn bd).2.2 = 0) (k : (addR bn bd cn cd).2.2 = 0) : addR an ad (addR bn bd cn cd).1 (addR bn bd cn cd).2.1 = addR (addR an ad bn bd).1 (addR an ad bn bd).2.1 cn cd := by
  unfold addR at *
  have h1 := addR_ok ha hb h
  have h2 := addR_ok hb hc k
  unfold addR at h1 h2
  rw [h1, h2, good_rat ha, good_rat hc]
  show out (_ + _) = out (_ + _)
  rw [Rat.add_assoc]
theorem field_mul (h : (mulR an ad bn bd).2.2 = 0) (k : (mulR bn bd cn cd).2.2 = 0) : mulR an ad (mulR bn bd cn cd).1 (mulR bn bd cn cd).2.1 = mulR (mulR an ad bn bd).1 (mulR an ad bn bd).2.1 cn cd := by
  have h1 := mulR_ok ha hb h
  have h2 := mulR_ok hb hc k
  unfold mulR at *
  rw [h1, h2, good_rat ha, good_rat hc]
  show out (_ * _) = out (_ * _)
  rw [Rat.mul_assoc]
theorem field_dist (h : (addR an ad bn bd).2.2 = 0) (k : (mulR an ad cn cd).2.2 = 0) (r : (mulR bn bd cn cd).2.2 = 0) :
    addR (mulR an ad cn cd).1 (mulR an ad cn cd).2.1 (mulR bn bd cn cd).1 (mulR bn bd cn cd).2.1 = mulR (addR an ad bn bd).1 (addR an ad bn bd).2.1 cn cd := by
  have h1 := addR_ok ha hb h
  have h2 := mulR_ok ha hc k
  have h3 := mulR_ok hb hc r
  unfold addR mulR at *
  rw [h1, h2, h3, good_rat hc]
  show out (_ + _) = out (_ * _)
  rw [Rat.add_mul]
end

/-- ratios in variables of their own -/
def St (w : World) (L : List (Nat × Int × Int)) : Prop := ∀ x ∈ L, Blk w x.1 23 #[.int .i64 x.2.1, .int .i64 x.2.2]
theorem St.nw {w w' : World} {L : List (Nat × Int × Int)} (h : St w L) (hk : Nw w w') : St w' L := fun x hx => (h x hx).kp hk id
theorem St.cons {w : World} {L : List (Nat × Int × Int)} (h : St w L) (n d : Int) : St (w.alloc (.cells #[.int .i64 n, .int .i64 d] 23)) ((w.heap.size, n, d) :: L) := fun x hx => by
  rcases List.mem_cons.1 hx with h1 | h1
  · rw [h1]; exact Blk.new _ _ _
  · exact (h x h1).alloc _
theorem St.get {w : World} {L : List (Nat × Int × Int)} (h : St w L) (g : Nat) (n d : Int) (hx : (g, n, d) ∈ L) : w.cell? ⟨g, 0, none⟩ = some (.int .i64 n) ∧ w.cell? ⟨g, 1, none⟩ = some (.int .i64 d) := by
  obtain ⟨a, b, _, _⟩ := (h _ hx).two
  exact ⟨a, b⟩
theorem st_three (w : World) (an ad bn bd cn cd : Int) : St (((w.alloc (.cells #[.int .i64 an, .int .i64 ad] 23)).alloc (.cells #[.int .i64 bn, .int .i64 bd] 23)).alloc (.cells #[.int .i64 cn, .int .i64 cd] 23)) [(w.heap.size, an, ad), (w.heap.size + 1, bn, bd), (w.heap.size + 1 + 1, cn, cd)] := fun x hx => by
  obtain ⟨h1, h2, h3⟩ := blk3 w 23 #[.int .i64 an, .int .i64 ad] #[.int .i64 bn, .int .i64 bd] #[.int .i64 cn, .int .i64 cd]
  simp at hx
  rcases hx with rfl | rfl | rfl
  · exact h1
  · exact h2
  · exact h3

set_option maxHeartbeats 1600000 in
theorem same_any (n d e : Int) (w : World) : Calls Try.prog 35 #[raV n d, .int .i64 e, raV n d, .int .i64 e] w fun x w' => x = .returned (.bool true) ∧ Nw w w' := by
  by_cases h : e = 0
  · subst h
    go_enter Try.func35, Try.ntmps35
    go_wp2
    go_ret
    exact ⟨by simp, (nw_alloc _ _).alloc _⟩
  · have e1 : (e != 0) = true := by simp [h]
    go_enter Try.func35, Try.ntmps35
    go_wp2
    go_ret
    exact ⟨rfl, (nw_alloc _ _).alloc _⟩
end Go.Proofs.Ythefkomalakfeaa.W
