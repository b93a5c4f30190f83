/-
  Natural numbers as lists of words, plain: values, cutting zeros, comparing, and the round of each operation. No condition.
-/
import Derived.Test.YthefkomalakfeaaQPl
namespace Go.Proofs.Ythefkomalakfeaa.Q

def B64 : Nat := 18446744073709551616
/-- how many words are few -/
def fewN : Nat := 100000
/-- few words -/
structure Few (N : Nat) : Prop where
  lt : N < B64 ^ fewN
theorem Few.mono {N M : Nat} (h : Few N) (hM : M ≤ N) : Few M := ⟨Nat.lt_of_le_of_lt hM h.lt⟩
theorem b64_eq : B64 = 18446744073709551616 := rfl
/-- the number with these words, the least first -/
def num : List Nat → Nat
  | [] => 0
  | x :: r => x + B64 * num r
/-- each is a word -/
def Wds (l : List Nat) : Prop := ∀ x ∈ l, x < B64
/-- no needless words -/
def Cut (l : List Nat) : Prop := l.getLast? ≠ some 0
theorem wds_nil : Wds [] := fun _ h => by cases h
theorem Wds.append {l m : List Nat} (h : Wds l) (k : Wds m) : Wds (l ++ m) := fun x hx => (List.mem_append.1 hx).elim (h x) (k x)
theorem Wds.one {x : Nat} (h : x < B64) : Wds [x] := fun y hy => by rw [List.mem_singleton.1 hy]; exact h
theorem Wds.take {l : List Nat} (h : Wds l) (k : Nat) : Wds (l.take k) := fun x hx => h x (List.mem_of_mem_take hx)
theorem Wds.drop {l : List Nat} (h : Wds l) (k : Nat) : Wds (l.drop k) := fun x hx => h x (List.mem_of_mem_drop hx)
theorem Wds.at {l : List Nat} (h : Wds l) {k x : Nat} (hx : l[k]? = some x) : x < B64 := h x (List.mem_of_getElem? hx)
theorem num_append (l m : List Nat) : num (l ++ m) = num l + B64 ^ l.length * num m := by
  induction l with
  | nil => simp [num]
  | cons x r ih => rw [List.cons_append, num, num, ih, List.length_cons, Nat.pow_succ, Nat.mul_add, Nat.add_assoc, ← Nat.mul_assoc, Nat.mul_comm B64 (B64 ^ r.length)]
theorem num_snoc (l : List Nat) (x : Nat) : num (l ++ [x]) = num l + B64 ^ l.length * x := by rw [num_append, num, num, Nat.mul_zero, Nat.add_zero]
theorem num_zeros (k : Nat) : num (List.replicate k 0) = 0 := by
  induction k with
  | zero => rfl
  | succ k ih => rw [List.replicate_succ, num, ih, Nat.mul_zero]
theorem b64_pos (k : Nat) : 0 < B64 ^ k := Nat.pow_pos (by rw [b64_eq]; omega)
theorem num_lt {l : List Nat} (h : Wds l) : num l < B64 ^ l.length := by
  induction l with
  | nil => simp [num]
  | cons x r ih =>
    have h1 := ih fun y hy => h y (List.mem_cons_of_mem _ hy)
    have h2 := h x List.mem_cons_self
    rw [num, List.length_cons, Nat.pow_succ, Nat.mul_comm _ B64]
    have := Nat.mul_le_mul_left B64 (show num r + 1 ≤ B64 ^ r.length by omega)
    rw [Nat.mul_add, Nat.mul_one] at this
    omega
/-- the words up to one place, and those from it on -/
theorem take_snoc {l : List Nat} {k x : Nat} (h : l[k]? = some x) : l.take (k + 1) = l.take k ++ [x] := by
  obtain ⟨h1, h2⟩ := List.getElem?_eq_some_iff.1 h
  rw [← h2, List.take_append_getElem h1]
theorem len_take {l : List Nat} {k : Nat} (h : k ≤ l.length) : (l.take k).length = k := by rw [List.length_take]; omega
theorem num_take {l : List Nat} {k x : Nat} (h : l[k]? = some x) : num (l.take (k + 1)) = num (l.take k) + B64 ^ k * x := by
  rw [take_snoc h, num_snoc, len_take (Nat.le_of_lt (List.getElem?_eq_some_iff.1 h).1)]
theorem drop_cons {l : List Nat} {k x : Nat} (h : l[k]? = some x) : l.drop k = x :: l.drop (k + 1) := by
  obtain ⟨h1, h2⟩ := List.getElem?_eq_some_iff.1 h
  rw [List.drop_eq_getElem_cons h1, h2]
theorem num_drop {l : List Nat} {k x : Nat} (h : l[k]? = some x) : num (l.drop k) = x + B64 * num (l.drop (k + 1)) := by rw [drop_cons h, num]
theorem num_split (l : List Nat) (k : Nat) (hk : k ≤ l.length) : num l = num (l.take k) + B64 ^ k * num (l.drop k) := by
  conv => lhs; rw [← List.take_append_drop k l]
  rw [num_append, len_take hk]

/-- zeros at the end do not count -/
theorem num_cut {l : List Nat} {k : Nat} (h : ∀ x ∈ l.drop k, x = 0) : num (l.take k) = num l := by
  by_cases hk : k ≤ l.length
  · have : l.drop k = List.replicate (l.drop k).length 0 := List.eq_replicate_of_mem h
    rw [num_split l k hk, this, num_zeros, Nat.mul_zero, Nat.add_zero]
  · rw [List.take_of_length_le (by omega)]
theorem cut_nil : Cut [] := by unfold Cut; simp
theorem cut_take {l : List Nat} {k x : Nat} (h : l[k]? = some x) (hx : x ≠ 0) : Cut (l.take (k + 1)) := by
  unfold Cut
  rw [take_snoc h, List.getLast?_append]
  simp [hx]
/-- the greatest word of a number that is cut counts -/
theorem cut_ge {l : List Nat} (hc : Cut l) (h0 : l ≠ []) : B64 ^ (l.length - 1) ≤ num l := by
  have e := List.dropLast_concat_getLast h0
  have hl : l.getLast h0 ≠ 0 := fun h => hc (by rw [List.getLast?_eq_some_getLast h0, h])
  conv => rhs; rw [← e]
  rw [num_snoc, List.length_dropLast]
  have := Nat.mul_le_mul_left (B64 ^ (l.length - 1)) (show 1 ≤ l.getLast h0 by omega)
  rw [Nat.mul_one] at this
  omega
theorem cut_len {l : List Nat} (hc : Cut l) {m : Nat} (h : num l < B64 ^ m) : l.length ≤ m := by
  by_cases h0 : l = []
  · rw [h0]; exact Nat.zero_le m
  · have h1 := cut_ge hc h0
    have h2 := Nat.lt_of_le_of_lt h1 h
    have := (Nat.pow_lt_pow_iff_right (by rw [b64_eq]; omega)).1 h2
    omega
theorem few_len {l : List Nat} (hc : Cut l) (h : Few (num l)) : l.length ≤ 100000 := by
  have := cut_len (m := fewN) hc h.lt
  unfold fewN at this
  exact this
theorem lt_pow {N m f : Nat} (h : N < B64 ^ m) (hm : m ≤ f) : N < B64 ^ f := Nat.lt_of_lt_of_le h (Nat.pow_le_pow_right (by rw [b64_eq]; omega) hm)
theorem few_of {N m : Nat} (h : N < B64 ^ m) (hm : m ≤ 100000) : Few N := Few.mk (lt_pow h (by unfold fewN; exact hm))
theorem less_len {l m : List Nat} (hl : Wds l) (hm : Cut m) (h : l.length < m.length) : num l < num m := by
  have h0 : m ≠ [] := fun e => by rw [e] at h; simp at h
  exact Nat.lt_of_lt_of_le (num_lt hl) (Nat.le_trans (Nat.pow_le_pow_right (by rw [b64_eq]; omega) (by omega)) (cut_ge hm h0))
/-- two numbers that differ at a place and are equal above it -/
theorem less_at {l m : List Nat} (hl : Wds l) {k x y : Nat} (hx : l[k]? = some x) (hy : m[k]? = some y) (hd : l.drop (k + 1) = m.drop (k + 1)) (h : x < y) : num l < num m := by
  have lx := (List.getElem?_eq_some_iff.1 hx).1
  have ly := (List.getElem?_eq_some_iff.1 hy).1
  rw [num_split l (k + 1) lx, num_split m (k + 1) ly, hd, num_take hx, num_take hy]
  have h1 := num_lt (hl.take k)
  rw [len_take (Nat.le_of_lt lx)] at h1
  have := Nat.mul_le_mul_left (B64 ^ k) (show x + 1 ≤ y by omega)
  rw [Nat.mul_add, Nat.mul_one] at this
  omega
theorem num_small {l : List Nat} (hc : Cut l) (hw : Wds l) : (num l < B64 ↔ l.length ≤ 1) := by
  constructor
  · intro h; exact cut_len hc (by rw [Nat.pow_one]; exact h)
  · intro h
    have := num_lt hw
    exact Nat.lt_of_lt_of_le this (Nat.le_trans (Nat.pow_le_pow_right (by rw [b64_eq]; omega) h) (by rw [Nat.pow_one]; exact Nat.le_refl _))

/-- a round of a product with a word -/
theorem times_round (x f c : Nat) (hx : x < B64) (hf : f < B64) (hc : c < B64) :
    x * f / B64 + (x * f % B64 + c) / B64 < B64 ∧ x * f + c = (x * f % B64 + c) % B64 + B64 * (x * f / B64 + (x * f % B64 + c) / B64) := by
  have h := Nat.mul_le_mul (show x ≤ B64 - 1 by omega) (show f ≤ B64 - 1 by omega)
  rw [b64_eq] at *
  generalize x * f = p at *
  omega
theorem times_step {p c q s c' i : Nat} (P : Nat) (h : p + B64 ^ i * c = q) (e : P + c = s + B64 * c') : p + B64 ^ i * s + B64 ^ (i + 1) * c' = q + B64 ^ i * P := by
  rw [← h, Nat.pow_succ, Nat.mul_assoc, Nat.add_assoc, Nat.add_assoc, ← Nat.mul_add, ← Nat.mul_add, ← e, Nat.add_comm P c]
/-- a round of a quotient by a word -/
theorem over_step {N n q r d x : Nat} (h : n = q * d + r) (hN : N = x + B64 * n) : N = ((r * B64 + x) / d + B64 * q) * d + (r * B64 + x) % d := by
  rw [Nat.add_mul, hN, h, Nat.mul_assoc, Nat.mul_add]
  have e := Nat.div_add_mod' (r * B64 + x) d
  rw [Nat.mul_comm B64 r]
  omega
theorem over_lt {r x d : Nat} (hr : r < d) (hx : x < B64) : (r * B64 + x) / d < B64 := by
  rw [Nat.div_lt_iff_lt_mul (by omega)]
  have := Nat.mul_le_mul_right B64 (show r + 1 ≤ d by omega)
  rw [Nat.mul_comm B64 d]
  rw [Nat.add_mul, Nat.one_mul] at this
  omega
theorem mod_step {n r d x : Nat} (h : n % d = r) : (x + B64 * n) % d = (r * B64 + x) % d := by
  rw [← h, Nat.add_comm x, Nat.mul_comm, Nat.add_mod (n * B64), Nat.mul_mod, ← Nat.mod_mul_mod (n % d) , Nat.add_mod (n % d * B64)]
  simp
end Go.Proofs.Ythefkomalakfeaa.Q
