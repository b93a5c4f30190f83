/-
  Natural numbers as lists of digits to the base 2^15, plain: values, cutting zeros, comparing. No condition.
-/
import Derived.Test.YthefkomalakfeaaQNp
namespace Go.Proofs.Ythefkomalakfeaa.Q

def B15 : Nat := 32768
/-- how many words are few -/
def dfewN : Nat := 100000
/-- few words -/
structure FewD (N : Nat) : Prop where
  lt : N < B15 ^ dfewN
theorem FewD.mono {N M : Nat} (h : FewD N) (hM : M ≤ N) : FewD M := ⟨Nat.lt_of_le_of_lt hM h.lt⟩
theorem b15_eq : B15 = 32768 := rfl
/-- the number with these words, the least first -/
def dnum : List Nat → Nat
  | [] => 0
  | x :: r => x + B15 * dnum r
/-- each is a word -/
def Dgs (l : List Nat) : Prop := ∀ x ∈ l, x < B15
/-- no needless words -/
def Trm (l : List Nat) : Prop := l.getLast? ≠ some 0
theorem dwds_nil : Dgs [] := fun _ h => by cases h
theorem Dgs.append {l m : List Nat} (h : Dgs l) (k : Dgs m) : Dgs (l ++ m) := fun x hx => (List.mem_append.1 hx).elim (h x) (k x)
theorem Dgs.one {x : Nat} (h : x < B15) : Dgs [x] := fun y hy => by rw [List.mem_singleton.1 hy]; exact h
theorem Dgs.take {l : List Nat} (h : Dgs l) (k : Nat) : Dgs (l.take k) := fun x hx => h x (List.mem_of_mem_take hx)
theorem Dgs.drop {l : List Nat} (h : Dgs l) (k : Nat) : Dgs (l.drop k) := fun x hx => h x (List.mem_of_mem_drop hx)
theorem Dgs.at {l : List Nat} (h : Dgs l) {k x : Nat} (hx : l[k]? = some x) : x < B15 := h x (List.mem_of_getElem? hx)
theorem dnum_append (l m : List Nat) : dnum (l ++ m) = dnum l + B15 ^ l.length * dnum m := by
  induction l with
  | nil => simp [dnum]
  | cons x r ih => rw [List.cons_append, dnum, dnum, ih, List.length_cons, Nat.pow_succ, Nat.mul_add, Nat.add_assoc, ← Nat.mul_assoc, Nat.mul_comm B15 (B15 ^ r.length)]
theorem dnum_snoc (l : List Nat) (x : Nat) : dnum (l ++ [x]) = dnum l + B15 ^ l.length * x := by rw [dnum_append, dnum, dnum, Nat.mul_zero, Nat.add_zero]
theorem dnum_zeros (k : Nat) : dnum (List.replicate k 0) = 0 := by
  induction k with
  | zero => rfl
  | succ k ih => rw [List.replicate_succ, dnum, ih, Nat.mul_zero]
theorem b15_pos (k : Nat) : 0 < B15 ^ k := Nat.pow_pos (by rw [b15_eq]; omega)
theorem dnum_lt {l : List Nat} (h : Dgs l) : dnum l < B15 ^ l.length := by
  induction l with
  | nil => simp [dnum]
  | cons x r ih =>
    have h1 := ih fun y hy => h y (List.mem_cons_of_mem _ hy)
    have h2 := h x List.mem_cons_self
    rw [dnum, List.length_cons, Nat.pow_succ, Nat.mul_comm _ B15]
    have := Nat.mul_le_mul_left B15 (show dnum r + 1 ≤ B15 ^ r.length by omega)
    rw [Nat.mul_add, Nat.mul_one] at this
    omega
/-- the words up to one place, and those from it on -/
theorem dtake_snoc {l : List Nat} {k x : Nat} (h : l[k]? = some x) : l.take (k + 1) = l.take k ++ [x] := by
  obtain ⟨h1, h2⟩ := List.getElem?_eq_some_iff.1 h
  rw [← h2, List.take_append_getElem h1]
theorem dlen_take {l : List Nat} {k : Nat} (h : k ≤ l.length) : (l.take k).length = k := by rw [List.length_take]; omega
theorem dnum_take {l : List Nat} {k x : Nat} (h : l[k]? = some x) : dnum (l.take (k + 1)) = dnum (l.take k) + B15 ^ k * x := by
  rw [dtake_snoc h, dnum_snoc, dlen_take (Nat.le_of_lt (List.getElem?_eq_some_iff.1 h).1)]
theorem ddrop_cons {l : List Nat} {k x : Nat} (h : l[k]? = some x) : l.drop k = x :: l.drop (k + 1) := by
  obtain ⟨h1, h2⟩ := List.getElem?_eq_some_iff.1 h
  rw [List.drop_eq_getElem_cons h1, h2]
theorem dnum_drop {l : List Nat} {k x : Nat} (h : l[k]? = some x) : dnum (l.drop k) = x + B15 * dnum (l.drop (k + 1)) := by rw [ddrop_cons h, dnum]
theorem dnum_split (l : List Nat) (k : Nat) (hk : k ≤ l.length) : dnum l = dnum (l.take k) + B15 ^ k * dnum (l.drop k) := by
  conv => lhs; rw [← List.take_append_drop k l]
  rw [dnum_append, dlen_take hk]

/-- zeros at the end do not count -/
theorem dnum_cut {l : List Nat} {k : Nat} (h : ∀ x ∈ l.drop k, x = 0) : dnum (l.take k) = dnum l := by
  by_cases hk : k ≤ l.length
  · have : l.drop k = List.replicate (l.drop k).length 0 := List.eq_replicate_of_mem h
    rw [dnum_split l k hk, this, dnum_zeros, Nat.mul_zero, Nat.add_zero]
  · rw [List.take_of_length_le (by omega)]
theorem dcut_nil : Trm [] := by unfold Trm; simp
theorem dcut_take {l : List Nat} {k x : Nat} (h : l[k]? = some x) (hx : x ≠ 0) : Trm (l.take (k + 1)) := by
  unfold Trm
  rw [dtake_snoc h, List.getLast?_append]
  simp [hx]
/-- the greatest word of a number that is cut counts -/
theorem dcut_ge {l : List Nat} (hc : Trm l) (h0 : l ≠ []) : B15 ^ (l.length - 1) ≤ dnum l := by
  have e := List.dropLast_concat_getLast h0
  have hl : l.getLast h0 ≠ 0 := fun h => hc (by rw [List.getLast?_eq_some_getLast h0, h])
  conv => rhs; rw [← e]
  rw [dnum_snoc, List.length_dropLast]
  have := Nat.mul_le_mul_left (B15 ^ (l.length - 1)) (show 1 ≤ l.getLast h0 by omega)
  rw [Nat.mul_one] at this
  omega
theorem dcut_len {l : List Nat} (hc : Trm l) {m : Nat} (h : dnum l < B15 ^ m) : l.length ≤ m := by
  by_cases h0 : l = []
  · rw [h0]; exact Nat.zero_le m
  · have h1 := dcut_ge hc h0
    have h2 := Nat.lt_of_le_of_lt h1 h
    have := (Nat.pow_lt_pow_iff_right (by rw [b15_eq]; omega)).1 h2
    omega
theorem dfew_len {l : List Nat} (hc : Trm l) (h : FewD (dnum l)) : l.length ≤ 100000 := by
  have := dcut_len (m := dfewN) hc h.lt
  unfold dfewN at this
  exact this
theorem dlt_pow {N m f : Nat} (h : N < B15 ^ m) (hm : m ≤ f) : N < B15 ^ f := Nat.lt_of_lt_of_le h (Nat.pow_le_pow_right (by rw [b15_eq]; omega) hm)
theorem dfew_of {N m : Nat} (h : N < B15 ^ m) (hm : m ≤ 100000) : FewD N := FewD.mk (dlt_pow h (by unfold dfewN; exact hm))
theorem dless_len {l m : List Nat} (hl : Dgs l) (hm : Trm m) (h : l.length < m.length) : dnum l < dnum m := by
  have h0 : m ≠ [] := fun e => by rw [e] at h; simp at h
  exact Nat.lt_of_lt_of_le (dnum_lt hl) (Nat.le_trans (Nat.pow_le_pow_right (by rw [b15_eq]; omega) (by omega)) (dcut_ge hm h0))
/-- two numbers that differ at a place and are equal above it -/
theorem dless_at {l m : List Nat} (hl : Dgs l) {k x y : Nat} (hx : l[k]? = some x) (hy : m[k]? = some y) (hd : l.drop (k + 1) = m.drop (k + 1)) (h : x < y) : dnum l < dnum m := by
  have lx := (List.getElem?_eq_some_iff.1 hx).1
  have ly := (List.getElem?_eq_some_iff.1 hy).1
  rw [dnum_split l (k + 1) lx, dnum_split m (k + 1) ly, hd, dnum_take hx, dnum_take hy]
  have h1 := dnum_lt (hl.take k)
  rw [dlen_take (Nat.le_of_lt lx)] at h1
  have := Nat.mul_le_mul_left (B15 ^ k) (show x + 1 ≤ y by omega)
  rw [Nat.mul_add, Nat.mul_one] at this
  omega
theorem dnum_small {l : List Nat} (hc : Trm l) (hw : Dgs l) : (dnum l < B15 ↔ l.length ≤ 1) := by
  constructor
  · intro h; exact dcut_len hc (by rw [Nat.pow_one]; exact h)
  · intro h
    have := dnum_lt hw
    exact Nat.lt_of_lt_of_le this (Nat.le_trans (Nat.pow_le_pow_right (by rw [b15_eq]; omega) h) (by rw [Nat.pow_one]; exact Nat.le_refl _))

/-- a round of a product with a word -/
theorem dtimes_round (x f c : Nat) (hx : x < B15) (hf : f < B15) (hc : c < B15) :
    x * f / B15 + (x * f % B15 + c) / B15 < B15 ∧ x * f + c = (x * f % B15 + c) % B15 + B15 * (x * f / B15 + (x * f % B15 + c) / B15) := by
  have h := Nat.mul_le_mul (show x ≤ B15 - 1 by omega) (show f ≤ B15 - 1 by omega)
  rw [b15_eq] at *
  generalize x * f = p at *
  omega
theorem dtimes_step {p c q s c' i : Nat} (P : Nat) (h : p + B15 ^ i * c = q) (e : P + c = s + B15 * c') : p + B15 ^ i * s + B15 ^ (i + 1) * c' = q + B15 ^ i * P := by
  rw [← h, Nat.pow_succ, Nat.mul_assoc, Nat.add_assoc, Nat.add_assoc, ← Nat.mul_add, ← Nat.mul_add, ← e, Nat.add_comm P c]
/-- a round of a quotient by a word -/
theorem dover_step {N n q r d x : Nat} (h : n = q * d + r) (hN : N = x + B15 * n) : N = ((r * B15 + x) / d + B15 * q) * d + (r * B15 + x) % d := by
  rw [Nat.add_mul, hN, h, Nat.mul_assoc, Nat.mul_add]
  have e := Nat.div_add_mod' (r * B15 + x) d
  rw [Nat.mul_comm B15 r]
  omega
theorem dover_lt {r x d : Nat} (hr : r < d) (hx : x < B15) : (r * B15 + x) / d < B15 := by
  rw [Nat.div_lt_iff_lt_mul (by omega)]
  have := Nat.mul_le_mul_right B15 (show r + 1 ≤ d by omega)
  rw [Nat.mul_comm B15 d]
  rw [Nat.add_mul, Nat.one_mul] at this
  omega
theorem dmod_step {n r d x : Nat} (h : n % d = r) : (x + B15 * n) % d = (r * B15 + x) % d := by
  rw [← h, Nat.add_comm x, Nat.mul_comm, Nat.add_mod (n * B15), Nat.mul_mod, ← Nat.mod_mul_mod (n % d) , Nat.add_mod (n % d * B15)]
  simp
end Go.Proofs.Ythefkomalakfeaa.Q
