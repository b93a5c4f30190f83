/-
  Plain arithmetic of the encoding of integers, without any program: how many bytes an integer takes, its bytes, and that they decode to it. No condition.
-/
import Derived.RowKit3
namespace Go.Proofs.Ytfphdpcffjpbjaa.Pl

/-- n fits into k bytes of two's complement (k at least 1). -/
def fit (n : Int) (k : Nat) : Bool := n / 2 ^ (8 * k - 1) == 0 || n / 2 ^ (8 * k - 1) == -1

def szFrom (n : Int) : Nat → Nat → Nat
  | 0, k => k
  | f + 1, k => if fit n k = true then k else szFrom n f (k + 1)

/-- the number of bytes behind the first one -/
def sz (n : Int) : Nat := if n = 0 then 0 else szFrom n 7 1

/-- k bytes, the most significant one first -/
def be : Nat → Int → List Int
  | 0, _ => []
  | k + 1, n => be k (n / 256) ++ [n % 256]

def enc (n : Int) : List Int := (sz n : Int) :: be (sz n) n

def I64 (n : Int) : Prop := -9223372036854775808 ≤ n ∧ n ≤ 9223372036854775807

theorem be_length : ∀ (k : Nat) (n : Int), (be k n).length = k
  | 0, _ => rfl
  | k + 1, n => by simp [be, be_length k]

/-- a list of bytes -/
def By (l : List Int) : Prop := ∀ x ∈ l, 0 ≤ x ∧ x < 256

theorem By.nil : By [] := fun _ h => by cases h
theorem By.append {a b : List Int} (ha : By a) (hb : By b) : By (a ++ b) := fun x h => by
  rcases List.mem_append.1 h with h | h
  · exact ha x h
  · exact hb x h
theorem By.left {a b : List Int} (h : By (a ++ b)) : By a := fun x hx => h x (List.mem_append_left _ hx)
theorem By.right {a b : List Int} (h : By (a ++ b)) : By b := fun x hx => h x (List.mem_append_right _ hx)
theorem By.cons {x : Int} {l : List Int} (h : 0 ≤ x ∧ x < 256) (hl : By l) : By (x :: l) := fun y hy => by
  rcases List.mem_cons.1 hy with rfl | hy
  · exact h
  · exact hl y hy

theorem be_by : ∀ (k : Nat) (n : Int), By (be k n)
  | 0, _ => By.nil
  | k + 1, n => (be_by k (n / 256)).append (By.cons (by omega) By.nil)

theorem szFrom_le (n : Int) : ∀ (f k : Nat), szFrom n f k ≤ k + f
  | 0, k => Nat.le_refl _
  | f + 1, k => by
    unfold szFrom
    split
    · omega
    · have := szFrom_le n f (k + 1); omega
theorem szFrom_ge (n : Int) : ∀ (f k : Nat), k ≤ szFrom n f k
  | 0, k => Nat.le_refl _
  | f + 1, k => by
    unfold szFrom
    split
    · omega
    · have := szFrom_ge n f (k + 1); omega

theorem sz_le (n : Int) : sz n ≤ 8 := by
  unfold sz
  split
  · omega
  · exact szFrom_le n 7 1

theorem sz_zero : sz 0 = 0 := rfl
theorem sz_pos {n : Int} (h : n ≠ 0) : 1 ≤ sz n := by
  unfold sz
  rw [if_neg h]
  exact szFrom_ge n 7 1

theorem enc_by (n : Int) : By (enc n) := By.cons (by have := sz_le n; omega) (be_by _ _)
theorem enc_length (n : Int) : (enc n).length = sz n + 1 := by simp [enc, be_length]
theorem enc_length_le (n : Int) : (enc n).length ≤ 9 := by have := enc_length n; have := sz_le n; omega

theorem fit_eight {n : Int} (h : I64 n) : fit n 8 = true := by
  obtain ⟨h1, h2⟩ := h
  unfold fit
  simp
  omega

theorem szFrom_fit {n : Int} (h : I64 n) : ∀ (f k : Nat), k + f = 8 → fit n (szFrom n f k) = true
  | 0, k, hk => by obtain rfl : k = 8 := by omega
                   exact fit_eight h
  | f + 1, k, hk => by
    unfold szFrom
    split
    · assumption
    · exact szFrom_fit h f (k + 1) (by omega)

theorem szFrom_not {n : Int} : ∀ (f k j : Nat), k ≤ j → j < szFrom n f k → fit n j = false
  | 0, k, j, h1, h2 => by simp only [szFrom] at h2; omega
  | f + 1, k, j, h1, h2 => by
    unfold szFrom at h2
    split at h2
    · omega
    · rename_i hf
      rcases Nat.eq_or_lt_of_le h1 with rfl | h1
      · simpa using hf
      · exact szFrom_not f (k + 1) j h1 h2

/-- what sz is: the least number of bytes -/
theorem sz_fit {n : Int} (h : I64 n) (h0 : n ≠ 0) : fit n (sz n) = true := by
  unfold sz
  rw [if_neg h0]
  exact szFrom_fit h 7 1 rfl
theorem sz_not {n : Int} (j : Nat) (h1 : 1 ≤ j) (h2 : j < sz n) : fit n j = false := by
  unfold sz at h2
  split at h2
  · omega
  · exact szFrom_not 7 1 j h1 h2

theorem szFrom_eq {n : Int} : ∀ (f k m : Nat), k ≤ m → m ≤ k + f → (m = k + f ∨ fit n m = true) → (∀ j, k ≤ j → j < m → fit n j = false) → szFrom n f k = m
  | 0, k, m, h1, h2, _, _ => by simp only [szFrom]; omega
  | f + 1, k, m, h1, h2, h3, h4 => by
    unfold szFrom
    split
    · rename_i hf
      rcases Nat.eq_or_lt_of_le h1 with h | h
      · exact h
      · rw [h4 k (Nat.le_refl _) h] at hf; cases hf
    · rename_i hf
      rcases Nat.eq_or_lt_of_le h1 with h | h
      · subst h
        rcases h3 with h3 | h3
        · omega
        · exact absurd h3 hf
      · exact szFrom_eq f (k + 1) m h (by omega) (h3.imp (fun e => by omega) id) (fun j hj hjm => h4 j (by omega) hjm)

/-- the value of bytes that come behind n -/
def dec (n : Int) : List Int → Int
  | [] => n
  | x :: l => dec (n * 256 + x) l

theorem dec_append (n : Int) : ∀ (a b : List Int), dec n (a ++ b) = dec (dec n a) b := by
  intro a
  induction a generalizing n with
  | nil => intro b; rfl
  | cons x a ih => intro b; exact ih _ b

/-- a byte as a signed number -/
def sgn (x : Int) : Int := if x < 128 then x else x - 256

/-- the value of a whole encoding's bytes -/
def val : List Int → Int
  | [] => 0
  | x :: l => dec (sgn x) l

theorem val_snoc (a : List Int) (x : Int) (h : a ≠ []) : val (a ++ [x]) = val a * 256 + x := by
  cases a with
  | nil => exact absurd rfl h
  | cons y a => simp [val, dec_append, dec]

theorem pow_pred (k : Nat) (hk : 1 ≤ k) : (2 : Int) ^ (8 * (k + 1) - 1) = 256 * 2 ^ (8 * k - 1) := by
  have : 8 * (k + 1) - 1 = 8 + (8 * k - 1) := by omega
  rw [this, Int.pow_add]
  rfl

theorem fit_div {n : Int} {k : Nat} (hk : 1 ≤ k) : fit (n / 256) k = fit n (k + 1) := by
  unfold fit
  rw [pow_pred k hk, Int.ediv_ediv_of_nonneg (by omega)]

theorem be_val : ∀ (k : Nat) (n : Int), fit n (k + 1) = true → val (be (k + 1) n) = n
  | 0, n, h => by
    simp only [fit, Bool.or_eq_true, beq_iff_eq] at h
    simp only [be, val, dec, sgn, List.nil_append]
    have : (2 : Int) ^ (8 * (0 + 1) - 1) = 128 := rfl
    rw [this] at h
    split <;> omega
  | k + 1, n, h => by
    have hne : be (k + 1) (n / 256) ≠ [] := by
      intro e
      have := congrArg List.length e
      rw [be_length] at this
      simp at this
    rw [be, val_snoc _ _ hne, be_val k (n / 256) (by rw [fit_div (by omega)]; exact h)]
    omega

theorem val_enc {n : Int} (h : I64 n) : val (be (sz n) n) = n := by
  by_cases h0 : n = 0
  · subst h0; rfl
  · have hp := sz_pos h0
    obtain ⟨k, hk⟩ : ∃ k, sz n = k + 1 := ⟨sz n - 1, by omega⟩
    rw [hk]
    exact be_val k n (by rw [← hk]; exact sz_fit h h0)

theorem be_val_rev : ∀ (r : List Int), By r.reverse → be r.length (val r.reverse) = r.reverse := by
  intro r
  induction r with
  | nil => intro _; rfl
  | cons x r ih =>
    intro hb
    rw [List.reverse_cons] at hb ⊢
    have hx := hb.right x (by simp)
    by_cases ha : r = []
    · subst ha
      simp only [List.reverse_nil, List.nil_append, List.length_cons, List.length_nil, be, val, dec, sgn]
      congr 1
      split <;> omega
    · have hn : r.reverse ≠ [] := by simpa using ha
      rw [List.length_cons, be, val_snoc _ _ hn]
      have e1 : (val r.reverse * 256 + x) / 256 = val r.reverse := by omega
      have e2 : (val r.reverse * 256 + x) % 256 = x := by omega
      rw [e1, e2, ih hb.left]

theorem be_val_back (l : List Int) (h : By l) : be l.length (val l) = l := by
  have := be_val_rev l.reverse (by simpa using h)
  simpa using this

theorem be_inj {k : Nat} {n m : Int} (hn : fit n k = true) (hm : fit m k = true) (hk : 1 ≤ k) (h : be k n = be k m) : n = m := by
  obtain ⟨j, rfl⟩ : ∃ j, k = j + 1 := ⟨k - 1, by omega⟩
  rw [← be_val j n hn, ← be_val j m hm, h]

theorem szFrom_stay {n : Int} {k : Nat} (h : fit n k = true) : szFrom n (8 - k) k = k := by
  cases hf : 8 - k with
  | zero => rfl
  | succ f => unfold szFrom; rw [if_pos h]
theorem szFrom_step {n : Int} {k : Nat} (hI : I64 n) (hk : k ≤ 8) (h : fit n k = false) : k < 8 ∧ szFrom n (8 - k) k = szFrom n (8 - (k + 1)) (k + 1) := by
  have hlt : k < 8 := by
    rcases Nat.eq_or_lt_of_le hk with rfl | h'
    · rw [fit_eight hI] at h; cases h
    · exact h'
  refine ⟨hlt, ?_⟩
  obtain ⟨f, hf⟩ : ∃ f, 8 - k = f + 1 := ⟨8 - k - 1, by omega⟩
  have hf' : 8 - (k + 1) = f := by omega
  rw [hf, hf']
  conv => lhs; unfold szFrom
  rw [if_neg (by rw [h]; simp)]

theorem stop0 {n : Int} {k : Nat} (h : n / 2 ^ (8 * k - 1) = 0) : szFrom n (8 - k) k = k := szFrom_stay (by simp [fit, h])
theorem stop1 {n : Int} {k : Nat} (h : (n / 2 ^ (8 * k - 1) != 0) = false ∨ (n / 2 ^ (8 * k - 1) != -1) = false) : szFrom n (8 - k) k = k :=
  szFrom_stay (by rcases h with h | h <;> simp [fit] at h ⊢ <;> simp [h])
theorem step1 {n : Int} {k : Nat} (hI : I64 n) (hk : k ≤ 8) (h : (n / 2 ^ (8 * k - 1) != 0) = true ∧ (n / 2 ^ (8 * k - 1) != -1) = true) : k < 8 ∧ szFrom n (8 - k) k = szFrom n (8 - (k + 1)) (k + 1) :=
  szFrom_step hI hk (by obtain ⟨h1, h2⟩ := h; simp [fit] at h1 h2 ⊢; exact ⟨h1, h2⟩)

theorem be_step {n : Int} {m k : Nat} (hk : 1 ≤ k) (hm : k ≤ m) : be (m - (k - 1)) (n / 2 ^ (8 * (k - 1))) = be (m - k) (n / 2 ^ (8 * k)) ++ [n / 2 ^ (8 * k - 8) % 256] := by
  have e1 : m - (k - 1) = (m - k) + 1 := by omega
  have e2 : 8 * (k - 1) = 8 * k - 8 := by omega
  have e3 : (2 : Int) ^ (8 * k) = 2 ^ (8 * k - 8) * 256 := by
    have : 8 * k = (8 * k - 8) + 8 := by omega
    conv => lhs; rw [this, Int.pow_add]
    rfl
  rw [e1, be, e2, e3, Int.ediv_ediv_of_nonneg (Int.pow_nonneg (by omega))]

theorem be_end (n : Int) (m : Nat) : be (m - 0) (n / 2 ^ (8 * 0)) = be m n := by simp

/-- a list's encoding out of its elements' -/
def encL {α : Type} (f : α → List Int) (l : List α) : List Int := enc l.length ++ l.flatMap f
theorem flatMap_snoc {α : Type} (f : α → List Int) {l : List α} {k : Nat} {x : α} (h : l[k]? = some x) : (l.take (k + 1)).flatMap f = (l.take k).flatMap f ++ f x := by
  rw [List.take_add_one, h, List.flatMap_append]
  simp
theorem flatMap_len {α : Type} (f : α → List Int) (m : Nat) (h : ∀ x, (f x).length ≤ m) : ∀ (l : List α), (l.flatMap f).length ≤ m * l.length
  | [] => by simp
  | x :: l => by
    have := flatMap_len f m h l
    have := h x
    rw [List.flatMap_cons, List.length_append, List.length_cons, Nat.mul_add]
    omega
theorem flatMap_by {α : Type} (f : α → List Int) (h : ∀ x, By (f x)) : ∀ (l : List α), By (l.flatMap f)
  | [] => By.nil
  | x :: l => by rw [List.flatMap_cons]; exact (h x).append (flatMap_by f h l)
theorem encL_by {α : Type} (f : α → List Int) (h : ∀ x, By (f x)) (l : List α) : By (encL f l) := (enc_by _).append (flatMap_by f h l)

def encB (v : Bool) : List Int := [if v then 1 else 0]
theorem encB_by (v : Bool) : By (encB v) := By.cons (by cases v <;> simp) By.nil
def encV (p : Int × Int) : List Int := enc p.1 ++ enc p.2
theorem encV_by (p : Int × Int) : By (encV p) := (enc_by _).append (enc_by _)
theorem encV_len (p : Int × Int) : (encV p).length ≤ 18 := by
  unfold encV
  rw [List.length_append]
  have := enc_length_le p.1
  have := enc_length_le p.2
  omega

end Go.Proofs.Ytfphdpcffjpbjaa.Pl
