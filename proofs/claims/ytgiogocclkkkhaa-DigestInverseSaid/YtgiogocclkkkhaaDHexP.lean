/-
  Plain arithmetic of digits, without any program: the digits of a number to a base, their hexadecimal letters, and the number that letters stand for. No condition.
-/
import Derived.Test.YtgiogocclkkkhaaDPlain
namespace Go.Proofs.Ytgiogocclkkkhaa.Pl

/-- k digits to the base b, the most significant one first -/
def dgs (b : Int) : Nat → Int → List Int
  | 0, _ => []
  | k + 1, n => dgs b k (n / b) ++ [n % b]
theorem dgs_length (b : Int) : ∀ (k : Nat) (n : Int), (dgs b k n).length = k
  | 0, _ => rfl
  | k + 1, n => by simp [dgs, dgs_length b k]
theorem dgs_at {b : Int} (hb : 0 < b) : ∀ (k : Nat) (n : Int) (i : Nat), i < k → (dgs b k n)[i]? = some (n / b ^ (k - 1 - i) % b)
  | 0, _, i, h => by omega
  | k + 1, n, i, h => by
    unfold dgs
    by_cases hi : i < k
    · rw [List.getElem?_append_left (by rw [dgs_length]; exact hi), dgs_at hb k _ i hi]
      have e : k + 1 - 1 - i = (k - 1 - i) + 1 := by omega
      rw [e, Int.pow_succ, Int.mul_comm, Int.ediv_ediv_of_nonneg (Int.le_of_lt hb)]
    · have e : i = k := by omega
      subst e
      rw [List.getElem?_append_right (by rw [dgs_length]; exact Nat.le_refl _), dgs_length]
      simp
theorem dgs_by : ∀ (k : Nat) (n : Int), By (dgs 256 k n)
  | 0, _ => By.nil
  | k + 1, n => (dgs_by k (n / 256)).append (By.cons (by omega) By.nil)

/-- the letter of a hexadecimal digit -/
def hexd (x : Int) : Int := if x < 10 then 48 + x else 87 + x
def hexv (c : Int) : Option Int := if 48 ≤ c ∧ c ≤ 57 then some (c - 48) else if 97 ≤ c ∧ c ≤ 102 then some (c - 87) else none
theorem hexv_hexd {x : Int} (h : 0 ≤ x ∧ x < 16) : hexv (hexd x) = some x := by
  unfold hexv hexd
  by_cases h10 : x < 10
  · rw [if_pos h10, if_pos (by omega)]
    congr 1
    omega
  · rw [if_neg h10, if_neg (by omega), if_pos (by omega)]
    congr 1
    omega
theorem hexd_hexv {c x : Int} (h : hexv c = some x) : hexd x = c ∧ 0 ≤ x ∧ x < 16 := by
  unfold hexv at h
  split at h
  · injection h with h
    unfold hexd
    rw [if_pos (by omega)]
    omega
  · split at h
    · injection h with h
      unfold hexd
      rw [if_neg (by omega)]
      omega
    · cases h
theorem hexd_by {x : Int} (h : 0 ≤ x ∧ x < 16) : 0 ≤ hexd x ∧ hexd x < 256 := by
  unfold hexd
  split <;> omega
def hexL (n : Int) : List Int := (dgs 16 16 n).map hexd
theorem hexL_length (n : Int) : (hexL n).length = 16 := by unfold hexL; rw [List.length_map, dgs_length]
theorem hexL_at (n : Int) (i : Nat) (h : i < 16) : (hexL n)[i]? = some (hexd (n / 16 ^ (15 - i) % 16)) := by
  unfold hexL
  rw [List.getElem?_map, dgs_at (by decide) _ _ _ h]
  rfl
theorem dgs_digits : ∀ (k : Nat) (n : Int), ∀ x ∈ dgs 16 k n, 0 ≤ x ∧ x < 16
  | 0, _, x, h => by cases h
  | k + 1, n, x, h => by
    unfold dgs at h
    rcases List.mem_append.1 h with h | h
    · exact dgs_digits k _ x h
    · simp at h
      omega
theorem hexL_by (n : Int) : By (hexL n) := fun x hx => by
  unfold hexL at hx
  obtain ⟨y, hy, rfl⟩ := List.mem_map.1 hx
  exact hexd_by (dgs_digits _ _ y hy)

/-- the number that letters stand for, behind a number -/
def prsF (acc : Int) : List Int → Option Int
  | [] => some acc
  | c :: l => match hexv c with
    | some v => prsF (acc * 16 + v) l
    | none => none
def prs (l : List Int) : Option Int := if l.length = 16 then prsF 0 l else none
theorem prsF_append (acc : Int) (a b : List Int) : prsF acc (a ++ b) = (prsF acc a).bind fun m => prsF m b := by
  induction a generalizing acc with
  | nil => rfl
  | cons c a ih =>
    show (match hexv c with | some v => prsF (acc * 16 + v) (a ++ b) | none => none) = (match hexv c with | some v => prsF (acc * 16 + v) a | none => none).bind fun m => prsF m b
    cases hexv c with
    | none => rfl
    | some v => exact ih _
theorem prsF_snoc {acc m v c : Int} {a : List Int} (h : prsF acc a = some m) (hc : hexv c = some v) : prsF acc (a ++ [c]) = some (m * 16 + v) := by
  rw [prsF_append, h]
  simp [prsF, hc]
theorem prsF_bad {acc c : Int} {a b : List Int} (hc : hexv c = none) : prsF acc (a ++ c :: b) = none := by
  rw [prsF_append]
  cases prsF acc a with
  | none => rfl
  | some m => simp [prsF, hc]
theorem prs_dgs : ∀ (k : Nat) (n : Int), 0 ≤ n → n < 16 ^ k → prsF 0 ((dgs 16 k n).map hexd) = some n
  | 0, n, h0, h1 => by
    have : n = 0 := by simp at h1; omega
    subst this
    rfl
  | k + 1, n, h0, h1 => by
    unfold dgs
    rw [Int.pow_succ] at h1
    rw [List.map_append, List.map_cons, List.map_nil, prsF_snoc (prs_dgs k (n / 16) (by omega) (by omega)) (hexv_hexd ⟨by omega, by omega⟩)]
    congr 1
    omega
theorem prs_hexL {n : Int} (h : U64 n) : prs (hexL n) = some n := by
  unfold prs
  rw [if_pos (hexL_length n)]
  exact prs_dgs 16 n h.1 (by have := h.2; have e : (16 : Int) ^ 16 = 18446744073709551616 := by decide
                             rw [e]; exact this)
theorem prsF_range : ∀ (r : List Int) (m : Int), prsF 0 r.reverse = some m → 0 ≤ m ∧ m < 16 ^ r.length ∧ (dgs 16 r.length m).map hexd = r.reverse
  | [], m, h => by
    have e : m = 0 := by simpa [prsF] using h.symm
    subst e
    exact ⟨by omega, by decide, rfl⟩
  | c :: r, m, h => by
    rw [List.reverse_cons, prsF_append] at h
    cases hr : prsF 0 r.reverse with
    | none => rw [hr] at h; cases h
    | some a =>
      rw [hr] at h
      cases hc : hexv c with
      | none => simp [prsF, hc] at h
      | some v =>
        simp [prsF, hc] at h
        obtain ⟨h1, h2, h3⟩ := prsF_range r a hr
        obtain ⟨g1, g2, g3⟩ := hexd_hexv hc
        rw [List.length_cons, Int.pow_succ]
        refine ⟨by omega, by omega, ?_⟩
        unfold dgs
        have e1 : m / 16 = a := by omega
        have e2 : m % 16 = v := by omega
        rw [e1, e2, List.map_append, h3, List.map_cons, List.map_nil, g1, List.reverse_cons]
theorem hexL_prs {l : List Int} {m : Int} (h : prs l = some m) : U64 m ∧ hexL m = l := by
  unfold prs at h
  split at h
  · rename_i hl
    have := prsF_range l.reverse m (by rw [List.reverse_reverse]; exact h)
    rw [List.length_reverse, hl, List.reverse_reverse] at this
    have e : (16 : Int) ^ 16 = 18446744073709551616 := by decide
    rw [e] at this
    exact ⟨⟨this.1, this.2.1⟩, this.2.2⟩
  · cases h
theorem prsF_lt {l : List Int} {m : Int} (h : prsF 0 l = some m) : 0 ≤ m ∧ m < 16 ^ l.length := by
  have := prsF_range l.reverse m (by rw [List.reverse_reverse]; exact h)
  rw [List.length_reverse] at this
  exact ⟨this.1, this.2.1⟩

/-- a table of letters -/
theorem letters (x : Fin 16) : (((⟨#[48, 49, 50, 51, 52, 53, 54, 55, 56, 57, 97, 98, 99, 100, 101, 102]⟩ : ByteArray)[x.val]'x.isLt).toNat : Int) = hexd x.val := by
  revert x
  decide

/-- a list that is filled from the front, or from the back -/
theorem set_front {L H : List Int} {k : Nat} {x : Int} (h : L.take k = H.take k) (hx : H[k]? = some x) (hk : k < L.length) : (L.set k x).take (k + 1) = H.take (k + 1) := by
  rw [List.take_add_one, List.take_add_one, hx, List.take_set_of_le (Nat.le_refl _), h, List.getElem?_set_self hk]
theorem set_back {L H : List Int} {k : Nat} {x : Int} (h : L.drop (k + 1) = H.drop (k + 1)) (hx : H[k]? = some x) (hk : k < L.length) : (L.set k x).drop k = H.drop k := by
  obtain ⟨hH, rfl⟩ := List.getElem?_eq_some_iff.1 hx
  rw [List.drop_eq_getElem_cons (by rw [List.length_set]; exact hk), List.drop_eq_getElem_cons hH, List.getElem_set_self, List.drop_set_of_lt (Nat.lt_succ_self k), h]
end Go.Proofs.Ytgiogocclkkkhaa.Pl
