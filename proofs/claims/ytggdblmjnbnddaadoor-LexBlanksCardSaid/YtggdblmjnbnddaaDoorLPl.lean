/-
  lex, plainly: texts as lists of bytes; the tokens of a source. No program in it.
-/
import Derived.Lib.Strings
import Derived.Lib.Bytealg
import Derived.Lib.Atoi
import Derived.Lib.ItoaNum
namespace Go.Proofs.YtggdblmjnbnddaaDoor.Pl
open Go

def blankI (c : Int) : Bool := c == 32 || c == 9 || c == 10
def digI (c : Int) : Bool := decide (48 ≤ c) && decide (c ≤ 57)
def ltrI (c : Int) : Bool := decide (97 ≤ c) && decide (c ≤ 122) || decide (65 ≤ c) && decide (c ≤ 90)
def wordI (c : Int) : Bool := ltrI c || digI c || c == 95

/-- how many bytes at the start belong to a class -/
def cw (p : Int → Bool) : List UInt8 → Nat
  | [] => 0
  | c :: r => if p c.toNat then cw p r + 1 else 0
def notLf (c : Int) : Bool := !(c == 10)

def marks : List UInt8 := [123, 125, 40, 41, 44, 59, 58, 61]
def markB (c : UInt8) : Bool := marks.contains c

structure Tk where
  kind : Int
  text : List UInt8
  n : Int
  at_ : Int
deriving DecidableEq

def Tk.zero : Tk := ⟨0, [], 0, 0⟩

/-- a token, its size, the error -/
abbrev Rd := Tk × Nat × Int

def rdName (l : List UInt8) : Rd :=
  if 16 < cw wordI l then (.zero, 0, 9) else (⟨1, l.take (cw wordI l), 0, 0⟩, cw wordI l, 0)

def numSize (l : List UInt8) : Nat := 1 + cw digI (l.drop 1)
def numDigits (l : List UInt8) : List UInt8 := Lib.trimPrefix (l.take (numSize l)) [45]
def numForm (l : List UInt8) : Bool := match numDigits l with
  | [] => false
  | d :: _ => !(d == 48) || numSize l == 1
def numFollow (l : List UInt8) : Bool := match l.drop (numSize l) with
  | [] => false
  | c :: _ => wordI c.toNat
def rdNum (l : List UInt8) : Rd :=
  if !numForm l || numFollow l then (.zero, 0, 3)
  else if 9 < (numDigits l).length then (.zero, 0, 9)
  else (⟨2, [], (Lib.atoi (l.take (numSize l))).getD 0, 0⟩, numSize l, 0)

def rd : List UInt8 → Rd
  | [] => (.zero, 0, 3)
  | c :: r =>
    if ltrI c.toNat then rdName (c :: r)
    else if digI c.toNat || c == 45 then rdNum (c :: r)
    else if markB c then (⟨3, [c], 0, 0⟩, 1, 0)
    else (.zero, 0, 3)

/-- the tokens, the offset and the error -/
abbrev Lx := List Tk × Nat × Int
def glue (acc : List Tk) (r : Lx) : Lx := if r.2.2 = 0 then (acc ++ r.1, 0, 0) else ([], r.2.1, r.2.2)

def lxF : Nat → Nat → List UInt8 → Lx
  | _, _, [] => ([], 0, 0)
  | 0, _, _ :: _ => ([], 0, 0)
  | f + 1, off, c :: r =>
    if blankI c.toNat then lxF f (off + 1) r
    else if c == 35 then lxF f (off + cw notLf (c :: r)) (r.drop (cw notLf (c :: r) - 1))
    else match rd (c :: r) with
      | (t, k, e) => if e = 0 then glue [{ t with at_ := off }] (lxF f (off + k) (r.drop (k - 1))) else ([], off, e)

def lx (off : Nat) (l : List UInt8) : Lx := lxF l.length off l
def toks (l : List UInt8) : Lx := if 20000 < l.length then ([], 0, 9) else lx 0 l

theorem lxF_enough : ∀ (f f' off : Nat) (l : List UInt8), l.length ≤ f → l.length ≤ f' → lxF f off l = lxF f' off l
  | 0, 0, _, [], _, _ => rfl
  | 0, _ + 1, _, [], _, _ => rfl
  | _ + 1, 0, _, [], _, _ => rfl
  | _ + 1, _ + 1, _, [], _, _ => rfl
  | 0, _, _, _ :: _, h, _ => absurd h (by simp)
  | _ + 1, 0, _, _ :: _, _, h => absurd h (by simp)
  | f + 1, f' + 1, off, c :: r, h, h' => by
    simp only [List.length_cons, Nat.add_le_add_iff_right] at h h'
    have hd : ∀ k, (r.drop k).length ≤ r.length := fun k => by rw [List.length_drop]; omega
    unfold lxF
    rw [lxF_enough f f' (off + 1) r h h', lxF_enough f f' _ (r.drop (cw notLf (c :: r) - 1)) (Nat.le_trans (hd _) h) (Nat.le_trans (hd _) h')]
    have h3 : ∀ k, lxF f (off + k) (r.drop (k - 1)) = lxF f' (off + k) (r.drop (k - 1)) := fun k => lxF_enough f f' _ _ (Nat.le_trans (hd _) h) (Nat.le_trans (hd _) h')
    simp only [h3]

theorem lx_nil (off : Nat) : lx off [] = ([], 0, 0) := rfl
theorem lx_blank (off : Nat) {c : UInt8} {r : List UInt8} (h : blankI c.toNat = true) : lx off (c :: r) = lx (off + 1) r := by
  unfold lx
  rw [List.length_cons, lxF, if_pos h]
theorem lx_hash (off : Nat) {c : UInt8} {r : List UInt8} (h : blankI c.toNat = false) (hc : (c == 35) = true) : lx off (c :: r) = lx (off + cw notLf (c :: r)) (r.drop (cw notLf (c :: r) - 1)) := by
  unfold lx
  rw [List.length_cons, lxF, if_neg (by simp [h]), if_pos hc]
  exact lxF_enough _ _ _ _ (by rw [List.length_drop]; omega) (Nat.le_refl _)
theorem lx_tok (off : Nat) {c : UInt8} {r : List UInt8} (h : blankI c.toNat = false) (hc : (c == 35) = false) (he : (rd (c :: r)).2.2 = 0) :
    lx off (c :: r) = glue [{ (rd (c :: r)).1 with at_ := off }] (lx (off + (rd (c :: r)).2.1) (r.drop ((rd (c :: r)).2.1 - 1))) := by
  unfold lx
  rw [List.length_cons, lxF, if_neg (by simp [h]), if_neg (by simp [hc])]
  generalize rd (c :: r) = x at *
  obtain ⟨t, k, e⟩ := x
  obtain rfl : e = 0 := he
  simp only [if_true]
  rw [lxF_enough r.length (r.drop (k - 1)).length _ _ (by rw [List.length_drop]; omega) (Nat.le_refl _)]
theorem lx_bad (off : Nat) {c : UInt8} {r : List UInt8} (h : blankI c.toNat = false) (hc : (c == 35) = false) (he : (rd (c :: r)).2.2 ≠ 0) :
    lx off (c :: r) = ([], off, (rd (c :: r)).2.2) := by
  unfold lx
  rw [List.length_cons, lxF, if_neg (by simp [h]), if_neg (by simp [hc])]
  generalize rd (c :: r) = x at *
  obtain ⟨t, k, e⟩ := x
  exact if_neg he

theorem glue_nil {r : Lx} (h : r.2.2 = 0 → r.2.1 = 0) (h' : r.2.2 ≠ 0 → r.1 = []) : glue [] r = r := by
  obtain ⟨ts, a, e⟩ := r
  unfold glue
  simp only at h h' ⊢
  split
  · rename_i h0; rw [h h0, h0]; rfl
  · rename_i h0; rw [h' h0]
theorem glue_glue (a b : List Tk) (r : Lx) : glue a (glue b r) = glue (a ++ b) r := by
  unfold glue
  by_cases h : r.2.2 = 0
  · simp [h]
  · simp [h]
theorem glue_bad (a : List Tk) (off : Nat) {e : Int} (h : e ≠ 0) : glue a ([], off, e) = ([], off, e) := by unfold glue; rw [if_neg h]
theorem glue_end (a : List Tk) : glue a ([], 0, 0) = (a, 0, 0) := by unfold glue; simp

theorem lxF_form : ∀ (f off : Nat) (l : List UInt8), ((lxF f off l).2.2 = 0 → (lxF f off l).2.1 = 0) ∧ ((lxF f off l).2.2 ≠ 0 → (lxF f off l).1 = [])
  | 0, _, [] => ⟨fun _ => rfl, fun _ => rfl⟩
  | _ + 1, _, [] => ⟨fun _ => rfl, fun _ => rfl⟩
  | 0, _, _ :: _ => ⟨fun _ => rfl, fun _ => rfl⟩
  | f + 1, off, c :: r => by
    unfold lxF
    split
    · exact lxF_form f _ _
    · split
      · exact lxF_form f _ _
      · split
        unfold glue
        split
        · split
          · exact ⟨fun _ => rfl, fun h => absurd rfl h⟩
          · exact ⟨fun h => absurd h ‹_›, fun _ => rfl⟩
        · exact ⟨fun h => absurd h ‹_›, fun _ => rfl⟩
theorem lx_form (off : Nat) (l : List UInt8) : ((lx off l).2.2 = 0 → (lx off l).2.1 = 0) ∧ ((lx off l).2.2 ≠ 0 → (lx off l).1 = []) := lxF_form _ _ _
theorem glue_lx (off : Nat) (l : List UInt8) : glue [] (lx off l) = lx off l := glue_nil (lx_form off l).1 (lx_form off l).2

/-! ### classes at the start -/
theorem cw_le (p : Int → Bool) : ∀ l : List UInt8, cw p l ≤ l.length
  | [] => Nat.le_refl _
  | c :: r => by unfold cw; have := cw_le p r; split <;> simp <;> omega
theorem cw_stop {p : Int → Bool} {l : List UInt8} {i : Nat} {c : UInt8} (h : l[i]? = some c) (hp : p c.toNat = false) : cw p (l.drop i) = 0 := by
  obtain ⟨hi, rfl⟩ := List.getElem?_eq_some_iff.1 h
  rw [List.drop_eq_getElem_cons hi, cw, if_neg (by simp [hp])]
theorem cw_go {p : Int → Bool} {l : List UInt8} {i : Nat} {c : UInt8} (h : l[i]? = some c) (hp : p c.toNat = true) : cw p (l.drop i) = cw p (l.drop (i + 1)) + 1 := by
  obtain ⟨hi, rfl⟩ := List.getElem?_eq_some_iff.1 h
  rw [List.drop_eq_getElem_cons hi, cw, if_pos hp]
theorem cw_end {p : Int → Bool} {l : List UInt8} {i : Nat} (h : l.length ≤ i) : cw p (l.drop i) = 0 := by rw [List.drop_eq_nil_of_le h]; rfl
theorem cw_in (p : Int → Bool) : ∀ (l : List UInt8) (j : Nat) (c : UInt8), j < cw p l → l[j]? = some c → p c.toNat = true
  | [], _, _, _, h => by simp at h
  | c :: r, 0, d, h, hd => by
    simp at hd
    subst hd
    unfold cw at h
    split at h
    · assumption
    · omega
  | c :: r, j + 1, d, h, hd => by
    unfold cw at h
    split at h
    · exact cw_in p r j d (by omega) (by simpa using hd)
    · omega
end Go.Proofs.YtggdblmjnbnddaaDoor.Pl
