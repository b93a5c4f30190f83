/-
  What was encoded is read back, as plain functions: integers, booleans, byte strings, lists. Conditions: the integers have 64 bits, the limits are met.
-/
import Derived.Test.YtcmpdnpdipckmaaReads
namespace Go.Proofs.Ytcmpdnpdipckmaa.W
open Go.RowKit Go.Proofs.Ytcmpdnpdipckmaa.Pl

theorem sInt_enc {n : Int} (h : I64 n) (r : List Int) (f : Bool) : sInt (enc n ++ r) f = (n, r, f) := by
  have hle := sz_le n
  have e : enc n ++ r = (sz n : Int) :: (be (sz n) n ++ r) := rfl
  have ht : (be (sz n) n ++ r).take (sz n : Int).toNat = be (sz n) n := by
    rw [Int.toNat_natCast]
    exact List.take_left' (be_length _ _)
  have hd : (be (sz n) n ++ r).drop (sz n : Int).toNat = r := by
    rw [Int.toNat_natCast]
    exact List.drop_left' (be_length _ _)
  have hg := sInt_good (s := (sz n : Int)) (t := be (sz n) n ++ r) f (by rw [List.length_append, be_length]; omega) (by rw [ht, val_enc h, Int.toNat_natCast])
  rw [e, hg, ht, hd, val_enc h]
theorem sBounded_enc {n lo hi : Int} (h : I64 n) (h1 : lo ≤ n) (h2 : n ≤ hi) (r : List Int) (f : Bool) : sBounded lo hi (enc n ++ r) f = (n, r, f) := by
  unfold sBounded
  rw [sInt_enc h]
  exact if_neg (by simp only; omega)
theorem sBool_enc (v : Bool) (r : List Int) (f : Bool) : sBool (encB v ++ r) f = (v, r, f) := by
  cases v <;> rfl
theorem sBytes_enc {m : List Int} {hi : Int} (h : (m.length : Int) ≤ hi) (h2 : m.length ≤ 9223372036854775807) (r : List Int) (f : Bool) : sBytes hi (encT m ++ r) f = (m, r, f) := by
  unfold sBytes encT
  rw [List.append_assoc, sBounded_enc ⟨by omega, by omega⟩ (by omega) h]
  rw [if_neg (by simp only [List.length_append]; omega)]
  simp
theorem loopL_enc {α : Type} {s : Step α} {e : α → List Int} (hs : ∀ x r, s (e x ++ r) false = (x, r, false)) : ∀ (l : List α) (acc : List α) (r : List Int), loopL s l.length acc (l.flatMap e ++ r) false = (acc ++ l, r, false)
  | [], acc, r => by simp [loopL]
  | x :: l, acc, r => by
    rw [List.flatMap_cons, List.append_assoc, List.length_cons, loopL_step s (by omega), hs]
    show loopL s l.length (acc ++ [x]) (l.flatMap e ++ r) false = _
    rw [loopL_enc hs l]
    simp
theorem loopL_enc_of {α : Type} {s : Step α} {e : α → List Int} : ∀ (l : List α) (acc : List α) (r : List Int) (_ : ∀ x ∈ l, ∀ r, s (e x ++ r) false = (x, r, false)), loopL s l.length acc (l.flatMap e ++ r) false = (acc ++ l, r, false)
  | [], acc, r, _ => by simp [loopL]
  | x :: l, acc, r, hs => by
    rw [List.flatMap_cons, List.append_assoc, List.length_cons, loopL_step s (by omega), hs x (by simp)]
    show loopL s l.length (acc ++ [x]) (l.flatMap e ++ r) false = _
    rw [loopL_enc_of l _ _ (fun y hy => hs y (by simp [hy]))]
    simp
theorem sList_enc {α : Type} {s : Step α} {e : α → List Int} {l : List α} {hi : Int} (hs : ∀ x ∈ l, ∀ r, s (e x ++ r) false = (x, r, false)) (h : (l.length : Int) ≤ hi) (h2 : l.length ≤ 9223372036854775807) (r : List Int) :
    sList hi s (encL e l ++ r) false = (l, r, false) := by
  unfold sList encL
  rw [List.append_assoc, sBounded_enc ⟨by omega, by omega⟩ (by omega) h]
  show loopL s (l.length : Int).toNat [] (l.flatMap e ++ r) false = _
  rw [Int.toNat_natCast, loopL_enc_of l [] r hs]
  rfl
theorem sVec_enc {p : Int × Int} (h1 : I64 p.1) (h2 : I64 p.2) (r : List Int) (f : Bool) : sVec (encV p ++ r) f = (p, r, f) := by
  unfold sVec encV
  rw [List.append_assoc, sInt_enc h1]
  simp only
  rw [sInt_enc h2]
theorem rd_enc {α : Type} {z x : α} {s : Step α} {l r : List Int} (h : s l false = (x, r, false)) : rd z s l false = (x, r, false) := by
  rw [rd_good (by rw [h]), h]

/-- an integer and its parity; a text, twice; the ring of the law -/
def evn (x : Int) : Bool := x.tmod 2 == 0
def encIB (x : Int) : List Int := enc x ++ encB (evn x)
def encTT (s : ByteArray) : List Int := encT (strL s) ++ encT (strL s)
def ringOf (l : List Int) : List (Int × Int) := l.zipIdx.map fun p => (p.1, (p.2 : Int))
theorem ringOf_snoc {l : List Int} {k : Nat} {x : Int} (h : l[k]? = some x) : ringOf (l.take (k + 1)) = ringOf (l.take k) ++ [(x, (k : Int))] := by
  have hlt := (List.getElem?_eq_some_iff.1 h).1
  unfold ringOf
  rw [List.take_add_one, h, List.zipIdx_append, List.map_append]
  simp
  omega
theorem ringOf_length (l : List Int) : (ringOf l).length = l.length := by simp [ringOf]
theorem encIB_len (x : Int) : (encIB x).length ≤ 10 := by
  unfold encIB
  rw [List.length_append]
  have := enc_length_le x
  have : (encB (evn x)).length = 1 := rfl
  omega
theorem encIB_by (x : Int) : By (encIB x) := (enc_by _).append (encB_by _)
theorem encTT_by (s : ByteArray) : By (encTT s) := (encT_by (strL_by s)).append (encT_by (strL_by s))
theorem encT_len (s : ByteArray) : (encT (strL s)).length ≤ s.size + 9 := by
  unfold encT
  rw [List.length_append, strL_length]
  have := enc_length_le (s.size : Int)
  omega
theorem encTT_len (s : ByteArray) (h : s.size ≤ 200) : (encTT s).length ≤ 418 := by
  unfold encTT encT
  rw [List.length_append, List.length_append, strL_length]
  have := enc_length_le (s.size : Int)
  omega
theorem flatTT_len : ∀ (ss : List ByteArray) (_ : ∀ s ∈ ss, s.size ≤ 200), (ss.flatMap encTT).length ≤ 418 * ss.length
  | [], _ => by simp
  | s :: ss, h => by
    have h1 := encTT_len s (h s (by simp))
    have h2 := flatTT_len ss (fun t ht => h t (by simp [ht]))
    rw [List.flatMap_cons, List.length_append, List.length_cons, Nat.mul_add]
    omega
theorem encL_len {α : Type} (f : α → List Int) (m : Nat) (h : ∀ x, (f x).length ≤ m) (l : List α) : (encL f l).length ≤ 9 + m * l.length := by
  unfold encL
  rw [List.length_append]
  have := enc_length_le (l.length : Int)
  have := flatMap_len f m h l
  omega

theorem ringOf_i64 {l : List Int} (hI : ∀ x ∈ l, I64 x) (hl : l.length ≤ 1099511627776) : ∀ p ∈ ringOf l, I64 p.1 ∧ I64 p.2 := by
  intro p hp
  unfold ringOf at hp
  obtain ⟨⟨x, i⟩, hm, rfl⟩ := List.mem_map.1 hp
  obtain ⟨h1, h2, h3⟩ := List.mem_zipIdx hm
  refine ⟨?_, ?_, ?_⟩
  · show I64 x
    rw [h3]
    exact hI _ (List.getElem_mem _)
  · show -9223372036854775808 ≤ (i : Int)
    omega
  · show (i : Int) ≤ 9223372036854775807
    omega
theorem trip_len (l : List Int) (ss : List ByteArray) (h1 : l.length ≤ 60) (h2 : ∀ s ∈ ss, s.size ≤ 200) (h3 : ss.length ≤ 40) : (encL enc l ++ l.flatMap encIB ++ ss.flatMap encTT).length ≤ 20000 := by
  have e1 := encL_len enc 9 enc_length_le l
  have e2 := flatMap_len encIB 10 encIB_len l
  have e3 := flatTT_len ss h2
  rw [List.length_append, List.length_append]
  omega
theorem trip_len2 (l : List Int) (ss : List ByteArray) (h1 : l.length ≤ 60) (h2 : ∀ s ∈ ss, s.size ≤ 200) (h3 : ss.length ≤ 40) : (encL enc l ++ l.flatMap encIB ++ ss.flatMap encTT ++ encL encV (ringOf l)).length ≤ 30000 := by
  have e1 := trip_len l ss h1 h2 h3
  have e2 := encL_len encV 18 encV_len (ringOf l)
  rw [ringOf_length] at e2
  rw [List.length_append]
  omega
theorem trip_by (l : List Int) (ss : List ByteArray) (rest : List Int) (h : By rest) : By (encL enc l ++ l.flatMap encIB ++ ss.flatMap encTT ++ encL encV (ringOf l) ++ rest) :=
  ((((encL_by _ enc_by l).append (flatMap_by _ encIB_by l)).append (flatMap_by _ encTT_by ss)).append (encL_by _ encV_by _)).append h
theorem drop_flat {α : Type} (e : α → List Int) {l : List α} {k : Nat} {x : α} (h : l[k]? = some x) : (l.drop k).flatMap e = e x ++ (l.drop (k + 1)).flatMap e := by
  obtain ⟨hlt, hx⟩ := List.getElem?_eq_some_iff.1 h
  rw [List.drop_eq_getElem_cons hlt, List.flatMap_cons, hx]
theorem row_ne {v : Value} {R : Nat} (h : ∀ k, v.ownBlock = some k → k < R) : v.ownBlock = none ∨ v.ownBlock ≠ some R := by
  cases hv : v.ownBlock with
  | none => exact .inl rfl
  | some k => exact .inr (by have := h k hv; intro e; injection e with e; omega)
theorem grown_undrew {w w' : World} {row : Option Nat} (h : w.drew.grownBy w' row) : w.grownBy w' row := ⟨h.os, h.tape, h.output, h.size, h.block⟩
end Go.Proofs.Ytcmpdnpdipckmaa.W
