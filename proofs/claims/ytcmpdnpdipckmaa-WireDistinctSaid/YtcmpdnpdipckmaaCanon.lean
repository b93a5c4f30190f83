/-
  What is read without a failure is what was encoded, as plain functions. Condition: bytes are read.
-/
import Derived.Test.YtcmpdnpdipckmaaBack
import Derived.Test.YtcmpdnpdipckmaaAwake
import Derived.Test.YtcmpdnpdipckmaaShapeR
import Derived.Test.YtcmpdnpdipckmaaShapeE
namespace Go.Proofs.Ytcmpdnpdipckmaa.W
open Go.RowKit Go.Proofs.Ytcmpdnpdipckmaa.Pl

/-- a step that has not failed took the encoding of what it returns -/
def Canon {α : Type} (s : Step α) (e : α → List Int) : Prop := ∀ l, By l → (s l false).2.2 = false → l = e (s l false).1 ++ (s l false).2.1

theorem canon_sInt : Canon sInt enc := fun l hb h => by
  cases l with
  | nil => simp [sInt_nil] at h
  | cons s t =>
    by_cases h1 : 8 < s ∨ t.length < s.toNat
    · rw [sInt_long false h1] at h; cases h
    · by_cases h2 : sz (val (t.take s.toNat)) = s.toNat
      · rw [sInt_good false h1 h2]
        have hs := hb.head
        have hlen : (t.take s.toNat).length = s.toNat := by rw [List.length_take]; omega
        have hv := be_val_back (t.take s.toNat) (hb.tail.take _)
        rw [hlen] at hv
        show s :: t = enc (val (t.take s.toNat)) ++ t.drop s.toNat
        unfold enc
        rw [h2, hv]
        have hs2 : ((s.toNat : Nat) : Int) = s := by omega
        rw [hs2, List.cons_append, List.take_append_drop]
      · rw [sInt_bad false h1 h2] at h; cases h
theorem canon_sBounded (lo hi : Int) : Canon (sBounded lo hi) enc := fun l hb h => by
  unfold sBounded at h ⊢
  split
  · rename_i h1; rw [if_pos h1] at h; cases h
  · rename_i h1; rw [if_neg h1] at h; exact canon_sInt l hb h
theorem canon_sVec : Canon sVec encV := fun l hb h => by
  unfold sVec at h ⊢
  simp only at h ⊢
  cases h1 : (sInt l false).2.2 with
  | true => rw [h1, sInt_failed] at h; cases h
  | false =>
    rw [h1] at h

    have e1 := canon_sInt l hb h1
    have e2 := canon_sInt _ (suf_sInt.by_ (f := false) hb) h
    unfold encV
    rw [List.append_assoc, ← e2, ← e1]
theorem loopL_canon {α : Type} {s : Step α} {e : α → List Int} (hc : Canon s e) (hs : Suf s) : ∀ (k : Nat) (acc : List α) (l : List Int), By l → (loopL s k acc l false).2.2 = false →
    ∃ ys, (loopL s k acc l false).1 = acc ++ ys ∧ ys.length = k ∧ l = ys.flatMap e ++ (loopL s k acc l false).2.1
  | 0, acc, l, _, _ => ⟨[], by simp [loopL], rfl, by simp [loopL]⟩
  | k + 1, acc, l, hb, h => by
    rw [loopL_step s (by omega)] at h ⊢
    have h1 : (s l false).2.2 = false := by
      cases hf : (s l false).2.2 with
      | false => rfl
      | true => rw [hf, loopL_failed] at h; cases h
    rw [h1] at h ⊢
    obtain ⟨ys, e1, e2, e3⟩ := loopL_canon hc hs k (acc ++ [(s l false).1]) (s l false).2.1 (hs.by_ hb) h
    refine ⟨(s l false).1 :: ys, ?_, by simp [e2], ?_⟩
    · show (loopL s k _ _ _).1 = _
      rw [e1]
      simp
    · rw [List.flatMap_cons, List.append_assoc]
      show l = e (s l false).1 ++ (ys.flatMap e ++ (loopL s k _ _ _).2.1)
      rw [← e3]
      exact hc l hb h1
theorem canon_sList {α : Type} {s : Step α} {e : α → List Int} (max : Int) (hc : Canon s e) (hs : Suf s) : Canon (sList max s) (encL e) := fun l hb h => by
  unfold sList at h ⊢
  have h1 : (sBounded 0 max l false).2.2 = false := by
    cases hf : (sBounded 0 max l false).2.2 with
    | false => rfl
    | true => rw [hf, loopL_failed] at h; cases h
  rw [h1] at h ⊢
  have e1 := canon_sBounded 0 max l hb h1
  have hr := (sBounded_range max l false).1
  obtain ⟨ys, e2, e3, e4⟩ := loopL_canon hc hs _ [] _ ((suf_sBounded 0 max).by_ (f := false) hb) h
  rw [e2, List.nil_append]
  unfold encL
  rw [e3]
  have hn : (((sBounded 0 max l false).1.toNat : Nat) : Int) = (sBounded 0 max l false).1 := by omega
  rw [hn, List.append_assoc, ← e4]
  exact e1
theorem canon_sRing : Canon sRing encR := canon_sList 40 canon_sVec suf_sVec
theorem sList_failed {α : Type} (max : Int) (s : Step α) (l : List Int) : (sList max s l true).2.2 = true := by
  unfold sList
  have : (sBounded 0 max l true).2.2 = true := by
    unfold sBounded
    split
    · rfl
    · exact sInt_failed l
  rw [this, loopL_failed]
theorem canon_sShape : Canon sShape encS := fun l hb h => by
  unfold sShape at h ⊢
  simp only at h ⊢
  cases h1 : (sRing l false).2.2 with
  | true => rw [h1, sList_failed] at h; cases h
  | false =>
    rw [h1] at h

    have e1 := canon_sRing l hb h1
    have e2 := canon_sList 6 canon_sRing suf_sRing _ (suf_sRing.by_ (f := false) hb) h
    unfold encS
    rw [List.append_assoc, ← e2, ← e1]
theorem canon_sBytes (max : Int) : Canon (sBytes max) encT := fun l hb h => by
  unfold sBytes at h ⊢
  split
  · rename_i h1; rw [if_pos h1] at h; cases h
  · rename_i h1
    rw [if_neg h1] at h
    have e1 := canon_sBounded 0 max l hb h
    have hr := (sBounded_range max l false).1
    have hlen : ((sBounded 0 max l false).2.1.take (sBounded 0 max l false).1.toNat).length = (sBounded 0 max l false).1.toNat := by rw [List.length_take]; omega
    show l = encT ((sBounded 0 max l false).2.1.take (sBounded 0 max l false).1.toNat) ++ (sBounded 0 max l false).2.1.drop (sBounded 0 max l false).1.toNat
    unfold encT
    have hn : (((sBounded 0 max l false).1.toNat : Nat) : Int) = (sBounded 0 max l false).1 := by omega
    rw [hlen, hn, List.append_assoc, List.take_append_drop]
    exact e1

/-- what a step returns has a property -/
def Gives {α : Type} (s : Step α) (P : α → Prop) : Prop := ∀ l f, By l → P (s l f).1
theorem gives_sInt : Gives sInt I64 := fun l f hb => by
  cases l with
  | nil => exact (show I64 0 from ⟨by decide, by decide⟩)
  | cons s t =>
    by_cases h1 : 8 < s ∨ t.length < s.toNat
    · rw [sInt_long f h1]; exact (show I64 0 from ⟨by decide, by decide⟩)
    · by_cases h2 : sz (val (t.take s.toNat)) = s.toNat
      · rw [sInt_good f h1 h2]
        exact val_i64 (hb.tail.take _) (by rw [List.length_take]; omega)
      · rw [sInt_bad f h1 h2]; exact (show I64 0 from ⟨by decide, by decide⟩)
theorem gives_sVec : Gives sVec (fun p => I64 p.1 ∧ I64 p.2) := fun l f hb => ⟨gives_sInt l f hb, gives_sInt _ _ (suf_sInt.by_ hb)⟩
theorem gives_loop {α : Type} {s : Step α} {P : α → Prop} (hP : Gives s P) (hs : Suf s) : ∀ (k : Nat) (acc : List α) (l : List Int) (f : Bool), By l → (∀ x ∈ acc, P x) → (∀ x ∈ (loopL s k acc l f).1, P x) ∧ (loopL s k acc l f).1.length ≤ acc.length + k
  | 0, acc, l, f, _, ha => ⟨ha, Nat.le_refl _⟩
  | k + 1, acc, l, f, hb, ha => by
    cases f with
    | true => rw [loopL_failed]; exact ⟨ha, by simp⟩
    | false =>
      rw [loopL_step s (by omega)]
      have := gives_loop hP hs k (acc ++ [(s l false).1]) (s l false).2.1 (s l false).2.2 (hs.by_ hb) (fun x hx => by
        rcases List.mem_append.1 hx with hx | hx
        · exact ha x hx
        · simp at hx; rw [hx]; exact hP l false hb)
      refine ⟨this.1, Nat.le_trans this.2 ?_⟩
      simp
      omega
theorem gives_sList {α : Type} {s : Step α} {P : α → Prop} (max : Nat) (hP : Gives s P) (hs : Suf s) : Gives (sList max s) (fun xs => (∀ x ∈ xs, P x) ∧ xs.length ≤ max) := fun l f hb => by
  have hr := sBounded_range max l f
  have := gives_loop hP hs (sBounded 0 max l f).1.toNat [] (sBounded 0 max l f).2.1 (sBounded 0 max l f).2.2 ((suf_sBounded 0 max).by_ hb) (fun x hx => by cases hx)
  refine ⟨this.1, Nat.le_trans this.2 ?_⟩
  simp
  omega
def Rg (r : List (Int × Int)) : Prop := (∀ p ∈ r, I64 p.1 ∧ I64 p.2) ∧ r.length ≤ 40
theorem gives_sRing : Gives sRing Rg := gives_sList 40 gives_sVec suf_sVec
theorem gives_sShape : Gives sShape (fun s => Rg s.1 ∧ (∀ r ∈ s.2, Rg r) ∧ s.2.length ≤ 6) := fun l f hb =>
  ⟨gives_sRing l f hb, gives_sList 6 gives_sRing suf_sRing _ _ (suf_sRing.by_ hb)⟩

/-- behind a whole reading -/
theorem rd_canon {α : Type} {s : Step α} {e : α → List Int} {z : α} (hc : Canon s e) {l : List Int} (hb : By l) (h : endOf (rd z s l false).2.1 (rd z s l false).2.2 = 0) : l = e (rd z s l false).1 := by
  cases hf : (s l false).2.2 with
  | true =>
    rw [rd_bad hf] at h
    simp [endOf] at h
  | false =>
    rw [rd_good hf] at h ⊢
    have e1 := hc l hb hf
    have hnil : (s l false).2.1 = [] := by
      unfold endOf at h
      split at h
      · cases h
      · rename_i hn
        simpa using hn
    rw [hnil, List.append_nil] at e1
    exact e1
theorem rd_gives {α : Type} {s : Step α} {P : α → Prop} {z : α} (h : Gives s P) (hz : P z) {l : List Int} (f : Bool) (hb : By l) : P (rd z s l f).1 := by
  unfold rd
  split
  · exact hz
  · split
    · exact hz
    · exact h l false hb
end Go.Proofs.Ytcmpdnpdipckmaa.W
