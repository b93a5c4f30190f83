/-
  lex, plainly, the second part: what may follow a token, the text of a token, parts, offsets, blanks between tokens. No program in it.
-/
import Derived.Test.YtggdblmjnbnddaaDoorLPl
namespace Go.Proofs.YtggdblmjnbnddaaDoor.Pl
open Go

/-! ### what follows -/
def stopP (p : Int → Bool) : List UInt8 → Bool
  | [] => true
  | c :: _ => !p c.toNat
abbrev stop (r : List UInt8) : Bool := stopP wordI r

theorem stopP_cons (p : Int → Bool) (c : UInt8) (r : List UInt8) : stopP p (c :: r) = !p c.toNat := rfl
theorem cw_cons (p : Int → Bool) (c : UInt8) (r : List UInt8) : cw p (c :: r) = if p c.toNat then cw p r + 1 else 0 := rfl
theorem rd_cons (c : UInt8) (r : List UInt8) : rd (c :: r) = if ltrI c.toNat then rdName (c :: r) else if digI c.toNat || c == 45 then rdNum (c :: r) else if markB c then (⟨3, [c], 0, 0⟩, 1, 0) else (.zero, 0, 3) := rfl
theorem atoi_cons (b : UInt8) (r : List UInt8) : Lib.atoi (b :: r) = if b == 45 then (Lib.decNat r).map fun (m : Nat) => -(m : Int) else if b == 43 then (Lib.decNat r).map fun (m : Nat) => (m : Int) else (Lib.decNat (b :: r)).map fun (m : Nat) => (m : Int) := rfl
theorem dig_word {c : Int} (h : digI c = true) : wordI c = true := by unfold wordI; rw [h]; simp
theorem ltr_word {c : Int} (h : ltrI c = true) : wordI c = true := by unfold wordI; rw [h]; simp
theorem stop_dig {r : List UInt8} (h : stop r = true) : stopP digI r = true := by
  cases r with
  | nil => rfl
  | cons c r =>
    replace h : (!wordI c.toNat) = true := h
    rw [stopP_cons]
    cases hd : digI c.toNat
    · rfl
    · rw [dig_word hd] at h; simp at h
theorem cw_app {p : Int → Bool} {r : List UInt8} (h : stopP p r = true) : ∀ l : List UInt8, cw p (l ++ r) = cw p l
  | [] => by
    cases r with
    | nil => rfl
    | cons c r =>
      rw [stopP_cons] at h
      rw [List.nil_append, cw_cons, if_neg (by simpa using h)]; rfl
  | c :: l => by
    rw [List.cons_append, cw, cw, cw_app h l]
theorem cw_take (p : Int → Bool) : ∀ l : List UInt8, cw p (l.take (cw p l)) = cw p l
  | [] => rfl
  | c :: l => by
    by_cases h : p c.toNat = true
    · rw [show cw p (c :: l) = cw p l + 1 by rw [cw, if_pos h], List.take_succ_cons, cw, if_pos h, cw_take p l]
    · rw [show cw p (c :: l) = 0 by rw [cw, if_neg h]]; rfl

theorem rdName_app {r : List UInt8} (h : stop r = true) (l : List UInt8) : rdName (l ++ r) = rdName l := by
  unfold rdName
  rw [cw_app h l, List.take_append_of_le_length (cw_le _ _)]
theorem numSize_le {l : List UInt8} (h : l ≠ []) : numSize l ≤ l.length := by
  unfold numSize
  have h1 := cw_le digI (l.drop 1)
  have h2 : 0 < l.length := List.length_pos_iff.2 h
  rw [List.length_drop] at h1
  omega
theorem numSize_app {r : List UInt8} (h : stop r = true) {l : List UInt8} (hl : l ≠ []) : numSize (l ++ r) = numSize l := by
  unfold numSize
  have h2 : 0 < l.length := List.length_pos_iff.2 hl
  rw [List.drop_append_of_le_length h2, cw_app (stop_dig h)]
theorem rdNum_app {r : List UInt8} (h : stop r = true) {l : List UInt8} (hl : l ≠ []) : rdNum (l ++ r) = rdNum l := by
  have hs := numSize_app h hl
  have ht : (l ++ r).take (numSize l) = l.take (numSize l) := List.take_append_of_le_length (numSize_le hl)
  have hd : numDigits (l ++ r) = numDigits l := by unfold numDigits; rw [hs, ht]
  have hf : numForm (l ++ r) = numForm l := by unfold numForm; rw [hd, hs]
  have hw : numFollow (l ++ r) = numFollow l := by
    unfold numFollow
    rw [hs, List.drop_append_of_le_length (numSize_le hl)]
    cases hx : l.drop (numSize l) with
    | nil =>
      cases r with
      | nil => rfl
      | cons c r =>
        replace h : (!wordI c.toNat) = true := h
        show wordI c.toNat = false
        simpa using h
    | cons c t => rfl
  unfold rdNum
  rw [hf, hw, hd, hs, ht]
theorem rd_app {r : List UInt8} (h : stop r = true) {l : List UInt8} (hl : l ≠ []) : rd (l ++ r) = rd l := by
  cases l with
  | nil => exact absurd rfl hl
  | cons c t =>
    rw [List.cons_append]
    rw [rd_cons, rd_cons, ← List.cons_append, rdName_app h, rdNum_app h hl]

/-! ### sizes -/
theorem rdName_ok {l : List UInt8} (h : (rdName l).2.2 = 0) : cw wordI l ≤ 16 ∧ rdName l = (⟨1, l.take (cw wordI l), 0, 0⟩, cw wordI l, 0) := by
  unfold rdName at h ⊢
  split at h
  · simp at h
  · rename_i hk
    exact ⟨by omega, if_neg hk⟩
theorem rdNum_ok {l : List UInt8} (h : (rdNum l).2.2 = 0) : numForm l = true ∧ numFollow l = false ∧ (numDigits l).length ≤ 9 ∧ rdNum l = (⟨2, [], (Lib.atoi (l.take (numSize l))).getD 0, 0⟩, numSize l, 0) := by
  unfold rdNum at h ⊢
  split at h
  · simp at h
  · split at h
    · simp at h
    · rename_i h1 h2
      rw [if_neg h1, if_neg h2]
      simp only [Bool.or_eq_true, Bool.not_eq_true', not_or, Bool.not_eq_false, Bool.not_eq_true] at h1
      exact ⟨h1.1, h1.2, by omega, rfl⟩

/-- the three kinds of tokens -/
theorem rd_cases {l : List UInt8} (h : (rd l).2.2 = 0) : ∃ c t, l = c :: t ∧
    ((ltrI c.toNat = true ∧ cw wordI l ≤ 16 ∧ rd l = (⟨1, l.take (cw wordI l), 0, 0⟩, cw wordI l, 0)) ∨
     (ltrI c.toNat = false ∧ (digI c.toNat || c == 45) = true ∧ numForm l = true ∧ numFollow l = false ∧ (numDigits l).length ≤ 9 ∧ rd l = (⟨2, [], (Lib.atoi (l.take (numSize l))).getD 0, 0⟩, numSize l, 0)) ∨
     (ltrI c.toNat = false ∧ (digI c.toNat || c == 45) = false ∧ markB c = true ∧ rd l = (⟨3, [c], 0, 0⟩, 1, 0))) := by
  cases l with
  | nil => simp [rd] at h
  | cons c t =>
    refine ⟨c, t, rfl, ?_⟩
    cases hl : ltrI c.toNat
    · right
      cases hd : (digI c.toNat || c == 45)
      · right
        cases hm : markB c
        · rw [rd, if_neg (by simp [hl]), if_neg (by simp [hd]), if_neg (by simp [hm])] at h; simp at h
        · exact ⟨rfl, rfl, rfl, by rw [rd, if_neg (by simp [hl]), if_neg (by simp [hd]), if_pos hm]⟩
      · left
        have e : rd (c :: t) = rdNum (c :: t) := by rw [rd, if_neg (by simp [hl]), if_pos hd]
        rw [e] at h ⊢
        obtain ⟨h1, h2, h3, h4⟩ := rdNum_ok h
        exact ⟨rfl, rfl, h1, h2, h3, h4⟩
    · left
      have e : rd (c :: t) = rdName (c :: t) := by rw [rd, if_pos hl]
      rw [e] at h ⊢
      obtain ⟨h1, h2⟩ := rdName_ok h
      exact ⟨rfl, h1, h2⟩

theorem rd_size {l : List UInt8} (h : (rd l).2.2 = 0) : 1 ≤ (rd l).2.1 ∧ (rd l).2.1 ≤ l.length := by
  obtain ⟨c, t, rfl, ⟨hl, _, e⟩ | ⟨_, _, _, _, _, e⟩ | ⟨_, _, _, e⟩⟩ := rd_cases h
  · rw [e]
    show 1 ≤ cw wordI (c :: t) ∧ cw wordI (c :: t) ≤ _
    exact ⟨by rw [cw_cons, if_pos (ltr_word hl)]; omega, cw_le _ _⟩
  · rw [e]
    exact ⟨Nat.le_add_right _ _, numSize_le (by simp)⟩
  · rw [e]
    exact ⟨Nat.le_refl _, by simp⟩
theorem numSize_take {l : List UInt8} (h : l ≠ []) : numSize (l.take (numSize l)) = numSize l := by
  cases l with
  | nil => exact absurd rfl h
  | cons c t =>
    have hn : numSize (c :: t) = cw digI t + 1 := by unfold numSize; rw [List.drop_succ_cons, List.drop_zero, Nat.add_comm]
    have hx : ∀ u : List UInt8, numSize (c :: u) = cw digI u + 1 := fun u => by unfold numSize; rw [List.drop_succ_cons, List.drop_zero, Nat.add_comm]
    rw [hn, List.take_succ_cons, hx, cw_take]
theorem rd_take {l : List UInt8} (h : (rd l).2.2 = 0) : rd (l.take (rd l).2.1) = rd l := by
  obtain ⟨c, t, rfl, ⟨hl, hk, e⟩ | ⟨hl, hd, hf, hw, h9, e⟩ | ⟨hl, hd, hm, e⟩⟩ := rd_cases h
  · rw [e]
    have hp : cw wordI (c :: t) = cw wordI t + 1 := by rw [cw, if_pos (ltr_word hl)]
    have hc := cw_take wordI (c :: t)
    show rd ((c :: t).take (cw wordI (c :: t))) = _
    have h1 : rd ((c :: t).take (cw wordI (c :: t))) = rdName ((c :: t).take (cw wordI (c :: t))) := by rw [hp, List.take_succ_cons, rd, if_pos hl]
    rw [h1, rdName, hc, if_neg (by omega), List.take_take, Nat.min_self]
  · rw [e]
    show rd ((c :: t).take (numSize (c :: t))) = _
    have hs := numSize_take (l := c :: t) (by simp)
    have hn : numSize (c :: t) = cw digI t + 1 := by unfold numSize; rw [List.drop_succ_cons, List.drop_zero, Nat.add_comm]
    have h1 : rd ((c :: t).take (numSize (c :: t))) = rdNum ((c :: t).take (numSize (c :: t))) := by rw [hn, List.take_succ_cons, rd, if_neg (by simp [hl]), if_pos hd]
    have ht : ((c :: t).take (numSize (c :: t))).take (numSize (c :: t)) = (c :: t).take (numSize (c :: t)) := by rw [List.take_take, Nat.min_self]
    have hd' : numDigits ((c :: t).take (numSize (c :: t))) = numDigits (c :: t) := by rw [numDigits, hs, ht]; rfl
    have hf' : numForm ((c :: t).take (numSize (c :: t))) = numForm (c :: t) := by rw [numForm, hd', hs]; rfl
    have hw' : numFollow ((c :: t).take (numSize (c :: t))) = false := by rw [numFollow, hs, List.drop_eq_nil_of_le (by rw [List.length_take]; omega)]
    rw [h1, rdNum, hf', hw', hd', hf, if_neg (by simp), if_neg (by omega), hs, ht]
  · rw [e]
    show rd [c] = _
    rw [rd, if_neg (by simp [hl]), if_neg (by simp [hd]), if_pos hm]

/-! ### the text of a token -/
def wr (t : Tk) : List UInt8 := if t.kind == 2 then Lib.itoa t.n else t.text
def bare (t : Tk) : Tk := { t with at_ := 0 }
theorem wr_bare (t : Tk) : wr (bare t) = wr t := rfl
theorem bare_at (t : Tk) (a : Int) : bare { t with at_ := a } = bare t := rfl
theorem wr_at (t : Tk) (a : Int) : wr { t with at_ := a } = wr t := rfl

/-- the number that digits spell behind 'acc' -/
def dv (acc : Nat) (l : List UInt8) : Nat := l.foldl (fun a b => a * 10 + (b.toNat - 48)) acc
def allDig (l : List UInt8) : Prop := ∀ b ∈ l, digI b.toNat = true
theorem dig_val {b : UInt8} (h : digI b.toNat = true) : 48 ≤ b.toNat ∧ b.toNat ≤ 57 := by unfold digI at h; simp at h; omega
theorem digitVal_of {b : UInt8} (h : digI b.toNat = true) : Lib.digitVal b = some (b.toNat - 48) := if_pos (dig_val h)
theorem decFrom_dv : ∀ (l : List UInt8) (acc : Nat), allDig l → Lib.decFrom acc l = some (dv acc l)
  | [], _, _ => rfl
  | b :: r, acc, h => by
    rw [Lib.decFrom, digitVal_of (h b (by simp))]
    exact decFrom_dv r _ fun x hx => h x (by simp [hx])
theorem dv_ge : ∀ (l : List UInt8) (acc : Nat), acc ≤ dv acc l
  | [], _ => Nat.le_refl _
  | b :: r, acc => by
    have := dv_ge r (acc * 10 + (b.toNat - 48))
    unfold dv at this ⊢
    rw [List.foldl_cons]
    omega
theorem byte_dig {b : UInt8} (h : digI b.toNat = true) : UInt8.ofNat (48 + (b.toNat - 48)) = b := by
  have := dig_val h
  rw [show 48 + (b.toNat - 48) = b.toNat by omega]
  exact UInt8.ofNat_toNat
theorem decDigits_dv : ∀ (l : List UInt8) (acc : Nat), 1 ≤ acc → allDig l → Lib.decDigits (dv acc l) = Lib.decDigits acc ++ l
  | [], acc, _, _ => by simp [dv]
  | b :: r, acc, ha, h => by
    have hb := h b (by simp)
    have h' := dig_val hb
    have e : Lib.decDigits (acc * 10 + (b.toNat - 48)) = Lib.decDigits acc ++ [b] := by
      rw [Lib.decDigits, dif_neg (by omega), show (acc * 10 + (b.toNat - 48)) / 10 = acc by omega, show (acc * 10 + (b.toNat - 48)) % 10 = b.toNat - 48 by omega, byte_dig hb]
    have ih := decDigits_dv r (acc * 10 + (b.toNat - 48)) (by omega) fun x hx => h x (by simp [hx])
    unfold dv at ih ⊢
    rw [List.foldl_cons, ih, e, List.append_assoc]
    rfl
/-- digits without a needless zero are the digits of their number -/
theorem dec_canon {c : UInt8} {r : List UInt8} (h : allDig (c :: r)) (hc : c ≠ 48 ∨ r = []) : Lib.decDigits (dv 0 (c :: r)) = c :: r := by
  have hb := h c (by simp)
  have h' := dig_val hb
  have h1 : Lib.decDigits (c.toNat - 48) = [c] := by rw [Lib.decDigits_one (by omega), byte_dig hb]
  have e : dv 0 (c :: r) = dv (c.toNat - 48) r := by unfold dv; rw [List.foldl_cons, Nat.zero_mul, Nat.zero_add]
  rw [e]
  rcases hc with hc | rfl
  · have h1' : c.toNat ≠ 48 := fun e => hc (UInt8.toNat_inj.1 e)
    rw [decDigits_dv r _ (by omega) fun x hx => h x (by simp [hx]), h1]
    rfl
  · exact h1
theorem dv_pos {c : UInt8} {r : List UInt8} (h : allDig (c :: r)) (hc : c ≠ 48) : 1 ≤ dv 0 (c :: r) := by
  have h' := dig_val (h c (by simp))
  have h1' : c.toNat ≠ 48 := fun e => hc (UInt8.toNat_inj.1 e)
  have := dv_ge r (c.toNat - 48)
  have e : dv 0 (c :: r) = dv (c.toNat - 48) r := by unfold dv; rw [List.foldl_cons, Nat.zero_mul, Nat.zero_add]
  omega
theorem dv_lt : ∀ (l : List UInt8) (acc : Nat), allDig l → dv acc l < (acc + 1) * 10 ^ l.length
  | [], acc, _ => by simp [dv]
  | b :: r, acc, h => by
    have h' := dig_val (h b (by simp))
    have ih := dv_lt r (acc * 10 + (b.toNat - 48)) fun x hx => h x (by simp [hx])
    unfold dv at ih ⊢
    rw [List.foldl_cons, List.length_cons, Nat.pow_succ]
    refine Nat.lt_of_lt_of_le ih ?_
    calc _ ≤ ((acc + 1) * 10) * 10 ^ r.length := Nat.mul_le_mul_right _ (by omega)
      _ = _ := by rw [Nat.mul_assoc, Nat.mul_comm 10]
theorem cw_all (p : Int → Bool) : ∀ (l : List UInt8), ∀ b ∈ l.take (cw p l), p b.toNat = true
  | [], _, h => by simp at h
  | c :: l, b, h => by
    by_cases hp : p c.toNat = true
    · rw [cw, if_pos hp, List.take_succ_cons, List.mem_cons] at h
      rcases h with rfl | h
      · exact hp
      · exact cw_all p l b h
    · rw [cw, if_neg hp] at h
      simp at h

/-- a number's digits and its value -/
theorem num_parts {c : UInt8} {t : List UInt8} (hl : (digI c.toNat || c == 45) = true) (hf : numForm (c :: t) = true) :
    let d := t.take (cw digI t)
    (c :: t).take (numSize (c :: t)) = c :: d ∧ allDig d ∧
    ((c = 45 ∧ numDigits (c :: t) = d ∧ 1 ≤ dv 0 d ∧ Lib.decDigits (dv 0 d) = d ∧ Lib.atoi (c :: d) = some (-(dv 0 d : Int))) ∨
     (c ≠ 45 ∧ digI c.toNat = true ∧ numDigits (c :: t) = c :: d ∧ Lib.decDigits (dv 0 (c :: d)) = c :: d ∧ Lib.atoi (c :: d) = some (dv 0 (c :: d) : Int))) := by
  intro d
  have hn : numSize (c :: t) = cw digI t + 1 := by unfold numSize; rw [List.drop_succ_cons, List.drop_zero, Nat.add_comm]
  have hs : (c :: t).take (numSize (c :: t)) = c :: d := by rw [hn, List.take_succ_cons]
  have hd : allDig d := cw_all digI t
  have hlen : d.length = cw digI t := by rw [List.length_take]; have := cw_le digI t; omega
  refine ⟨hs, hd, ?_⟩
  unfold numForm at hf
  by_cases hc : c = 45
  · left
    subst hc
    have hx : numDigits (45 :: t) = d := by unfold numDigits; rw [hs]; rfl
    rw [hx] at hf
    cases hdd : d with
    | nil => rw [hdd] at hf; simp at hf
    | cons x r =>
      rw [hdd] at hf hlen hd
      have hx48 : x ≠ 48 := by
        intro e
        subst e
        rw [hn] at hf
        simp at hf
        rw [hf] at hlen
        simp at hlen
      refine ⟨rfl, hdd ▸ hx, dv_pos hd hx48, dec_canon hd (.inl hx48), ?_⟩
      rw [atoi_cons, if_pos (by rfl)]
      unfold Lib.decNat
      rw [if_neg (by simp), decFrom_dv _ _ hd]
      rfl
  · right
    have hcd : digI c.toNat = true := by simpa [hc] using hl
    have hv := dig_val hcd
    have hcd' : allDig (c :: d) := fun b hb => by
      rcases List.mem_cons.1 hb with rfl | hb
      · exact hcd
      · exact hd b hb
    have hx : numDigits (c :: t) = c :: d := by
      unfold numDigits
      rw [hs]
      unfold Lib.trimPrefix Lib.hasPrefix
      rw [if_neg]
      simp [List.isPrefixOf, Ne.symm hc]
    rw [hx, hn] at hf
    have hor : c ≠ 48 ∨ d = [] := by
      by_cases h48 : c = 48
      · right
        subst h48
        simp at hf
        exact List.length_eq_zero_iff.1 (by omega)
      · exact .inl h48
    have h43 : ¬ (c == 43) = true := by
      intro e
      have : c = 43 := by simpa using e
      subst this
      revert hv
      decide
    refine ⟨hc, hcd, hx, dec_canon hcd' hor, ?_⟩
    rw [atoi_cons, if_neg (by simp [hc]), if_neg h43]
    unfold Lib.decNat
    rw [if_neg (by simp), decFrom_dv _ _ hcd']
    rfl

theorem rd_wr {l : List UInt8} (h : (rd l).2.2 = 0) : wr (rd l).1 = l.take (rd l).2.1 := by
  obtain ⟨c, t, rfl, ⟨hl, hk, e⟩ | ⟨hl, hd, hf, hw, h9, e⟩ | ⟨hl, hd, hm, e⟩⟩ := rd_cases h
  · rw [e]; rfl
  · rw [e]
    obtain ⟨hs, _, ⟨rfl, _, hp, hc, ha⟩ | ⟨_, _, _, hc, ha⟩⟩ := num_parts hd hf
    · show Lib.itoa _ = (45 :: t).take (numSize (45 :: t))
      rw [hs, ha, Option.getD_some]
      show Lib.itoa (-(dv 0 (t.take (cw digI t)) : Int)) = _
      unfold Lib.itoa
      rw [if_pos (by omega), Int.natAbs_neg, Int.natAbs_natCast, hc]
    · show Lib.itoa _ = (c :: t).take (numSize (c :: t))
      rw [hs, ha, Option.getD_some]
      show Lib.itoa (dv 0 (c :: t.take (cw digI t)) : Int) = _
      unfold Lib.itoa
      rw [if_neg (by omega), Int.toNat_natCast, hc]
  · rw [e]; rfl

def isNameB : List UInt8 → Bool
  | [] => false
  | c :: r => decide ((c :: r).length ≤ 16) && ltrI c.toNat && cw wordI (c :: r) == (c :: r).length
theorem rd_kind {l : List UInt8} (h : (rd l).2.2 = 0) : ((rd l).1.kind == 1) = isNameB (l.take (rd l).2.1) := by
  obtain ⟨c, t, rfl, ⟨hl, hk, e⟩ | ⟨hl, hd, hf, hw, h9, e⟩ | ⟨hl, hd, hm, e⟩⟩ := rd_cases h
  · have hp : cw wordI (c :: t) = cw wordI t + 1 := by rw [cw, if_pos (ltr_word hl)]
    have hc := cw_take wordI (c :: t)
    have hle := cw_le wordI (c :: t)
    rw [e]
    show true = isNameB ((c :: t).take (cw wordI (c :: t)))
    have hlen : ((c :: t).take (cw wordI (c :: t))).length = cw wordI (c :: t) := by rw [List.length_take]; omega
    rw [hp, List.take_succ_cons] at hc hlen
    rw [hp, List.take_succ_cons, isNameB, hlen, hl, hc]
    simp
    omega
  · rw [e]
    have hn : numSize (c :: t) = cw digI t + 1 := by unfold numSize; rw [List.drop_succ_cons, List.drop_zero, Nat.add_comm]
    show false = isNameB ((c :: t).take (numSize (c :: t)))
    rw [hn, List.take_succ_cons, isNameB, hl]
    simp
  · rw [e]
    show false = isNameB [c]
    rw [isNameB, hl]
    simp
end Go.Proofs.YtggdblmjnbnddaaDoor.Pl
