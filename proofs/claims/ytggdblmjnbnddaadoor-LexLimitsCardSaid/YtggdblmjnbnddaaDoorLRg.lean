/-
  The reference's token: the token at an offset, by Pl.rd, with its offset. Condition: at most 2^40 bytes.
-/
import Derived.Test.YtggdblmjnbnddaaDoorLRf
namespace Go.Proofs.YtggdblmjnbnddaaDoor.W
open Go.RowKit Go.Proofs.YtggdblmjnbnddaaDoor.Pl

theorem digits_minus (t : List UInt8) : numDigits (45 :: t) = t.take (cw digI t) := by
  unfold numDigits
  rw [show numSize (45 :: t) = cw digI t + 1 by unfold numSize; rw [List.drop_succ_cons, List.drop_zero, Nat.add_comm], List.take_succ_cons]
  rfl
theorem digits_plus {c : UInt8} (hc : c ≠ 45) (t : List UInt8) : numDigits (c :: t) = c :: t.take (cw digI t) := by
  unfold numDigits
  rw [show numSize (c :: t) = cw digI t + 1 by unfold numSize; rw [List.drop_succ_cons, List.drop_zero, Nat.add_comm], List.take_succ_cons]
  unfold Lib.trimPrefix Lib.hasPrefix
  rw [if_neg]
  simp [List.isPrefixOf, Ne.symm hc]

/-- what the walks of the reference's number need -/
theorem refN_of {l : List UInt8} {a : Nat} {c : UInt8} (h0 : l[a]? = some c) (hc : (digI c.toNat || c == 45) = true) (v : Int)
    (hv : if c = 45 then (dv 0 (numDigits (l.drop a)) : Int) = -v else (dv 0 (numDigits (l.drop a)) : Int) = v) :
    RefN l l.length a (numSize (l.drop a)) (if c = 45 then a + 1 else a) (numDigits (l.drop a)) (numForm (l.drop a)) (numFollow (l.drop a)) v (rdNum (l.drop a)) := by
  obtain ⟨ha, hc0⟩ := List.getElem?_eq_some_iff.1 h0
  have hm : l.drop a = c :: l.drop (a + 1) := by rw [List.drop_eq_getElem_cons ha, hc0]
  have hat : ∀ q, (l.drop (a + 1))[q]? = l[a + 1 + q]? := fun q => by rw [List.getElem?_drop]
  have hlen : (l.drop (a + 1)).length = l.length - (a + 1) := List.length_drop
  have hle := cw_le digI (l.drop (a + 1))
  have hall : allDig ((l.drop (a + 1)).take (cw digI (l.drop (a + 1)))) := cw_all digI _
  have htl : ((l.drop (a + 1)).take (cw digI (l.drop (a + 1)))).length = cw digI (l.drop (a + 1)) := by rw [List.length_take]; omega
  have hsz : numSize (l.drop a) = cw digI (l.drop (a + 1)) + 1 := by rw [hm]; unfold numSize; rw [List.drop_succ_cons, List.drop_zero, Nat.add_comm]
  have hr : rdNum (l.drop a) = if !numForm (l.drop a) || numFollow (l.drop a) then (.zero, 0, 3) else if 9 < (numDigits (l.drop a)).length then (.zero, 0, 9) else (⟨2, [], (Lib.atoi ((l.drop a).take (numSize (l.drop a)))).getD 0, 0⟩, numSize (l.drop a), 0) := rfl
  have hfol : numFollow (l.drop a) = match (l.drop a).drop (numSize (l.drop a)) with | [] => false | c :: _ => wordI c.toNat := rfl
  rw [List.drop_drop] at hfol
  have hpt := num_parts (c := c) (t := l.drop (a + 1)) hc
  simp only at hpt
  rw [← hm] at hpt
  have hbits : allDig (numDigits (l.drop a)) ∧ (if c = 45 then a + 1 else a) + (numDigits (l.drop a)).length = a + numSize (l.drop a) ∧ ∀ q x, (numDigits (l.drop a))[q]? = some x → l[(if c = 45 then a + 1 else a) + q]? = some x := by
    by_cases h45 : c = 45
    · subst h45
      rw [if_pos rfl, hsz, hm, digits_minus]
      refine ⟨hall, by rw [htl]; omega, fun q x hx => ?_⟩
      rw [← hat, ← List.getElem?_take_of_lt (j := cw digI (l.drop (a + 1)))]
      · exact hx
      · have := (List.getElem?_eq_some_iff.1 hx).1
        rw [htl] at this
        exact this
    · rw [if_neg h45, hsz, hm, digits_plus h45]
      have hcd : digI c.toNat = true := by simpa [h45] using hc
      refine ⟨fun b hb => ?_, by rw [List.length_cons, htl], fun q x hx => ?_⟩
      · rcases List.mem_cons.1 hb with rfl | hb
        · exact hcd
        · exact hall b hb
      · cases q with
        | zero => simp at hx; subst hx; exact h0
        | succ q =>
          have hx' : ((l.drop (a + 1)).take (cw digI (l.drop (a + 1))))[q]? = some x := by simpa using hx
          have := (List.getElem?_eq_some_iff.1 hx').1
          rw [htl] at this
          rw [show a + (q + 1) = a + 1 + q by omega, ← hat, ← List.getElem?_take_of_lt this]
          exact hx'
  refine { sz := tx_size l, len := rfl, cnt := hsz.symm, fits := by rw [hsz]; omega, dig := hbits.1, from_ := hbits.2.1, at_ := hbits.2.2, bad := fun e => ?_, fol := fun e => ?_, lim := fun e e' h => ?_, ok := fun e e' h => ?_, folE := fun e => ?_, folX := fun x hx => ?_ }
  · rw [hr, e]; rfl
  · rw [hr, e, Bool.or_true, if_pos rfl]
  · rw [hr, e, e', if_neg (by simp), if_pos h]
  · rw [hr, e, e', if_neg (by simp), if_neg (by omega)]
    obtain ⟨hs, _, hor⟩ := hpt e
    rw [hs]
    rcases hor with ⟨h45, hd, _, _, ha⟩ | ⟨h45, _, hd, _, ha⟩
    · rw [ha, Option.getD_some]
      rw [if_pos h45, hd] at hv
      rw [show (-(dv 0 ((l.drop (a + 1)).take (cw digI (l.drop (a + 1)))) : Int)) = v by omega]
    · rw [ha, Option.getD_some]
      rw [if_neg h45, hd] at hv
      rw [hv]
  · rw [hfol, List.drop_eq_nil_of_le (by omega)]
  · obtain ⟨hx1, hx2⟩ := List.getElem?_eq_some_iff.1 hx
    rw [hfol, List.drop_eq_getElem_cons hx1, hx2]

theorem form_minus {t : List UInt8} : (t.take (cw digI t) = [] → numForm (45 :: t) = false) ∧ (∀ d r, t.take (cw digI t) = d :: r → numForm (45 :: t) = !(d == 48)) := by
  have hd := digits_minus t
  have hle := cw_le digI t
  refine ⟨fun e => ?_, fun d r e => ?_⟩
  · unfold numForm
    rw [hd, e]
  · have hlen := congrArg List.length e
    rw [List.length_take, List.length_cons] at hlen
    unfold numForm
    rw [hd, e, show numSize (45 :: t) = cw digI t + 1 by unfold numSize; rw [List.drop_succ_cons, List.drop_zero, Nat.add_comm]]
    show (!(d == 48) || cw digI t + 1 == 1) = _
    rw [show (cw digI t + 1 == 1) = false by simp; omega, Bool.or_false]

theorem number_any (l : List UInt8) (a : Nat) (c : UInt8) (w : World) (hlen : l.length ≤ 1099511627776) (h0 : l[a]? = some c) (hc : (digI c.toNat || c == 45) = true) :
    Calls Tryd.prog 39 #[.string (tx l), .int .i64 a] w fun e w' => e = .returned (numV (rdNum (l.drop a))) ∧ w = w' := by
  obtain ⟨ha, hc0⟩ := List.getElem?_eq_some_iff.1 h0
  have hm : l.drop a = c :: l.drop (a + 1) := by rw [List.drop_eq_getElem_cons ha, hc0]
  have hsz : numSize (l.drop a) = cw digI (l.drop (a + 1)) + 1 := by rw [hm]; unfold numSize; rw [List.drop_succ_cons, List.drop_zero, Nat.add_comm]
  by_cases h45 : c = 45
  · subst h45
    have h := refN_of h0 hc (-(dv 0 (numDigits (l.drop a)) : Int)) (by rw [if_pos rfl]; omega)
    rw [if_pos rfl] at h
    refine numberM_any l _ _ a _ _ _ _ _ w h hlen h0 (fun e => ?_) (fun e => ?_) (fun e d hd hn => ?_) (by omega)
    · rw [hm]
      exact form_minus.1 (by rw [hsz] at e; rw [show cw digI (l.drop (a + 1)) = 0 by omega]; rfl)
    · rw [hm]
      have hd := h.dig
      cases hx : (l.drop (a + 1)).take (cw digI (l.drop (a + 1))) with
      | nil => exact form_minus.1 hx
      | cons d r =>
        have h1 := form_minus.2 d r hx
        have h2 := h.at_ 0 d (by rw [hm, digits_minus, hx]; rfl)
        rw [Nat.add_zero, e] at h2
        rw [h1, ← Option.some.inj h2]
        rfl
    · rw [hm]
      cases hx : (l.drop (a + 1)).take (cw digI (l.drop (a + 1))) with
      | nil =>
        exfalso
        have := congrArg List.length hx
        have hle := cw_le digI (l.drop (a + 1))
        rw [List.length_take, List.length_nil] at this
        omega
      | cons y r =>
        have h1 := form_minus.2 y r hx
        have h2 := h.at_ 0 y (by rw [hm, digits_minus, hx]; rfl)
        rw [Nat.add_zero, hd] at h2
        rw [h1, ← Option.some.inj h2]
        simpa using hn
  · have h := refN_of h0 hc (dv 0 (numDigits (l.drop a)) : Int) (by rw [if_neg h45])
    rw [if_neg h45] at h
    have hform : numForm (l.drop a) = (!(c == 48) || numSize (l.drop a) == 1) := by
      rw [hm]
      unfold numForm
      rw [digits_plus h45]
    by_cases h48 : c = 48
    · subst h48
      refine numberZ_any l _ _ a _ _ _ _ _ w h hlen h0 (fun e => ?_) (fun e => ?_) rfl
      · rw [hform, e]; rfl
      · rw [hform]; simpa using e
    · refine numberN_any l _ _ a _ _ _ _ _ c (fun e => h45 (UInt8.toNat_inj.1 (by simp; omega))) (fun e => h48 (UInt8.toNat_inj.1 (by simp; omega))) w h hlen h0 ?_ rfl
      rw [hform]
      simp [h48]

/-- the token of the reference has its offset -/
def rdAt (a : Nat) (z : Rd) : Rd := if z.2.2 = 0 then ({ z.1 with at_ := a }, z.2) else z
theorem rdNum_three (m : List UInt8) : rdNum m = (.zero, 0, 3) ∨ rdNum m = (.zero, 0, 9) ∨ ∃ v k, rdNum m = (⟨2, [], v, 0⟩, k, 0) := by
  unfold rdNum
  split
  · exact .inl rfl
  · split
    · exact .inr (.inl rfl)
    · exact .inr (.inr ⟨_, _, rfl⟩)
end Go.Proofs.YtggdblmjnbnddaaDoor.W
