/-
  wire.list at rings, (*wire.cursor).shape: at a cursor the calls read a number and as many rings, an outer ring and holes. Conditions: what is left are bytes, at most 2^40.
-/
import Derived.Test.YtfphdpcffjpbjaaListV
namespace Go.Proofs.Ytfphdpcffjpbjaa.W
open Go.RowKit Go.Proofs.Ytfphdpcffjpbjaa.Pl

theorem sInt_keeps_failed (l : List Int) : (sInt l true).2.2 = true := sInt_failed l
theorem eats_sBounded (lo hi : Int) : Eats (sBounded lo hi) := fun l h => by
  unfold sBounded at h ⊢
  split
  · rename_i h1; rw [if_pos h1] at h; cases h
  · rename_i h1; rw [if_neg h1] at h; exact eats_sInt l h
theorem loopL_le {α : Type} {s : Step α} (hs : Suf s) (k : Nat) (acc : List α) (l : List Int) (f : Bool) : (loopL s k acc l f).2.1.length ≤ l.length := by
  unfold Suf at hs
  induction k generalizing acc l f with
  | zero => exact Nat.le_refl _
  | succ k ih =>
    cases f with
    | true => rw [loopL_failed]; exact Nat.le_refl _
    | false =>
      rw [loopL_step s (by omega)]
      exact Nat.le_trans (ih _ _ _) (suf_le hs l false)
theorem eats_sList {α : Type} {s : Step α} (max : Int) (hs : Suf s) : Eats (sList max s) := fun l h => by
  unfold sList at h ⊢
  have h1 : (sBounded 0 max l false).2.2 = false := by
    cases hf : (sBounded 0 max l false).2.2 with
    | false => rfl
    | true => rw [hf, loopL_failed] at h; cases h
  have e1 := eats_sBounded 0 max l h1
  have e2 := loopL_le hs (sBounded 0 max l false).1.toNat [] (sBounded 0 max l false).2.1 (sBounded 0 max l false).2.2
  omega
theorem suf_loop {α : Type} {s : Step α} (hs : Suf s) : ∀ (k : Nat) (acc : List α) (l : List Int) (f : Bool), ∃ j, (loopL s k acc l f).2.1 = l.drop j
  | 0, _, l, _ => ⟨0, rfl⟩
  | k + 1, acc, l, f => by
    cases f with
    | true => exact ⟨0, by rw [loopL_failed]; rfl⟩
    | false =>
      obtain ⟨i, hi⟩ := hs l false
      obtain ⟨j, hj⟩ := suf_loop hs k (acc ++ [(s l false).1]) (s l false).2.1 (s l false).2.2
      refine ⟨i + j, ?_⟩
      rw [loopL_step s (by omega)]
      show (loopL s k _ _ _).2.1 = _
      rw [hj, hi, List.drop_drop]
theorem suf_sL {α : Type} {s : Step α} (max : Int) (hs : Suf s) : Suf (sList max s) := fun l f => by
  obtain ⟨k, hk⟩ := suf_sBounded 0 max l f
  obtain ⟨j, hj⟩ := suf_loop hs (sBounded 0 max l f).1.toNat [] (sBounded 0 max l f).2.1 (sBounded 0 max l f).2.2
  exact ⟨k + j, by unfold sList; rw [hj, hk, List.drop_drop]⟩

def sRing : Step (List (Int × Int)) := sList 40 sVec
theorem suf_sRing : Suf sRing := suf_sL 40 suf_sVec
theorem eats_sRing : Eats sRing := eats_sList 40 suf_sVec

/-- a row of rings, each a row of its own -/
def OwnR (w : World) (B : Nat) (v : Value) (rs : List (List (Int × Int))) : Prop :=
  ∃ vals : List Value, w.ownsRow B 42 1 v rs.length vals ∧ vals.length = rs.length ∧ ∀ (i : Nat) (u : Value) (r : List (Int × Int)), vals[i]? = some u → rs[i]? = some r → OwnV w B u r
theorem OwnR.nil (w : World) (B : Nat) : OwnR w B (.slice none 0 0) [] := ⟨[], World.ownsRow_nil _ _ _ _, rfl, fun i u r h => by simp at h⟩
theorem OwnR.row {w w' : World} {B C : Nat} {v : Value} {rs : List (List (Int × Int))} (h : OwnR w B v rs) (hg : w.grownBy w' (some C)) (hC : C < B) : OwnR w' B v rs := by
  obtain ⟨vals, h1, h2, h3⟩ := h
  exact ⟨vals, own_row h1 hg hC, h2, fun i u r hu hr => own_row (h3 i u r hu hr) hg hC⟩
theorem OwnR.below {w w' : World} {B : Nat} {v : Value} {rs : List (List (Int × Int))} (h : OwnR w B v rs) (hb : Below w.heap.size w w') : OwnR w' B v rs := by
  obtain ⟨vals, h1, h2, h3⟩ := h
  exact ⟨vals, own_below h1 hb, h2, fun i u r hu hr => own_below (h3 i u r hu hr) hb⟩
theorem OwnR.less {w : World} {B B' : Nat} {v : Value} {rs : List (List (Int × Int))} (h : OwnR w B v rs) (hB : B' ≤ B) : OwnR w B' v rs := by
  obtain ⟨vals, h1, h2, h3⟩ := h
  exact ⟨vals, own_less h1 hB, h2, fun i u r hu hr => own_less (h3 i u r hu hr) hB⟩
def IsRings (B : Nat) (w : World) (v : Value) (rs : List (List (Int × Int))) : Prop := OwnR w B v rs

theorem rows_ne {w : World} {B B' e e' size size' n n' : Nat} {v v' : Value} {vs vs' : List Value} (h : w.ownsRow B e size v n vs) (h' : w.ownsRow B' e' size' v' n' vs') (hne : e ≠ e') : v.ownBlock = none ∨ v.ownBlock ≠ v'.ownBlock := by
  rcases h.2 with ⟨rfl, _⟩ | ⟨g, cap, cur, rfl, _, hg, _⟩
  · exact .inl rfl
  · rcases h'.2 with ⟨rfl, _⟩ | ⟨g', cap', cur', rfl, _, hg', _⟩
    · exact .inr (by simp [Value.ownBlock])
    · refine .inr ?_
      simp only [Value.ownBlock, ne_eq, Option.some.injEq]
      rintro rfl
      rw [hg] at hg'
      injection hg' with hg'
      injection hg' with _ ht
      exact hne ht

theorem OwnR.push {w w' : World} {B : Nat} {v v' u : Value} {rs : List (List (Int × Int))} {x : List (Int × Int)} {vals : List Value} (h1 : w.ownsRow B 42 1 v rs.length vals) (h2 : vals.length = rs.length)
    (h3 : ∀ (i : Nat) (u : Value) (r : List (Int × Int)), vals[i]? = some u → rs[i]? = some r → OwnV w B u r) (hu : OwnV w B u x) (hg : Grew w w' v v') (h4 : w'.ownsRow B 42 1 v' (rs.length + 1) (vals ++ [u])) : OwnR w' B v' (rs ++ [x]) := by
  refine ⟨vals ++ [u], by rw [List.length_append]; exact h4, by simp [h2], fun i y r hy hr => ?_⟩
  have keep : ∀ y r, OwnV w B y r → OwnV w' B y r := fun y r hh => World.ownsRow.kept hh hg.by_ (rows_ne hh h1 (by decide))
  rcases Nat.lt_or_ge i rs.length with hi | hi
  · rw [List.getElem?_append_left (by omega)] at hy hr
    exact keep y r (h3 i y r hy hr)
  · rw [List.getElem?_append_right (by omega)] at hy hr
    rw [h2] at hy
    cases hk : i - rs.length with
    | zero =>
      rw [hk] at hy hr
      simp at hy hr
      subst hy hr
      exact keep _ _ hu
    | succ k => rw [hk] at hy; simp at hy

set_option maxRecDepth 100000 in
theorem ringc_dec (C g : Nat) (l : List Int) (f : Bool) (w : World) (h : Rec w 107 C g l f) (hb : By l) (hl : l.length ≤ 1099511627776) :
    Calls Try.prog 84 #[.pointer (some ⟨C, 0, none⟩)] w (Dec 107 (IsVecs w.heap.size) sRing w C g l f) := by
  go_enter Try.func84, Try.ntmps84
  go_wp2_with fail
  refine (ring_dec C g 40 l f _ h hb hl (by omega)).mono ?_
  rintro e w1 ⟨v1, rfl, hv, hrec, hgr⟩
  go_wp2
  go_ret
  exact ⟨_, rfl, hv, hrec, hgr⟩

set_option maxRecDepth 100000 in
set_option maxHeartbeats 1000000 in
theorem listR_dec (C g : Nat) (max : Int) (l : List Int) (f : Bool) (w : World) (h : Rec w 107 C g l f) (hb : By l) (hl : l.length ≤ 1099511627776) (hmax : max ≤ 9223372036854775807) :
    Calls Try.prog 83 #[.pointer (some ⟨C, 0, none⟩), .int .i64 max, .func (.func 84) #[] #[]] w (Dec 107 (IsRings w.heap.size) (sList max sRing) w C g l f) := by
  obtain ⟨n, l0, f0, hs⟩ : ∃ n l0 f0, sBounded 0 max l f = (n, l0, f0) := ⟨_, _, _, rfl⟩
  have hr := sBounded_range max l f
  have hl0 : l0.length ≤ 1099511627776 := by
    have h1 : l0.length ≤ l.length := by have := suf_le (suf_sBounded 0 max) l f; rw [hs] at this; exact this
    omega
  have hb0 : By l0 := by have := (suf_sBounded 0 max).by_ (f := f) hb; rw [hs] at this; exact this
  have hgl : l0 ≠ [] → g < w.heap.size := fun hn => by
    obtain ⟨_, _, hrr, _⟩ := id h
    refine hrr.lt_ ?_
    have := (suf_sBounded 0 max).ne (l := l) (f := f)
    rw [hs] at this
    exact this hn
  rw [hs] at hr
  obtain ⟨k0, rfl⟩ : ∃ k0 : Nat, n = k0 := ⟨n.toNat, by have := hr.1; omega⟩
  have hn1 : (k0 : Int) ≤ 9223372036854775807 := by rcases hr.2 with e | e <;> simp at e <;> omega
  have hd := Lib.hid (show sList max sRing l f = loopL sRing k0 [] l0 f0 by unfold sList; rw [hs]; rfl)
  have hC := h.lt
  have HS := Lib.hid hs
  have HG := Lib.hid hgl
  clear hs hr hgl
  go_enter Try.func83, Try.ntmps83
  go_wp2_with (go_at_call 60; go_must (refine (bounded_dec C g 0 max l f _ h hb).mono ?_); rintro e w1 ⟨v1, rfl, hv, hrec, hgr⟩; rw [HS.out] at hv hrec; (obtain rfl : v1 = .int .i64 k0 := hv))
  go_loopw [8, 9] (fun v i wr => ∃ (j : Nat) (acc : List (List (Int × Int))) (l1 : List Int) (f1 : Bool), j ≤ k0 ∧ i = .int .i64 j ∧ OwnR wr w.heap.size v acc ∧ Rec wr 107 C g l1 f1 ∧ w.grownBy wr (some C) ∧
      loopL sRing (k0 - j) acc l1 f1 = loopL sRing k0 [] l0 f0 ∧ acc.length + l1.length ≤ 1099511627777 ∧ (f1 = false → acc.length + l1.length ≤ 1099511627776) ∧ By l1 ∧ (l1 ≠ [] → g < w.heap.size)) (fun _ i _ => k0 - (intOf i).toNat)
  case atStart => exact ⟨0, [], l0, f0, by omega, rfl, OwnR.nil _ _, hrec, hgr, rfl, by simp; omega, fun _ => by simp; omega, hb0, HG.out⟩
  case round =>
    obtain ⟨j, acc, l1, f1, hj, rfl, hown, hrec1, hgr1, hloop, hb1, hb2, hby, hg1⟩ := hrel
    have HL := Lib.hid hloop
    have HG1 := Lib.hid hg1
    have HB2 := Lib.hid hb2
    have HO := Lib.hid hown
    clear hloop hg1 hb2 hrec hgr hown
    obtain ⟨rest1, q, hr1, _⟩ := id hrec1
    obtain ⟨q0, q1, q2, q3⟩ := two_cell q
    clear q hr1
    by_cases hlt : j < k0
    · cases f1 with
      | true =>
        have hfin := Lib.hid (show loopL sRing k0 [] l0 f0 = (acc, l1, true) by rw [← HL.out, loopL_failed])
        have hd1 : decide ((j : Int) < (k0 : Int)) = true := decide_eq_true (by omega)
        go_wp2
        go_ret
        exact ⟨_, rfl, by rw [hd.out, hfin.out]; exact HO.out, by rw [hd.out, hfin.out]; exact hrec1, hgr1⟩
      | false =>
        obtain ⟨x, l2, f2, hs2⟩ : ∃ x l2 f2, sRing l1 false = (x, l2, f2) := ⟨_, _, _, rfl⟩
        have hst := Lib.hid (show loopL sRing (k0 - (j + 1)) (acc ++ [x]) l2 f2 = loopL sRing k0 [] l0 f0 by
          rw [← HL.out, loopL_step sRing (by omega), hs2]
          rfl)
        have hle : l2.length ≤ l1.length := by have := suf_le suf_sRing l1 false; rw [hs2] at this; exact this
        have heat := Lib.hid (show f2 = false → l2.length < l1.length from fun e => by have := eats_sRing l1; rw [hs2] at this; exact this e)
        have hby2 : By l2 := by have := suf_sRing.by_ (f := false) hby; rw [hs2] at this; exact this
        have hne2 := Lib.hid (show l2 ≠ [] → l1 ≠ [] from fun e => by have := suf_sRing.ne (l := l1) (f := false); rw [hs2] at this; exact this e)
        have HS2 := Lib.hid hs2
        have hacc := HB2.out rfl
        obtain ⟨vals, hrow, hvl, hels⟩ := HO.out
        have HEL := Lib.hid hels
        clear hels
        clear hs2
        go_wp2_with (first
          | (go_at_call 84; go_must (refine (ringc_dec C g l1 false _ hrec1 hby (by omega)).mono ?_); rintro e w2 ⟨v2, rfl, hv, hrec2, hgr2⟩; rw [HS2.out] at hv hrec2; (obtain ⟨A2, c2, rfl⟩ := (own_src hv).shape); have HV := Lib.hid (own_less (B' := w.heap.size) hv hgr1.size); clear hv)
          | (at_builtin; refine wp_pushG rfl (.tmp 25) (.tmp 29) 58 42 1 24 (.slice none 0 0) rfl Try.underlying58 info_ring rfl (by omega) w.heap.size acc.length _ vals [.slice A2 x.length c2] rfl (own_row hrow hgr2 hC) rfl ?_ rfl ?_ ?_ (Nat.le_trans hgr1.size hgr2.size) ?_; (intro u hu; simp at hu; subst hu; rfl); omega; omega; intro v3 w3 own3 gr3))
        go_roundw
        case rel =>
          have ho3 := own_from (own_row hrow hgr2 hC)
          refine ⟨j + 1, acc ++ [x], l2, f2, by omega, by go_num, ?_, hrec2.push gr3 ho3 hC (fun e => HG1.out (hne2.out e)), grown_push (hgr1.trans hgr2) gr3 ho3 (Nat.le_refl _), hst.out, ?_, ?_, hby2, fun e => HG1.out (hne2.out e)⟩
          · exact OwnR.push (own_row hrow hgr2 hC) hvl (fun i u r hu hr => own_row (HEL.out i u r hu hr) hgr2 hC) HV.out gr3 own3
          · simp; omega
          · intro e
            have := heat.out e
            simp
            omega
        case measure => simp [intOf]; omega
    · obtain rfl : j = k0 := by omega
      have hfin := Lib.hid (show loopL sRing j [] l0 f0 = (acc, l1, f1) by rw [← HL.out, Nat.sub_self]; rfl)
      have hd1 : decide ((j : Int) < (j : Int)) = false := decide_eq_false (by omega)
      go_wp2
      go_ret
      exact ⟨_, rfl, by rw [hd.out, hfin.out]; exact HO.out, by rw [hd.out, hfin.out]; exact hrec1, hgr1⟩
end Go.Proofs.Ytfphdpcffjpbjaa.W
