/-
  fretsawref01.(*Reader).Text, Ints: the calls take the steps of the plain functions. Conditions: what is read are bytes; the reader's block is known; the slice's capacity is not less than its length; the limit has 64 bits.
-/
import Derived.Test.YtfphdpcffjpbjaaRefBytes
namespace Go.Proofs.Ytfphdpcffjpbjaa.W
open Go.RowKit Go.Proofs.Ytfphdpcffjpbjaa.Pl

theorem loop_rd {α : Type} {z : α} {s : Step α} : ∀ (n : Nat) (acc : List α) (L : List Int), (loopL (rd z s) n acc L false).2.2 = (loopL s n acc L false).2.2 ∧ ((loopL s n acc L false).2.2 = false → loopL (rd z s) n acc L false = loopL s n acc L false)
  | 0, acc, L => ⟨rfl, fun _ => rfl⟩
  | n + 1, acc, L => by
    have h1 : 0 < n + 1 := by omega
    rw [loopL_step _ h1, loopL_step _ h1]
    simp only [Nat.add_sub_cancel]
    cases hs : (s L false).2.2 with
    | true =>
      rw [rd_bad hs]
      simp only
      rw [loopL_failed, loopL_failed]
      exact ⟨rfl, fun h => by cases h⟩
    | false =>
      rw [rd_good hs]
      simp only
      exact loop_rd n _ _
theorem list_bad {α : Type} {s : Step α} {max : Int} {L : List Int} (h : (sBounded 0 max L false).2.2 = true) : (sList max s L false).2.2 = true := by
  unfold sList
  rw [h, loopL_failed]
theorem list_rd {α : Type} {s : Step α} {max : Int} {L L1 : List Int} {m : Nat} (h : sBounded 0 max L false = ((m : Int), L1, false)) : sList max s L false = loopL s m [] L1 false := by
  unfold sList
  rw [h]
  rfl
/-- behind the loop, a step has failed -/
theorem list_fail {α : Type} {z : α} {s : Step α} {max : Int} {L L1 : List Int} {m : Nat} (h : sBounded 0 max L false = ((m : Int), L1, false)) (hl : (loopL (rd z s) m [] L1 false).2.2 = true) : rd [] (sList max s) L false = ([], L, true) := by
  refine rd_bad ?_
  rw [list_rd h, ← (loop_rd (z := z) m [] L1).1]
  exact hl
theorem list_good {α : Type} {z : α} {s : Step α} {max : Int} {L L1 r : List Int} {m : Nat} {x : List α} (h : sBounded 0 max L false = ((m : Int), L1, false)) (hl : loopL (rd z s) m [] L1 false = (x, r, false)) : rd [] (sList max s) L false = (x, r, false) := by
  refine rd_ok ?_
  have h2 := loop_rd (z := z) (s := s) m [] L1
  rw [list_rd h, ← h2.2 (by rw [← h2.1, hl]), hl]
theorem suf_rd {α : Type} {z : α} {s : Step α} (hs : Suf s) : Suf (rd z s) := fun l f => by
  unfold rd
  split
  · exact ⟨0, rfl⟩
  · split
    · exact ⟨0, rfl⟩
    · exact hs l false
theorem eats_rd {α : Type} {z : α} {s : Step α} (hs : Eats s) : Eats (rd z s) := fun l h => by
  cases hq : (s l false).2.2 with
  | true => rw [rd_bad hq] at h; cases h
  | false => rw [rd_good hq]; exact hs l hq

theorem RefR.grown {w w' : World} {R : Nat} {v : Value} {l : List Int} {k : Nat} {f : Bool} {row : Option Nat} (h : RefR w R v l k f) (hg : w.grownBy w' row) (h1 : row ≠ some R) (h2 : v.ownBlock = none ∨ v.ownBlock ≠ row) : RefR w' R v l k f :=
  ⟨(hg.block R (block_lt h.1) (fun e => h1 e.symm)).trans h.1, h.2.1.grown hg h2, h.2.2⟩
/-- where the bytes lie: below the call's own blocks -/
theorem RefR.low {w : World} {R : Nat} {v : Value} {l : List Int} {k : Nat} {f : Bool} (h : RefR w R v l k f) (hl : 0 < l.length) : ∃ g, v.ownBlock = some g ∧ g < w.heap.size := by
  obtain ⟨_, hs, _⟩ := h
  obtain ⟨hlen, A, c, rfl, hc⟩ := hs
  obtain ⟨ad, rfl, hb, _⟩ := hc hl
  exact ⟨_, rfl, hb⟩
/-- a reader beside appends to a row of the call's own -/
theorem RefR.push {w1 w' : World} {R B : Nat} {v : Value} {l : List Int} {k : Nat} {f : Bool} {b u : Value} (h : RefR w1 R v l k f) (hg : Grew w1 w' b u) (hb : ∀ j, b.ownBlock = some j → B ≤ j) (hR : R < B) (hv : ∀ g, v.ownBlock = some g → g < B) : RefR w' R v l k f :=
  h.grown hg.by_ (fun e => by have := hb R e; omega) (by
    cases hq : v.ownBlock with
    | none => exact .inl rfl
    | some g => exact .inr (fun e => by have := hb g e.symm; have := hv g hq; omega))

set_option maxRecDepth 100000 in
set_option maxHeartbeats 400000 in
theorem refText_any (R : Nat) (v : Value) (l : List Int) (k : Nat) (f : Bool) (hi : Int) (w : World) (h : RefR w R v l k f) (hb : By l) (hcap : Cap v l.length) (hlen : l.length ≤ 1099511627776) :
    Calls Try.prog 44 #[.pointer (some ⟨R, 0, none⟩), .int .i64 hi] w (RDec IsText (rd [] (sBytes hi)) w R v l k f) := by
  go_enter Try.func44, Try.ntmps44
  go_wp2_with (go_at_call 45; ((with_reducible refine (refBytes_any R v l k f hi _ h hb hcap hlen).mono ?_); rintro e w1 ⟨u1, k1, rfl, hv1, hr1, hk1, hg1⟩; have hco := hv1.src.convert; have HV := Lib.hid hv1; have HK := Lib.hid hk1; have HR := Lib.hid hr1; have HG := Lib.hid hg1; clear hv1 hr1 hk1 hg1))
  go_ret
  exact ⟨_, _, rfl, rfl, HR.out, HK.out, HG.out⟩

set_option maxRecDepth 100000 in
set_option maxHeartbeats 1600000 in
theorem refInts_any (R : Nat) (v : Value) (l : List Int) (k : Nat) (f : Bool) (max : Int) (w : World) (h : RefR w R v l k f) (hb : By l) (hlen : l.length ≤ 1099511627776) (hmax : max ≤ 9223372036854775807) (hvb : ∀ g, v.ownBlock = some g → g < w.heap.size) :
    Calls Try.prog 46 #[.pointer (some ⟨R, 0, none⟩), .int .i64 max] w (RDec (IsInts w.heap.size) (rd [] (sList max sInt)) w R v l k f) := by
  obtain ⟨c0, c1, c2, d0, d1, d2⟩ := h.cells
  obtain ⟨n, r, f1, hs⟩ : ∃ n r f1, rd 0 (sBounded 0 max) (l.drop k) f = (n, r, f1) := ⟨_, _, _, rfl⟩
  have HS := Lib.hid hs
  have hkl := h.2.2.2.1
  have hRw := block_lt h.1
  cases f1 with
  | true =>
    have hd := Lib.hid (rd_fail_of (t := sList max sInt) (y := []) hs list_bad)
    obtain ⟨rfl, rfl⟩ := rd_true hs
    clear hs
    go_enter Try.func46, Try.ntmps46
    go_wp2_with (go_at_call 42; ((with_reducible refine (refBounded_any R _ l k f 0 max _ h hb).mono ?_); rintro e w1 ⟨u1, k1, rfl, hv1, hr1, hk1, hg1⟩; rw [HS.out] at hv1 hr1 hk1; (obtain rfl : u1 = .int .i64 0 := hv1); (obtain rfl := drop_eq hk1 hr1.2.2.2.1 hkl); (obtain ⟨e0, e1, e2, _, _, _⟩ := hr1.cells); clear hk1))
    refine wp_loop_rounds 1 ?_
    rw [rounds_succ]
    go_wp2_with (go_at_call 80; ((with_reducible refine (refFail_any R _ l k1 k1 true _ hr1 hkl).mono ?_); rintro e w2 ⟨rfl, hr2, hg2⟩))
    go_ret
    exact rdec_fail hr2 (hg1.trans hg2) hd.out (OwnI.nil _ _)
  | false =>
    obtain ⟨rfl, hs2⟩ := rd_false hs
    have hrg := sBounded_range max (l.drop k) false
    rw [hs2] at hrg
    obtain ⟨m, rfl⟩ : ∃ m : Nat, n = m := ⟨n.toNat, by have := hrg.1; omega⟩
    have hn1 : (m : Int) ≤ 9223372036854775807 := by rcases hrg.2 with e | e <;> simp at e <;> omega
    have hl := h.2.2.1
    have HS2 := Lib.hid hs2
    have HVB := Lib.hid hvb
    clear hs hs2 hrg hvb
    go_enter Try.func46, Try.ntmps46
    go_wp2_with (go_at_call 42; ((with_reducible refine (refBounded_any R _ l k false 0 max _ h hb).mono ?_); rintro e w1 ⟨u1, k1, rfl, hv1, hr1, hk1, hg1⟩; rw [HS.out] at hv1 hr1 hk1; (obtain rfl : u1 = .int .i64 m := hv1); have HK := Lib.hid hk1; clear hk1))
    go_loopw [7, 8] (fun u i wr => ∃ (j : Nat) (acc : List Int) (k2 : Nat) (f2 : Bool), j ≤ m ∧ i = .int .i64 j ∧ OwnI wr w.heap.size u acc ∧ RefR wr R v l k2 f2 ∧ w.grownBy wr (some R) ∧
        loopL (rd 0 sInt) (m - j) acc (l.drop k2) f2 = loopL (rd 0 sInt) m [] (l.drop k1) false ∧ acc.length ≤ k2 + 1 ∧ (f2 = false → acc.length ≤ k2)) (fun _ i _ => m - (intOf i).toNat)
    case atStart => exact ⟨0, [], k1, false, by omega, rfl, OwnI.nil _ _, hr1, hg1, rfl, by simp, fun _ => by simp⟩
    case round =>
      obtain ⟨j, acc, k2, f2, hj, rfl, hown, hr2, hg2, hloop, hb1, hb2⟩ := hrel
      have HL := Lib.hid hloop
      have HB2 := Lib.hid hb2
      have HO := Lib.hid hown
      have hk2l := hr2.2.2.2.1
      clear hloop hb2 hr1 hg1 hown
      obtain ⟨q0, q1, q2, q3, q4, q5⟩ := hr2.cells
      cases f2 with
      | true =>
        have hfin := Lib.hid (show rd [] (sList max sInt) (l.drop k) false = ([], l.drop k, true) from list_fail (z := 0) HS2.out (by rw [← HK.out, ← HL.out, loopL_failed]))
        by_cases hlt : j < m
        · have hd1 : decide ((j : Int) < (m : Int)) = true := decide_eq_true (by omega)
          go_wp2_with (go_at_call 80; ((with_reducible refine (refFail_any R _ l k2 k true _ hr2 hkl).mono ?_); rintro e w3 ⟨rfl, hr3, hg3⟩))
          go_ret
          exact rdec_fail hr3 (hg2.trans hg3) hfin.out (OwnI.nil _ _)
        · have hd1 : decide ((j : Int) < (m : Int)) = false := decide_eq_false (by omega)
          go_wp2_with (go_at_call 80; ((with_reducible refine (refFail_any R _ l k2 k true _ hr2 hkl).mono ?_); rintro e w3 ⟨rfl, hr3, hg3⟩))
          go_ret
          exact rdec_fail hr3 (hg2.trans hg3) hfin.out (OwnI.nil _ _)
      | false =>
        by_cases hlt : j < m
        · obtain ⟨x, l2, f3, hs3⟩ : ∃ x l2 f3, rd 0 sInt (l.drop k2) false = (x, l2, f3) := ⟨_, _, _, rfl⟩
          have hst := Lib.hid (show loopL (rd 0 sInt) (m - (j + 1)) (acc ++ [x]) l2 f3 = loopL (rd 0 sInt) m [] (l.drop k1) false by
            rw [← HL.out, loopL_step (rd 0 sInt) (by omega), hs3]
            rfl)
          have heat := Lib.hid (show f3 = false → l2.length < l.length - k2 from fun e => by have := eats_rd (z := (0 : Int)) eats_sInt (l.drop k2); rw [hs3, List.length_drop] at this; exact this e)
          have hle : l2.length ≤ l.length - k2 := by have := suf_le (suf_rd (z := (0 : Int)) suf_sInt) (l.drop k2) false; rw [hs3, List.length_drop] at this; exact this
          have HS3 := Lib.hid hs3
          have hacc := HB2.out rfl
          have hd1 : decide ((j : Int) < (m : Int)) = true := decide_eq_true (by omega)
          clear hs3
          go_wp2_with (first
            | (go_at_call 41; ((with_reducible refine (refInt_any R v l k2 false _ hr2 hb).mono ?_); rintro e w3 ⟨u3, k3, rfl, hv3, hr3, hk3, hg3⟩; rw [HS3.out] at hv3 hr3 hk3; (obtain rfl : u3 = .int .i64 x := hv3); have HK3 := Lib.hid hk3; clear hk3))
            | (at_builtin; refine wp_pushG rfl (.tmp 28) (.tmp 31) 37 3 1 8 (.int .i64 0) rfl Try.underlying37 info_int rfl (by omega) w.heap.size acc.length _ (ints acc) [.int .i64 x] rfl (own_row HO.out hg3 hRw) rfl ?_ rfl ?_ ?_ (Nat.le_trans hg2.size hg3.size) ?_; (intro u hu; simp at hu; subst hu; rfl); omega; omega; intro u4 w4 own4 gr4))
          go_roundw
          case rel =>
            have ho4 := own_from (own_row HO.out hg3 hRw)
            have e3 : l2.length = l.length - k3 := by rw [← HK3.out, List.length_drop]
            have hk3l := hr3.2.2.2.1
            refine ⟨j + 1, acc ++ [x], k3, f3, by omega, by go_num, ?_, hr3.push gr4 ho4 hRw HVB.out, grown_push (hg2.trans hg3) gr4 ho4 (Nat.le_refl _), by rw [HK3.out]; exact hst.out, ?_, ?_⟩
            · unfold OwnI
              rw [ints_snoc, List.length_append]
              exact own4
            · simp; omega
            · intro e
              have := heat.out e
              simp
              omega
          case measure => simp [intOf]; omega
        · obtain rfl : j = m := by omega
          have hfin := Lib.hid (show rd [] (sList max sInt) (l.drop k) false = (acc, l.drop k2, false) from list_good (z := 0) HS2.out (by rw [← HK.out, ← HL.out, Nat.sub_self]; rfl))
          have hd1 : decide ((j : Int) < (j : Int)) = false := decide_eq_false (by omega)
          go_wp2
          go_ret
          exact rdec_good hr2 hg2 hfin.out rfl HO.out
end Go.Proofs.Ytfphdpcffjpbjaa.W
