/-
  fretsawref01.(*Reader).Bytes, Text: the calls take the steps of the plain functions. Conditions: what is read are bytes; the reader's block is known; the slice's capacity is not less than its length.
-/
import Derived.Test.YtfphdpcffjpbjaaRefBool
import Derived.Test.YtfphdpcffjpbjaaReads
namespace Go.Proofs.Ytfphdpcffjpbjaa.W
open Go.RowKit Go.Proofs.Ytfphdpcffjpbjaa.Pl

/-- a slice value with room for its elements -/
def Cap (v : Value) (n : Nat) : Prop := ∃ A c, v = .slice A n c ∧ n ≤ c ∧ c ≤ maxLen

theorem rest_of_src {w : World} {v : Value} {l : List Int} (h : Src w 1 v l.length (bytes l)) (hc : Cap v l.length) : ∃ g, Rest w g v l := by
  obtain ⟨A, c, rfl, h1, h2⟩ := hc
  by_cases hl : l = []
  · subst hl
    exact ⟨0, Rest.none_ w 0 A c h2⟩
  · have hpos : 0 < l.length := List.length_pos_iff.2 hl
    obtain ⟨g, o, cc, hv1, hcells⟩ := Src.form h hpos (by omega)
    simp only [Value.slice.injEq] at hv1
    obtain ⟨rfl, _, rfl⟩ := hv1
    exact ⟨g, _, _, rfl, h1, h2, fun _ => ⟨o, rfl, fun i x hx => hcells i _ (by unfold bytes; rw [List.getElem?_map, hx]; rfl)⟩⟩

theorem RefR.below {w w' : World} {R : Nat} {v : Value} {l : List Int} {k : Nat} {f : Bool} (h : RefR w R v l k f) (hb : Below w.heap.size w w') : RefR w' R v l k f :=
  ⟨(hb.block R (block_lt h.1)).trans h.1, h.2.1.below hb, h.2.2⟩

section
variable {w : World} {ops : Array Oper} {o : Oper} {a : Act} {K : Act → World → Prop} {Q : Exit → Act → World → Prop} {E : Prop}
/-- append(s, x...) at a step of a region that draws its order -/
theorem step_app (hgd : o.guard = none) (s x : Operand)
    (ho : o.op = .call { callee := .builtin .append, args := #[s, x], argTypes := #[22, 22] })
    (B : Nat) (v u : Value) (l m : List Int) (hs : a.eval s = v) (hown : OwnB w B v l) (hx : a.eval x = u) (hsrc : Src w 1 u m.length (bytes m))
    (hlen : l.length + m.length ≤ 140737488355328) (hB : B ≤ w.heap.size)
    (h : ∀ v' w', OwnB w' B v' (l ++ m) → Grew w w' v v' → K (a.put o.dst v') w') :
    if Region.wanted o (yielded ops a.tmps) = true then Oper.wp Try.prog o a w K Q else E := by
  have hw : Region.wanted o (yielded ops a.tmps) = true := by simp [Region.wanted, hgd]
  rw [if_pos hw]
  obtain ⟨i0, hi, hz0, hz1, hz2⟩ := info_parts info_u8
  obtain ⟨hl, A, c, rfl, hc⟩ := hsrc
  rcases A with _ | ad
  · have hm : m.length = 0 := by
      rcases Nat.eq_zero_or_pos m.length with h0 | h0
      · exact h0
      · obtain ⟨ad, e, _⟩ := hc h0
        cases e
    obtain rfl : m = [] := List.eq_nil_of_length_eq_zero hm
    have hrun : (Builtin.append_ #[22, 22] o.type #[v, .slice none 0 c]).run Try.prog w = .ok v w := by
      rcases hown.2 with ⟨rfl, h0⟩ | ⟨g, cap, cur, rfl, _, _, hnc, _⟩
      · simp [Builtin.append_, run_underlying Try.underlying22, sizeOf, typeInfo, hi, Builtin.lenOf, Builtin.firstCells]
      · simp [Builtin.append_, run_underlying Try.underlying22, sizeOf, typeInfo, hi, Builtin.lenOf, Builtin.firstCells, hnc, storeCells]
    unfold Oper.wp execOp
    simp only [ho, resolve, invoke, builtin, Sem.run_bind, Sem.run_pure, Result.andThen_ok, List.map_toArray, List.map_cons, List.map_nil, hs, hx, List.length_nil, hrun]
    exact h _ _ (by simpa using hown) (Grew.refl _ _)
  · have hcell : ∀ j u, (bytes m)[j]? = some u → w.cell? (ad.add j) = some u := by
      intro j u hu
      rcases Nat.eq_zero_or_pos m.length with h0 | h0
      · obtain rfl : m = [] := List.eq_nil_of_length_eq_zero h0
        cases hu
      · obtain ⟨ad', e, _, hcc⟩ := hc h0
        have e2 := Option.some.inj e
        subst e2
        exact hcc j u hu
    obtain ⟨v', w', hr, h1, h2, _, h4⟩ := run_append_own_at (P := Try.prog) w B 22 o.type 5 i0 (.int .u8 0) 1 1 Try.underlying22 hi hz0 hz1 hz2 rfl (by decide) v l.length (bytes l) hown ad m.length c (bytes m) hl hcell (bytes_one m) (by unfold maxLen; omega) (by omega) hB
    unfold Oper.wp execOp
    simp only [ho, resolve, invoke, builtin, Sem.run_bind, Sem.run_pure, Result.andThen_ok, List.map_toArray, List.map_cons, List.map_nil, hs, hx, hr]
    refine h v' w' ?_ (Grew.of_append h2 h4)
    unfold OwnB
    rw [bytes_append, List.length_append]
    exact h1
end

theorem bytes_bad {max : Int} {L : List Int} (h : (sBounded 0 max L false).2.2 = true) : (sBytes max L false).2.2 = true := by
  unfold sBytes
  split
  · rfl
  · exact h
theorem grown_below {w w1 w' : World} {row : Option Nat} (h : w.grownBy w1 row) (hb : Below w1.heap.size w1 w') : w.grownBy w' row :=
  ⟨hb.os.trans h.os, hb.tape.trans h.tape, hb.output.trans h.output, Nat.le_trans h.size hb.size, fun k hk hne => (hb.block k (Nat.lt_of_lt_of_le hk h.size)).trans (h.block k hk hne)⟩

set_option maxRecDepth 100000 in
set_option maxHeartbeats 1600000 in
theorem refBytes_any (R : Nat) (v : Value) (l : List Int) (k : Nat) (f : Bool) (hi : Int) (w : World) (h : RefR w R v l k f) (hb : By l) (hcap : Cap v l.length) (hlen : l.length ≤ 1099511627776) :
    Calls Try.prog 45 #[.pointer (some ⟨R, 0, none⟩), .int .i64 hi] w (RDec (IsBytes w.heap.size) (rd [] (sBytes hi)) w R v l k f) := by
  obtain ⟨A, c, rfl⟩ := h.2.1.shape
  obtain ⟨c0, c1, c2, d0, d1, d2⟩ := h.cells
  obtain ⟨n, r, f1, hs⟩ : ∃ n r f1, rd 0 (sBounded 0 hi) (l.drop k) f = (n, r, f1) := ⟨_, _, _, rfl⟩
  have HS := Lib.hid hs
  have hkl := h.2.2.2.1
  cases f1 with
  | true =>
    have hd := Lib.hid (rd_fail_of (t := sBytes hi) (y := []) hs bytes_bad)
    obtain ⟨rfl, rfl⟩ := rd_true hs
    clear hs
    go_enter Try.func45, Try.ntmps45
    go_wp2_with (go_at_call 42; ((with_reducible refine (refBounded_any R _ l k f 0 hi _ h hb).mono ?_); rintro e w1 ⟨u1, k1, rfl, hv1, hr1, hk1, hg1⟩; rw [HS.out] at hv1 hr1 hk1; (obtain rfl : u1 = .int .i64 0 := hv1); (obtain rfl := drop_eq hk1 hr1.2.2.2.1 hkl); (obtain ⟨e0, e1, e2, _, _, _⟩ := hr1.cells); clear hk1))
    go_quiet (fail)
    go_wp2_with (go_at_call 80; ((with_reducible refine (refFail_any R _ l k1 k1 true _ (hr1.drewN _) hkl).mono ?_); rintro e w2 ⟨rfl, hr2, hg2⟩))
    go_ret
    exact rdec_fail hr2 (hg1.trans (grown_drewN hg2)) hd.out (OwnB.nil _ _)
  | false =>
    obtain ⟨rfl, hs2⟩ := rd_false hs
    have hn0 : 0 ≤ n := by have := sBounded_nonneg hi (l.drop k) false; rw [hs2] at this; exact this
    obtain ⟨m, rfl⟩ : ∃ m : Nat, n = m := ⟨n.toNat, by omega⟩
    have hl := h.2.2.1
    by_cases hlong : r.length < m
    · have hd := Lib.hid (rd_no (z := ([] : List Int)) (show sBytes hi (l.drop k) false = ([], r, true) by unfold sBytes; rw [hs2, if_pos (by simp only; omega)]))
      have HL := Lib.hid hlong
      clear hs hs2 hlong
      go_enter Try.func45, Try.ntmps45
      go_wp2_with (go_at_call 42; ((with_reducible refine (refBounded_any R _ l k false 0 hi _ h hb).mono ?_); rintro e w1 ⟨u1, k1, rfl, hv1, hr1, hk1, hg1⟩; rw [HS.out] at hv1 hr1 hk1; (obtain rfl : u1 = .int .i64 m := hv1); (obtain ⟨e0, e1, e2, _, _, _⟩ := hr1.cells); have hk1l := hr1.2.2.2.1; have hrl := congrArg List.length hk1; rw [List.length_drop] at hrl; simp only at hrl; have hlo := HL.out; (have hx1 : IntKind.i64.wrap ((l.length : Int) - k1) = (l.length : Int) - k1 := IntWalk.i64_in _ (by omega)); (have hx2 : decide ((l.length : Int) - k1 < m) = true := decide_eq_true (by omega)); clear hk1 hrl hlo))
      go_quiet (fail)
      go_wp2_with (go_at_call 80; ((with_reducible refine (refFail_any R _ l k1 k false _ (hr1.drewN _) hkl).mono ?_); rintro e w2 ⟨rfl, hr2, hg2⟩))
      go_ret
      exact rdec_fail hr2 (hg1.trans (grown_drewN hg2)) hd.out (OwnB.nil _ _)
    · have hd := Lib.hid (rd_ok (z := ([] : List Int)) (show sBytes hi (l.drop k) false = (r.take m, r.drop m, false) by unfold sBytes; rw [hs2, if_neg (by simp only; omega)]; rfl))
      have HL := Lib.hid hlong
      clear hs hs2 hlong
      go_enter Try.func45, Try.ntmps45
      go_wp2_with (go_at_call 42; ((with_reducible refine (refBounded_any R _ l k false 0 hi _ h hb).mono ?_); rintro e w1 ⟨u1, k1, rfl, hv1, hr1, hk1, hg1⟩; rw [HS.out] at hv1 hr1 hk1; (obtain rfl : u1 = .int .i64 m := hv1); (obtain ⟨e0, e1, e2, e3, e4, e5⟩ := hr1.cells); have hk1l := hr1.2.2.2.1; have hrl := congrArg List.length hk1; rw [List.length_drop] at hrl; simp only at hrl; have hlo := HL.out; (have hx1 : IntKind.i64.wrap ((l.length : Int) - k1) = (l.length : Int) - k1 := IntWalk.i64_in _ (by omega)); (have hx2 : decide ((l.length : Int) - k1 < m) = false := decide_eq_false (by omega)); (have hkm : k1 + m ≤ l.length := by omega); have HK := Lib.hid hk1; clear hk1 hrl hlo))
      go_quiet (fail)
      go_wp2
      obtain ⟨k2, hk2⟩ : ∃ k2 : Nat, k2 = k1 + m := ⟨_, rfl⟩
      rw [show (k1 : Int) + (m : Int) = (k2 : Int) by omega]
      generalize hw2 : (World.drewN w1 _).setCell ⟨R, 1, none⟩ (.int .i64 k2) = w2
      have hr2 : RefR w2 R (.slice A l.length c) l k2 false := by rw [← hw2]; exact (hr1.drewN _).at_ (k' := k2) (by omega)
      have hg2 : w.grownBy w2 (some R) := by rw [← hw2]; exact hg1.trans (grown_drewN (grown_setCell _ _ _ _))
      clear hw2 hr1 hg1 e0 e1 e2 e3 e4 e5
      obtain ⟨e0, e1, _, _, _, _⟩ := hr2.cells
      obtain ⟨gq, hrest⟩ := rest_of_src hr2.2.1 hcap
      obtain ⟨B, mm, d, hrun, hmm, hwin⟩ := hrest.win k1 k2 (by omega) hr2.2.2.2.1
      have hws := rest_src hwin
      have hsz := hg2.size
      have hRl := block_lt hr2.1
      have hlw : ((l.drop k1).take (k2 - k1)).length = k2 - k1 := by rw [List.length_take, List.length_drop]; have := hr2.2.2.2.1; omega
      subst hmm
      have hx3 : IntKind.i64.wrap ((k2 : Int) - m) = k1 := by rw [show (k2 : Int) - m = k1 by omega]; exact IntWalk.i64_in _ (by omega)
      have hsize : k2 - k1 ≤ 1099511627776 := by have := hr2.2.2.2.1; omega
      have b0 : Below w2.heap.size w2 (w2.alloc (.cells (bytes []).toArray 5)).drew := ((Below.refl _ _).alloc (Nat.le_refl _) _).drew
      have o0 : OwnB (w2.alloc (.cells (bytes []).toArray 5)).drew w2.heap.size (.slice (some ⟨w2.heap.size, 0, none⟩) 0 0) [] := OwnB.lit w2 w2.heap.size [] (Nat.le_refl _) (Nat.zero_le _)
      have s0 := hws.below b0
      have HR2 := Lib.hid hr2
      have HW := Lib.hid hws
      have HLW := Lib.hid hlw
      have HK2 := Lib.hid hk2
      clear hr2 hws hwin hrest hlw hk2
      go_region_held3 (fun w' : World => w'.cell? (⟨R, 0, none⟩ : Addr) = some (Value.slice A l.length c) ∧ w'.cell? (⟨R, 1, none⟩ : Addr) = some (Value.int .i64 k2)) (first | go_keep | exact ⟨(b3.cell (p := ⟨R, 0, none⟩) hRl).trans e0, (b3.cell (p := ⟨R, 1, none⟩) hRl).trans e1⟩)
        ((refine step_app (by rfl) (.tmp 43) (.tmp 58) (by rfl) w2.heap.size (.slice (some ⟨w2.heap.size, 0, none⟩) 0 0) (.slice B (k2 - k1) d) [] ((l.drop k1).take (k2 - k1)) (by rfl) o0 (by rfl) s0 (by simp; omega) b0.size ?_; intro v3 w3 own3 gr3; have b3 := b0.trans (gr3.below b0.size o0.from_)))
      go_wp2
      go_ret
      refine rdec_good (HR2.out.below b3) (grown_below hg2 b3) hd.out ?_ ?_
      · rw [HK2.out, ← List.drop_drop, HK.out]
      · have e : (l.drop k1).take (k2 - k1) = r.take m := by rw [HK.out, HK2.out, Nat.add_sub_cancel_left]
        rw [List.nil_append, e] at own3
        exact own3.less hsz
end Go.Proofs.Ytfphdpcffjpbjaa.W
