/-
  fretsawref01.(*Reader).Shape: the call takes the step of the plain function. Conditions: what is read are bytes; the reader's block is known.
-/
import Derived.Test.YtfphdpcffjpbjaaRefRing
import Derived.Test.YtfphdpcffjpbjaaShapeR
import Derived.Deep.RegionLaw
namespace Go.Proofs.Ytfphdpcffjpbjaa.W
open Go.RowKit Go.Proofs.Ytfphdpcffjpbjaa.Pl

theorem bounded_failed (lo hi : Int) (L : List Int) : (sBounded lo hi L true).2.2 = true := by
  unfold sBounded
  split
  · rfl
  · exact sInt_failed L
theorem list_badF {α : Type} {s : Step α} {max : Int} {L : List Int} {f : Bool} (h : (sBounded 0 max L f).2.2 = true) : (sList max s L f).2.2 = true := by
  unfold sList
  rw [h, loopL_failed]
theorem shape_fail1 {L L1 L2 : List Int} {f f1 : Bool} {x : List (Int × Int)} {n : Int} (h1 : rd [] sRing L f = (x, L1, f1)) (h2 : rd 0 (sBounded 0 6) L1 f1 = (n, L2, true)) : rd (([], []) : Shp) sShape L f = (([], []), L, true) := by
  cases f with
  | true => rfl
  | false =>
    refine rd_bad ?_
    show (sList 6 sRing (sRing L false).2.1 (sRing L false).2.2).2.2 = true
    cases hs : (sRing L false).2.2 with
    | true => exact list_badF (bounded_failed _ _ _)
    | false =>
      rw [rd_good hs] at h1
      injection h1 with _ h1
      injection h1 with h1 h3
      subst h1
      subst h3
      refine list_badF ?_
      cases hq : (sBounded 0 6 (sRing L false).2.1 false).2.2 with
      | true => rfl
      | false => rw [rd_good hq] at h2; cases h2
theorem shape_fail2 {L L1 L2 : List Int} {x : List (Int × Int)} {m : Nat} (h1 : sRing L false = (x, L1, false)) (h2 : sBounded 0 6 L1 false = ((m : Int), L2, false)) (hl : (loopL (rd [] sRing) m [] L2 false).2.2 = true) : rd (([], []) : Shp) sShape L false = (([], []), L, true) := by
  refine rd_bad ?_
  show (sList 6 sRing (sRing L false).2.1 (sRing L false).2.2).2.2 = true
  rw [h1, list_rd h2, ← (loop_rd (z := []) m [] L2).1]
  exact hl
theorem shape_good {L L1 L2 r : List Int} {x : List (Int × Int)} {y : List (List (Int × Int))} {m : Nat} (h1 : sRing L false = (x, L1, false)) (h2 : sBounded 0 6 L1 false = ((m : Int), L2, false)) (hl : loopL (rd [] sRing) m [] L2 false = (y, r, false)) : rd (([], []) : Shp) sShape L false = ((x, y), r, false) := by
  refine rd_ok ?_
  have h3 := loop_rd (z := []) (s := sRing) m [] L2
  have h4 : sList 6 sRing L1 false = (y, r, false) := by rw [list_rd h2, ← h3.2 (by rw [← h3.1, hl]), hl]
  unfold sShape
  rw [h1]
  simp only
  rw [h4]

section
variable {w : World} {ops : Array Oper} {o : Oper} {a : Act} {K : Act → World → Prop} {Q : Exit → Act → World → Prop} {E : Prop}
theorem step_pushG (hgd : o.guard = none) (s x : Operand) (t e : TypeId) (size bts : Nat) (z : Value)
    (ho : o.op = .call { callee := .builtin .append, args := #[s, x], argTypes := #[t, t] })
    (hu : Try.prog.underlying t = some (.slice e)) (hinfo : (Try.prog.info? e).map (fun i => (i.zero, i.size, i.bytes)) = some (some z, size, bts)) (hz : z.cells.size = size) (hsz : 0 < size)
    (B n : Nat) (v : Value) (vs cs : List Value) (hs : a.eval s = v) (hown : w.ownsRow B e size v n vs) (hcs : cs.length = size) (hone : ∀ u ∈ cs, u.oneCell' = true)
    (hx : a.eval x = .slice (some ⟨w.heap.size, 0, none⟩) 1 1) (hlen : (n + 1) * bts ≤ 140737488355328) (hn : n + 1 ≤ 9223372036854775807) (hB : B ≤ w.heap.size)
    (h : ∀ v' w', w'.ownsRow B e size v' (n + 1) (vs ++ cs) → Grew w w' v v' → K (a.put o.dst v') w') :
    if Region.wanted o (yielded ops a.tmps) = true then Oper.wp Try.prog o a (w.alloc (.cells cs.toArray e)) K Q else E := by
  have hw : Region.wanted o (yielded ops a.tmps) = true := by simp [Region.wanted, hgd]
  rw [if_pos hw]
  obtain ⟨i0, hi, hz0, hz1, hz2⟩ := info_parts hinfo
  obtain ⟨v', w', hr, h1, h2, _, h4⟩ := run_append_own_at (P := Try.prog) (w.alloc (.cells cs.toArray e)) B t o.type e i0 z size bts hu hi hz0 hz1 hz2 hz hsz v n vs (hown.alloc _) ⟨w.heap.size, 0, none⟩ 1 1 cs (by omega) (cells_new w cs e) hone (by unfold maxLen; omega) hlen (by simp; omega)
  unfold Oper.wp execOp
  simp only [ho, resolve, invoke, builtin, Sem.run_bind, Sem.run_pure, Result.andThen_ok, List.map_toArray, List.map_cons, List.map_nil, hs, hx, hr]
  exact h v' w' h1 ((Grew.alloc w _ v).trans ⟨h2, h4.imp id fun e => ⟨_, e, by simp⟩⟩)
end

theorem grown_drewrow {w : World} {B e size n : Nat} {v : Value} {vs : List Value} (h : w.ownsRow B e size v n vs) : w.drew.ownsRow B e size v n vs := h
theorem grown_ofdrew {w w' : World} {row : Option Nat} (h : w.drew.grownBy w' row) : w.grownBy w' row := ⟨h.os, h.tape, h.output, h.size, h.block⟩

set_option maxRecDepth 100000 in
set_option maxHeartbeats 3200000 in
theorem refShape_any (R : Nat) (v : Value) (l : List Int) (k : Nat) (f : Bool) (w : World) (h : RefR w R v l k f) (hb : By l) (hlen : l.length ≤ 1099511627776) (hvb : ∀ g, v.ownBlock = some g → g < w.heap.size) :
    Calls Try.prog 49 #[.pointer (some ⟨R, 0, none⟩)] w (RDec (IsShape w.heap.size) (rd ([], []) sShape) w R v l k f) := by
  obtain ⟨c0, c1, c2, d0, d1, d2⟩ := h.cells
  obtain ⟨x, L1, f1, hs1⟩ : ∃ x L1 f1, rd [] sRing (l.drop k) f = (x, L1, f1) := ⟨_, _, _, rfl⟩
  obtain ⟨n, L2, f2, hs2⟩ : ∃ n L2 f2, rd 0 (sBounded 0 6) L1 f1 = (n, L2, f2) := ⟨_, _, _, rfl⟩
  have hkl := h.2.2.2.1
  have hRw := block_lt h.1
  have h0 := h.alloc (.cells #[.slice none 0 0, .slice none 0 0] 60)
  have HS1 := Lib.hid hs1
  have HS2 := Lib.hid hs2
  have HVB := Lib.hid hvb
  have hvb1 : ∀ g, v.ownBlock = some g → g < (w.alloc (.cells #[.slice none 0 0, .slice none 0 0] 60)).heap.size := fun g hg => by have := hvb g hg; simp; omega
  go_enter Try.func49, Try.ntmps49
  go_wp2_with fail
  refine (refRing_any R v l k f 40 _ h0 hb hlen (by omega) hvb1).mono ?_
  rintro e w1 ⟨u1, k1, rfl, hv1, hr1, hk1, hg1⟩
  rw [show sList 40 sVec = sRing from rfl, HS1.out] at hv1 hr1 hk1
  have HK1 := Lib.hid hk1
  have hz1 := hg1.size
  simp only [World.alloc, Array.size_push] at hz1
  have ho1 : OwnV w1 (w.heap.size + 1) u1 x := by
    rw [show (w.alloc (.cells #[.slice none 0 0, .slice none 0 0] 60)).heap.size = w.heap.size + 1 by simp] at hv1
    exact hv1
  have hov := own_src ho1
  have hovlt : ∀ g, u1.ownBlock = some g → g < w1.heap.size := fun g hg => (World.ownsRow.lt ho1 g hg).2
  obtain ⟨Ao, co, rfl⟩ := hov.shape
  clear hk1 hs1 hv1 hvb1 hov hvb
  go_wp2_with fail
  refine (refBounded_any R v l k1 f1 0 6 _ (hr1.alloc _) hb).mono ?_
  rintro e w2 ⟨u2, k2, rfl, hv2, hr2, hk2, hg2⟩
  rw [HK1.out, HS2.out] at hv2 hr2 hk2
  obtain rfl : u2 = .int .i64 n := hv2
  have HK2 := Lib.hid hk2
  have hz2 := hg2.size
  simp only [World.alloc, Array.size_push] at hz2
  have hB1 := kept_new hg2 (by omega)
  have hB0 := (hg2.block w.heap.size (by simp; omega) (by intro e; injection e with e; omega)).trans ((Below.heap_alloc w1 _ w.heap.size (by omega)).trans (kept_new hg1 hRw))
  have hgw2 : w.grownBy w2 (some R) := by
    refine ⟨hg2.os.trans hg1.os, hg2.tape.trans hg1.tape, hg2.output.trans hg1.output, by omega, fun j hj hne => ?_⟩
    exact (hg2.block j (by simp; omega) hne).trans ((Below.heap_alloc w1 _ j (by omega)).trans ((hg1.block j (by simp; omega) hne).trans (Below.heap_alloc w _ j hj)))
  obtain ⟨B1, hB1e⟩ : ∃ B1, w1.heap.size = B1 := ⟨_, rfl⟩
  have ho2 : OwnV w2 (w.heap.size + 1) (.slice Ao x.length co) x := own_row (own_below ho1 ((Below.refl _ _).alloc (Nat.le_refl _) _)) hg2 (by omega)
  rw [hB1e] at hB1 hovlt hz1 hz2 ⊢
  have hlt1 : w.heap.size < B1 := by omega
  have hne1 : B1 ≠ R := by omega
  have hne0 : w.heap.size ≠ R := by omega
  have hne2 : B1 ≠ w.heap.size := by omega
  have hfar1 : ∀ g, v.ownBlock = some g → g ≠ B1 := fun g hg => by have := HVB.out g hg; omega
  have hfar0 : ∀ g, v.ownBlock = some g → g ≠ w.heap.size := fun g hg => by have := HVB.out g hg; omega
  have HF1 := Lib.hid hfar1
  have HF0 := Lib.hid hfar0
  have HOV := Lib.hid hovlt
  have HO1 := Lib.hid ho2
  have hbz : B1 + 1 ≤ w2.heap.size := by omega
  clear hk2 hfar1 hfar0 hg1 hg2 hr1 ho1 ho2 hovlt h0 c0 c1 c2 d0 d1 d2 hz1 hz2 hB1e
  cases f2 with
  | true =>
    have hd := Lib.hid (shape_fail1 HS1.out HS2.out)
    have hn0 := (rd_true hs2).1
    subst hn0
    clear hs2
    obtain ⟨q0, q1, q2, q3⟩ := two_cell hB1
    obtain ⟨p0, p1, p2, p3⟩ := two_cell hB0
    obtain ⟨e0, e1, e2, e3, e4, e5⟩ := hr2.cells
    have HB0 := Lib.hid hB0
    clear hB1 hB0
    go_wp2_with fail
    refine wp_loop_rounds 1 ?_
    rw [rounds_succ]
    go_wp2_with fail
    refine (refFail_any R v l k2 k true _ hr2 hkl).mono ?_
    rintro e w3 ⟨rfl, hr3, hg3⟩
    have hB3 := (hg3.block w.heap.size (by omega) (by intro e; injection e with e; omega)).trans HB0.out
    obtain ⟨s0, s1, s2, s3⟩ := two_cell hB3
    have hg := hgw2.trans hg3
    clear hB3 hg3
    go_wp2
    refine bodyPost_ret (v := .agg #[.slice none 0 0, .slice none 0 0]) (by simp [results, Try.results49, go_sem, s0, s1]) rfl ?_
    exact rdec_fail ((hr3.far hne0 HF0.out).far hne0 HF0.out) (grown_new (grown_new hg (Nat.le_refl _)) (Nat.le_refl _)) hd.out ⟨_, _, rfl, OwnV.nil _ _, OwnR.nil _ _⟩
  | false =>
    obtain ⟨rfl, hs3⟩ := rd_false hs2
    obtain ⟨rfl, hs4⟩ := rd_false HS1.out
    have hrg := sBounded_range 6 L1 false
    rw [hs3] at hrg
    obtain ⟨m, rfl⟩ : ∃ m : Nat, n = m := ⟨n.toNat, by have := hrg.1; omega⟩
    have hn1 : (m : Int) ≤ 6 := by rcases hrg.2 with e | e <;> simp at e <;> omega
    have HS3 := Lib.hid hs3
    have HS4 := Lib.hid hs4
    clear hs2 hs3 hs4 hrg
    go_wp2_with fail
    go_loopw [6] (fun i wr => ∃ (j : Nat) (acc : List (List (Int × Int))) (k3 : Nat) (f3 : Bool) (hv : Value), j ≤ m ∧ i = .int .i64 j ∧ OwnR wr (B1 + 1) hv acc ∧ OwnV wr (w.heap.size + 1) (.slice Ao x.length co) x ∧ RefR wr R v l k3 f3 ∧ w.grownBy wr (some R) ∧
        wr.heap[B1]? = some (.cells #[.slice Ao x.length co, hv] 60) ∧ wr.heap[w.heap.size]? = some (.cells #[.slice none 0 0, .slice none 0 0] 60) ∧
        loopL (rd [] sRing) (m - j) acc (l.drop k3) f3 = loopL (rd [] sRing) m [] L2 false ∧ acc.length ≤ j) (fun i _ => m - (intOf i).toNat)
    case atStart => exact ⟨0, [], k2, false, _, by omega, rfl, OwnR.nil _ _, HO1.out, hr2, hgw2, hB1, hB0, by rw [HK2.out]; rfl, by simp⟩
    case round =>
      obtain ⟨j, acc, k3, f3, hv, hj, rfl, hown, hov, hr3, hg3, hb1, hb0, hloop, hacc⟩ := hrel
      have HL := Lib.hid hloop
      have HO := Lib.hid hown
      have HV := Lib.hid hov
      have HB0 := Lib.hid hb0
      have HB1 := Lib.hid hb1
      have hk3l := hr3.2.2.2.1
      have hsz3 := hg3.size
      have hB1w := block_lt hb1
      clear hloop hr2 hgw2 hown hov hB1 hB0
      obtain ⟨q0, q1, q2, q3⟩ := two_cell hb1
      obtain ⟨p0, p1, p2, p3⟩ := two_cell hb0
      obtain ⟨e0, e1, e2, e3, e4, e5⟩ := hr3.cells
      clear hb0 hb1
      cases f3 with
      | true =>
        have hfin := Lib.hid (show rd (([], []) : Shp) sShape (l.drop k) false = (([], []), l.drop k, true) from shape_fail2 HS4.out HS3.out (by rw [← HL.out, loopL_failed]))
        by_cases hlt : j < m
        · have hd1 : decide ((j : Int) < (m : Int)) = true := decide_eq_true (by omega)
          go_wp2_with fail
          refine (refFail_any R v l k3 k true _ hr3 hkl).mono ?_
          rintro e w3 ⟨rfl, hr4, hg4⟩
          have hB4 := (hg4.block w.heap.size (by omega) (by intro e; injection e with e; omega)).trans HB0.out
          obtain ⟨s0, s1, s2, s3⟩ := two_cell hB4
          have hg := hg3.trans hg4
          clear hB4 hg4
          go_wp2
          refine bodyPost_ret (v := .agg #[.slice none 0 0, .slice none 0 0]) (by simp [results, Try.results49, go_sem, s0, s1]) rfl ?_
          exact rdec_fail ((hr4.far hne0 HF0.out).far hne0 HF0.out) (grown_new (grown_new hg (Nat.le_refl _)) (Nat.le_refl _)) hfin.out ⟨_, _, rfl, OwnV.nil _ _, OwnR.nil _ _⟩
        · have hd1 : decide ((j : Int) < (m : Int)) = false := decide_eq_false (by omega)
          go_wp2_with fail
          refine (refFail_any R v l k3 k true _ hr3 hkl).mono ?_
          rintro e w3 ⟨rfl, hr4, hg4⟩
          have hB4 := (hg4.block w.heap.size (by omega) (by intro e; injection e with e; omega)).trans HB0.out
          obtain ⟨s0, s1, s2, s3⟩ := two_cell hB4
          have hg := hg3.trans hg4
          clear hB4 hg4
          go_wp2
          refine bodyPost_ret (v := .agg #[.slice none 0 0, .slice none 0 0]) (by simp [results, Try.results49, go_sem, s0, s1]) rfl ?_
          exact rdec_fail ((hr4.far hne0 HF0.out).far hne0 HF0.out) (grown_new (grown_new hg (Nat.le_refl _)) (Nat.le_refl _)) hfin.out ⟨_, _, rfl, OwnV.nil _ _, OwnR.nil _ _⟩
      | false =>
        by_cases hlt : j < m
        · obtain ⟨y, L3, f4, hs5⟩ : ∃ y L3 f4, rd [] sRing (l.drop k3) false = (y, L3, f4) := ⟨_, _, _, rfl⟩
          have hst := Lib.hid (show loopL (rd [] sRing) (m - (j + 1)) (acc ++ [y]) L3 f4 = loopL (rd [] sRing) m [] L2 false by
            rw [← HL.out, loopL_step (rd [] sRing) (by omega), hs5]
            rfl)
          have HS5 := Lib.hid hs5
          have hd1 : decide ((j : Int) < (m : Int)) = true := decide_eq_true (by omega)
          have hr3d : RefR wr.drew R v l k3 false := hr3
          have hvd : ∀ g, v.ownBlock = some g → g < wr.drew.heap.size := fun g hg => Nat.lt_of_lt_of_le (HVB.out g hg) hsz3
          obtain ⟨vals, hrow, hvl, hels⟩ := HO.out
          obtain ⟨Ah, ch, rfl⟩ := (own_src hrow).shape
          have hfr := own_from hrow
          have HFR := Lib.hid hfr
          have HEL := Lib.hid hels
          have HROW := Lib.hid hrow
          clear hs5 hels hrow hfr
          go_wp2_with fail
          go_region_law (first
            | (refine step_pushG (by rfl) (.tmp 29) (.tmp 32) 58 42 1 24 (.slice none 0 0) (by rfl) Try.underlying58 info_ring rfl (by omega) (B1 + 1) acc.length (.slice Ah acc.length ch) vals [.slice A4 y.length c4] (by rfl) HROW4.out rfl (by intro u hu; simp at hu; subst hu; rfl) (by rfl) (by omega) (by omega) (by omega) ?_; intro v5 w5 own5 gr5; (obtain ⟨A5, c5, rfl⟩ := (own_src own5).shape); have hB5 := (gr5.by_.block B1 (by omega) (by intro e; have := HFR.out B1 e.symm; omega)).trans HB4.out; obtain ⟨y0, y1, y2, y3⟩ := two_cell hB5)
            | (go_simp; go_at_call 48; ((with_reducible refine (refRing_any R v l k3 false 40 _ hr3d hb hlen (by omega) hvd).mono ?_); rintro e w4 ⟨u4, k4, rfl, hv4, hr4, hk4, hg4⟩; have hB4 := (hg4.block B1 hB1w (by intro e; injection e with e; omega)).trans HB1.out; obtain ⟨z0, z1, z2, z3⟩ := two_cell hB4; have HB4 := Lib.hid hB4; have hs4 := hg4.size; have hs4b : wr.heap.size ≤ w4.heap.size := hs4; rw [show sList 40 sVec = sRing from rfl, HS5.out] at hv4 hr4 hk4; (have HV4 := Lib.hid (own_less (B' := B1 + 1) hv4 hB1w)); (obtain ⟨A4, c4, rfl⟩ := (own_src hv4).shape); (have HROW4 := Lib.hid (own_row (grown_drewrow HROW.out) hg4 (by omega))); have z5 := cell_alloc z1 (.cells #[.slice A4 y.length c4] 42); clear hB4 hs4 hv4)))
          all_goals
            have hrow5 := grown_drewrow HROW.out
            have hgb := gr5.below (by omega) HFR.out
            have hgB := grown_push (C := R) (B := B1 + 1) (hg3.trans (grown_ofdrew hg4)) gr5 HFR.out (by omega)
            have hb0' := (gr5.by_.block w.heap.size (by omega) (by intro e; have := HFR.out _ e.symm; omega)).trans ((hg4.block w.heap.size (by have := block_lt HB0.out; exact this) (by intro e; injection e with e; omega)).trans HB0.out)
            have hr5 := (hr4.push gr5 HFR.out (by omega) (fun g hg => by have := HVB.out g hg; omega)).far (b := B1) (j := 1) (u := .slice A5 (acc.length + 1) c5) hne1 HF1.out
            have hpush := OwnR.push (own_row hrow5 hg4 (by omega)) hvl (fun i u r hu hr => own_row (grown_drewrow (HEL.out i u r hu hr)) hg4 (by omega)) HV4.out gr5 own5
            have HPUSH := Lib.hid hpush
            have HR5 := Lib.hid hr5
            have HB5 := Lib.hid hB5
            have HB0' := Lib.hid hb0'
            have HK4 := Lib.hid hk4
            have HGB := Lib.hid hgB
            clear hpush hr5 hB5 hb0' hk4 hgB hrow5
            go_wp2
            go_roundw
            case rel =>
              have hst5 := grown_setCell w5 B1 1 (.slice A5 (acc.length + 1) c5)
              have hov5 : OwnV w5 (w.heap.size + 1) (.slice Ao x.length co) x := World.ownsRow.kept (own_row (grown_drewrow HV.out) hg4 (by omega)) gr5.by_ (by
                cases hq : (Value.slice Ao x.length co).ownBlock with
                | none => exact .inl rfl
                | some g => exact .inr (fun e => by have := HFR.out g e.symm; have := HOV.out g hq; omega))
              refine ⟨j + 1, acc ++ [y], k4, f4, .slice A5 (acc.length + 1) c5, by omega, by go_num, ?_, ?_, HR5.out, grown_new HGB.out (by omega), ?_, ?_, by rw [HK4.out]; exact hst.out, by simp; omega⟩
              · exact OwnR.row HPUSH.out hst5 (by omega)
              · exact World.ownsRow.kept hov5 hst5 (by
                  cases hq : (Value.slice Ao x.length co).ownBlock with
                  | none => exact .inl rfl
                  | some g => exact .inr (fun e => by injection e with e; have := HOV.out g hq; omega))
              · exact two_set1 HB5.out
              · exact (Below.heap_setCell w5 ⟨B1, 1, none⟩ _ w.heap.size (by simp only; omega)).trans HB0'.out
            case measure => simp [intOf]; omega
        · obtain rfl : j = m := by omega
          have hfin := Lib.hid (show rd (([], []) : Shp) sShape (l.drop k) false = ((x, acc), l.drop k3, false) from shape_good HS4.out HS3.out (by rw [← HL.out, Nat.sub_self]; rfl))
          have hd1 : decide ((j : Int) < (j : Int)) = false := decide_eq_false (by omega)
          obtain ⟨Ah, ch, rfl⟩ := OwnR.shape HO.out
          go_wp2
          refine bodyPost_ret (v := .agg #[.slice Ao x.length co, .slice Ah acc.length ch]) (by simp [results, Try.results49, go_sem, p0, p1]) rfl ?_
          have hst := (grown_setCell wr w.heap.size 0 (.slice Ao x.length co)).trans (grown_setCell (wr.setCell ⟨w.heap.size, 0, none⟩ (.slice Ao x.length co)) w.heap.size 1 (.slice Ah acc.length ch))
          exact rdec_good ((hr3.far hne0 HF0.out).far hne0 HF0.out) (grown_new (grown_new hg3 (Nat.le_refl _)) (Nat.le_refl _)) hfin.out rfl ⟨_, _, rfl, own_less (own_row HV.out hst (by omega)) (by omega), (OwnR.row HO.out hst (by omega)).less (by omega)⟩
end Go.Proofs.Ytfphdpcffjpbjaa.W
