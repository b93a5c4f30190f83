/-
  fretsawref01.(*Reader).Ring: the call takes the step of the plain function. Conditions: what is read are bytes; the reader's block is known; the limit has 64 bits.
-/
import Derived.Test.YtfphdpcffjpbjaaRefVec
import Derived.Test.YtfphdpcffjpbjaaShapeC
namespace Go.Proofs.Ytfphdpcffjpbjaa.W
open Go.RowKit Go.Proofs.Ytfphdpcffjpbjaa.Pl

set_option maxRecDepth 100000 in
set_option maxHeartbeats 1600000 in
theorem refRing_any (R : Nat) (v : Value) (l : List Int) (k : Nat) (f : Bool) (max : Int) (w : World) (h : RefR w R v l k f) (hb : By l) (hlen : l.length ≤ 1099511627776) (hmax : max ≤ 9223372036854775807) (hvb : ∀ g, v.ownBlock = some g → g < w.heap.size) :
    Calls Try.prog 48 #[.pointer (some ⟨R, 0, none⟩), .int .i64 max] w (RDec (IsVecs w.heap.size) (rd [] (sList max sVec)) w R v l k f) := by
  obtain ⟨c0, c1, c2, d0, d1, d2⟩ := h.cells
  obtain ⟨n, r, f1, hs⟩ : ∃ n r f1, rd 0 (sBounded 0 max) (l.drop k) f = (n, r, f1) := ⟨_, _, _, rfl⟩
  have HS := Lib.hid hs
  have hkl := h.2.2.2.1
  have hRw := block_lt h.1
  cases f1 with
  | true =>
    have hd := Lib.hid (rd_fail_of (t := sList max sVec) (y := []) hs list_bad)
    obtain ⟨rfl, rfl⟩ := rd_true hs
    clear hs
    go_enter Try.func48, Try.ntmps48
    go_wp2_with (go_at_call 42; ((with_reducible refine (refBounded_any R _ l k f 0 max _ h hb).mono ?_); rintro e w1 ⟨u1, k1, rfl, hv1, hr1, hk1, hg1⟩; rw [HS.out] at hv1 hr1 hk1; (obtain rfl : u1 = .int .i64 0 := hv1); (obtain rfl := drop_eq hk1 hr1.2.2.2.1 hkl); (obtain ⟨e0, e1, e2, _, _, _⟩ := hr1.cells); clear hk1))
    refine wp_loop_rounds 1 ?_
    rw [rounds_succ]
    go_wp2_with (go_at_call 80; ((with_reducible refine (refFail_any R _ l k1 k1 true _ hr1 hkl).mono ?_); rintro e w2 ⟨rfl, hr2, hg2⟩))
    go_ret
    exact rdec_fail hr2 (hg1.trans hg2) hd.out (OwnV.nil _ _)
  | false =>
    obtain ⟨rfl, hs2⟩ := rd_false hs
    have hrg := sBounded_range max (l.drop k) false
    rw [hs2] at hrg
    obtain ⟨m, rfl⟩ : ∃ m : Nat, n = m := ⟨n.toNat, by have := hrg.1; omega⟩
    have hn1 : (m : Int) ≤ 9223372036854775807 := by rcases hrg.2 with e | e <;> simp at e <;> omega
    have hl := h.2.2.1
    have HS2 := Lib.hid hs2
    have HVB := Lib.hid hvb
    clear hs hs2 hrg hvb
    go_enter Try.func48, Try.ntmps48
    go_wp2_with (go_at_call 42; ((with_reducible refine (refBounded_any R _ l k false 0 max _ h hb).mono ?_); rintro e w1 ⟨u1, k1, rfl, hv1, hr1, hk1, hg1⟩; rw [HS.out] at hv1 hr1 hk1; (obtain rfl : u1 = .int .i64 m := hv1); have HK := Lib.hid hk1; clear hk1))
    go_loopw [7, 8] (fun u i wr => ∃ (j : Nat) (acc : List (Int × Int)) (k2 : Nat) (f2 : Bool), j ≤ m ∧ i = .int .i64 j ∧ OwnV wr w.heap.size u acc ∧ RefR wr R v l k2 f2 ∧ w.grownBy wr (some R) ∧
        loopL (rd ((0 : Int), (0 : Int)) sVec) (m - j) acc (l.drop k2) f2 = loopL (rd ((0 : Int), (0 : Int)) sVec) m [] (l.drop k1) false ∧ acc.length ≤ k2 + 1 ∧ (f2 = false → acc.length ≤ k2)) (fun _ i _ => m - (intOf i).toNat)
    case atStart => exact ⟨0, [], k1, false, by omega, rfl, OwnV.nil _ _, hr1, hg1, rfl, by simp, fun _ => by simp⟩
    case round =>
      obtain ⟨j, acc, k2, f2, hj, rfl, hown, hr2, hg2, hloop, hb1, hb2⟩ := hrel
      have HL := Lib.hid hloop
      have HB2 := Lib.hid hb2
      have HO := Lib.hid hown
      have hk2l := hr2.2.2.2.1
      clear hloop hb2 hr1 hg1 hown
      obtain ⟨q0, q1, q2, q3, q4, q5⟩ := hr2.cells
      cases f2 with
      | true =>
        have hfin := Lib.hid (show rd [] (sList max sVec) (l.drop k) false = ([], l.drop k, true) from list_fail (z := (0, 0)) HS2.out (by rw [← HK.out, ← HL.out, loopL_failed]))
        by_cases hlt : j < m
        · have hd1 : decide ((j : Int) < (m : Int)) = true := decide_eq_true (by omega)
          go_wp2_with (go_at_call 80; ((with_reducible refine (refFail_any R _ l k2 k true _ hr2 hkl).mono ?_); rintro e w3 ⟨rfl, hr3, hg3⟩))
          go_ret
          exact rdec_fail hr3 (hg2.trans hg3) hfin.out (OwnV.nil _ _)
        · have hd1 : decide ((j : Int) < (m : Int)) = false := decide_eq_false (by omega)
          go_wp2_with (go_at_call 80; ((with_reducible refine (refFail_any R _ l k2 k true _ hr2 hkl).mono ?_); rintro e w3 ⟨rfl, hr3, hg3⟩))
          go_ret
          exact rdec_fail hr3 (hg2.trans hg3) hfin.out (OwnV.nil _ _)
      | false =>
        by_cases hlt : j < m
        · obtain ⟨x, l2, f3, hs3⟩ : ∃ x l2 f3, rd ((0 : Int), (0 : Int)) sVec (l.drop k2) false = (x, l2, f3) := ⟨_, _, _, rfl⟩
          have hst := Lib.hid (show loopL (rd ((0 : Int), (0 : Int)) sVec) (m - (j + 1)) (acc ++ [x]) l2 f3 = loopL (rd ((0 : Int), (0 : Int)) sVec) m [] (l.drop k1) false by
            rw [← HL.out, loopL_step (rd ((0 : Int), (0 : Int)) sVec) (by omega), hs3]
            rfl)
          have heat := Lib.hid (show f3 = false → l2.length < l.length - k2 from fun e => by have := eats_rd (z := ((0 : Int), (0 : Int))) eats_sVec (l.drop k2); rw [hs3, List.length_drop] at this; exact this e)
          have hle : l2.length ≤ l.length - k2 := by have := suf_le (suf_rd (z := ((0 : Int), (0 : Int))) suf_sVec) (l.drop k2) false; rw [hs3, List.length_drop] at this; exact this
          have HS3 := Lib.hid hs3
          have hacc := HB2.out rfl
          have hd1 : decide ((j : Int) < (m : Int)) = true := decide_eq_true (by omega)
          clear hs3
          go_wp2_with (first
            | (go_at_call 47; ((with_reducible refine (refVec_any R v l k2 false _ hr2 hb (fun g hg => Nat.lt_of_lt_of_le (HVB.out g hg) hg2.size)).mono ?_); rintro e w3 ⟨u3, k3, rfl, hv3, hr3, hk3, hg3⟩; rw [HS3.out] at hv3 hr3 hk3; (obtain rfl : u3 = .agg #[.int .i64 x.1, .int .i64 x.2] := hv3); have HK3 := Lib.hid hk3; clear hk3))
            | (at_builtin; refine wp_pushG rfl (.tmp 28) (.tmp 31) 42 46 2 16 (.agg #[.int .i64 0, .int .i64 0]) rfl Try.underlying42 info_vec rfl (by omega) w.heap.size acc.length _ (vecs acc) [.int .i64 x.1, .int .i64 x.2] rfl (own_row HO.out hg3 hRw) rfl ?_ rfl ?_ ?_ (Nat.le_trans hg2.size hg3.size) ?_; (intro u hu; simp at hu; rcases hu with rfl | rfl <;> rfl); omega; omega; intro u4 w4 own4 gr4))
          go_roundw
          case rel =>
            have ho4 := own_from (own_row HO.out hg3 hRw)
            have e3 : l2.length = l.length - k3 := by rw [← HK3.out, List.length_drop]
            have hk3l := hr3.2.2.2.1
            refine ⟨j + 1, acc ++ [x], k3, f3, by omega, by go_num, ?_, hr3.push gr4 ho4 hRw HVB.out, grown_push (hg2.trans hg3) gr4 ho4 (Nat.le_refl _), by rw [HK3.out]; exact hst.out, ?_, ?_⟩
            · unfold OwnV
              rw [vecs_snoc, List.length_append]
              exact own4
            · simp; omega
            · intro e
              have := heat.out e
              simp
              omega
          case measure => simp [intOf]; omega
        · obtain rfl : j = m := by omega
          have hfin := Lib.hid (show rd [] (sList max sVec) (l.drop k) false = (acc, l.drop k2, false) from list_good (z := (0, 0)) HS2.out (by rw [← HK.out, ← HL.out, Nat.sub_self]; rfl))
          have hd1 : decide ((j : Int) < (j : Int)) = false := decide_eq_false (by omega)
          go_wp2
          go_ret
          exact rdec_good hr2 hg2 hfin.out rfl HO.out
end Go.Proofs.Ytfphdpcffjpbjaa.W
