/-
  arc: the laws ArcCircle and ArcRoot: each returns true. No condition but that the arguments are ints.
-/
import Derived.Test.YtlogihcmmoldkaaK38
namespace Go.Proofs.Ytlogihcmmoldkaa.W
open Go.RowKit Go.Proofs.Ytlogihcmmoldkaa.V Go.Proofs.Ytlogihcmmoldkaa.A

def FlatR3 (f : FuncId) (a b t : Value) (L : List (Int × Int)) (ec : Int) : Prop := ∀ w1 : World, Calls Try.prog f #[a, b, t] w1 fun e w' => ∃ v, e = .returned (.tuple #[v, .int .i64 ec]) ∧ SrcV w' v L ∧ Nw w1 w'
theorem far_valid {cx cy r : Int} (hcx : I64 cx) (hr : I64 r) (h : 2000 < r) : validA (w64 (cx + r)) cy (w64 (cx + r)) cy cx cy = false := by
  cases hv : validA (w64 (cx + r)) cy (w64 (cx + r)) cy cx cy with
  | false => rfl
  | true =>
    exfalso
    obtain ⟨h1, _, h3, _, h5, _⟩ := valid_parts hv
    unfold I64 at hcx hr
    have e : w64 (cx + r) = cx + r := by
      rw [← w64_def, wrap64] at h1 ⊢
      omega
    rw [e] at h5
    unfold nrm dot0 at h5
    simp only at h5
    rw [show cx + r - cx = r by omega, show cy - cy = 0 by omega] at h5
    have := le_sq (a := 2001) (b := r) (by omega) (by omega)
    omega
theorem circ_two (cx cy r t : Int) (hcx : I64 cx) (hcy : I64 cy) (hr : I64 r) : ∃ L ec, FlatR3 17 (vV cx cy) (.int .i64 r) (.int .i64 t) L ec ∧ FlatR3 18 (vV cx cy) (.int .i64 r) (.int .i64 t) L ec := by
  have nil : ∀ {f : FuncId} {a b t : Value} {ec : Int}, (∀ w : World, Calls Try.prog f #[a, b, t] w fun e w' => e = .returned (.tuple #[.slice none 0 0, .int .i64 ec]) ∧ Nw w w') → FlatR3 f a b t [] ec := fun h w1 => (h w1).mono fun e w' ⟨he, hn⟩ => ⟨_, he, src_none _ _ _ (Nat.zero_le _), hn⟩
  by_cases h1 : r ≤ 0
  · exact ⟨[], 1, nil fun w => circ_bad cx cy r t h1 w, nil fun w => rcirc_bad cx cy r t (by omega) w⟩
  · by_cases h2 : 2000 < r
    · have hv := far_valid (cy := cy) hcx hr h2
      have cf : FlatR 12 (arV (w64 (cx + r)) cy (w64 (cx + r)) cy cx cy false) (.int .i64 t) [] 1 := fun w1 => (flat_arg _ _ _ _ _ _ t false hv w1).mono fun e w' ⟨he, hn⟩ => ⟨_, he, src_none _ _ _ (Nat.zero_le _), hn⟩
      exact ⟨[], 1, nil fun w => circ_err cx cy r t hcy (by omega) cf (by decide) w, nil fun w => rcirc_bad cx cy r t (.inr h2) w⟩
    · rcases flat_two (w64 (cx + r)) cy (w64 (cx + r)) cy cx cy t false with ⟨ec, h0, _, h3, h4⟩ | ⟨hv, ht, l, hc, h3, h4⟩
      · exact ⟨[], ec, nil fun w => circ_err cx cy r t hcy (by omega) h3 h0 w, nil fun w => rcirc_err cx cy r t hcy (by omega) h4 h0 w⟩
      · obtain ⟨_, _, _, g4, g5, g6⟩ := valid_parts hv
        have hl := ch_max g4 g5 (show Ch _ _ _ _ l from hc) rfl g6
        have hL : (flatL false (w64 (cx + r)) cy (w64 (cx + r)) cy cx cy l).length ≤ 1099511627776 := by unfold flatL; simp; omega
        exact ⟨_, _, fun w => circ_ok cx cy r t hcy (by omega) h3 hL w, fun w => rcirc_ok cx cy r t hcy (by omega) h4 hL w⟩

set_option maxRecDepth 100000 in
set_option maxHeartbeats 6400000 in
theorem lawCircle_any (cx cy r t : Int) (hcx : I64 cx) (hcy : I64 cy) (hr : I64 r) (w : World) : Calls Try.prog 4 #[vV cx cy, .int .i64 r, .int .i64 t] w fun e w' => e = .returned (.bool true) ∧ Nw w w' := by
  have hmix := mixed7
  obtain ⟨L, ec, hf, hg⟩ := circ_two cx cy r t hcx hcy hr
  unfold FlatR3 at hf hg
  clear hcx hcy hr
  obtain ⟨W0, hW0⟩ : ∃ W, w.alloc (.cells #[.int .i64 cx, .int .i64 cy] 23) = W := ⟨_, rfl⟩
  have HB0 := Lib.hid (show Blk W0 w.heap.size 23 #[.int .i64 cx, .int .i64 cy] by rw [← hW0]; exact Blk.new _ _ _)
  have HNW := Lib.hid (show Nw w W0 by rw [← hW0]; exact nw_alloc _ _)
  go_enter Try.func4, Try.ntmps4
  go_upto_region 1 with fail
  try rw [hW0]
  clear hW0
  go_upto_region 3 with (first | (go_at_call 11; ((with_reducible refine (awakeA_any _).mono ?_); rintro e w1 ⟨rfl, k1⟩; have K1 := Lib.hid k1; clear k1)) | fail)
  have z0 := (HB0.out.nwA K1.out).cell 0
  have z1 := (HB0.out.nwA K1.out).cell 1
  go_upto_region 4 with (first | (go_at_call 17; refine (hf _).mono ?_; rintro e w2 ⟨v2, rfl, s2, k2⟩; (obtain ⟨A2, c2, rfl⟩ := s2.shape); have S2 := Lib.hid s2; have K2 := Lib.hid k2; clear s2 k2) | fail)
  clear z0 z1 hf
  have HN2 := Lib.hid (K1.out.tr K2.out)
  have z0 := (HB0.out.nwA HN2.out).cell 0
  have z1 := (HB0.out.nwA HN2.out).cell 1
  go_upto_region 5 with (first | (go_at_call 18; refine (hg _).mono ?_; rintro e w3 ⟨v3, rfl, s3, k3⟩; (obtain ⟨A3, c3, rfl⟩ := s3.shape); have S3 := Lib.hid s3; have K3 := Lib.hid k3; clear s3 k3) | fail)
  clear z0 z1 hg
  have HN3 := Lib.hid (HN2.out.tr K3.out)
  go_wp2_with (first | (go_at_call 14; refine (same_any L _ _ w3 (S2.out.nw K3.out) S3.out).mono ?_; rintro e w4 ⟨rfl, k4⟩; have K4 := Lib.hid k4; clear k4) | fail)
  go_ret
  exact ⟨rfl, HNW.out.tr (HN3.out.tr K4.out)⟩

set_option maxRecDepth 100000 in
set_option maxHeartbeats 6400000 in
theorem lawRoot_any (n : Int) (hn : I64 n) (w : World) : Calls Try.prog 5 #[.int .i64 n] w fun e w' => e = .returned (.bool true) ∧ Nw w w' := by
  have cr := fun w1 => root_any n hn w1
  obtain ⟨r, hr⟩ : ∃ r, isq n = r := ⟨_, rfl⟩
  by_cases h0 : n ≤ 0
  · have e1 : decide (n ≤ 0) = true := decide_eq_true h0
    rw [hr] at cr
    have e2 : r = 0 := by rw [← hr]; exact isq_zero h0
    subst e2
    clear hn hr h0
    go_enter Try.func5, Try.ntmps5
    go_wp2_with (first | (go_at_call 11; ((with_reducible refine (awakeA_any _).mono ?_); rintro e w1 ⟨rfl, k1⟩; have K1 := Lib.hid k1; clear k1)) | (go_at_call 19; ((with_reducible refine (cr _).mono ?_); rintro e w2 ⟨rfl, k2⟩; have K2 := Lib.hid k2; clear k2)) | fail)
    go_ret
    exact ⟨rfl, K1.out.tr K2.out⟩
  · have e1 : decide (n ≤ 0) = false := decide_eq_false h0
    have hp := isq_pos (n := n) (by omega)
    have hs := isq_spec (n := n) (by omega)
    have hb := isq_big (n := n) (by unfold I64 at hn; omega)
    rw [hr] at cr hp hs hb
    have e2 : decide (1 ≤ r) = true := decide_eq_true hp
    have e3 : decide (r ≤ 3037000499) = true := decide_eq_true hb
    have m1 := Int.mul_le_mul hb hb (by omega) (by omega)
    have a1 : IntKind.i64.wrap (r * r) = r * r := by have := sqn r; rw [IntKind.wrap_i64]; omega
    have e4 : decide (r * r ≤ n) = true := decide_eq_true hs.1
    by_cases h1 : r = 3037000499
    · have e5 : (r == 3037000499) = true := by simp [h1]
      clear hn hr h0 hp hs hb m1 h1
      go_enter Try.func5, Try.ntmps5
      go_wp2_with (first | (go_at_call 11; ((with_reducible refine (awakeA_any _).mono ?_); rintro e w1 ⟨rfl, k1⟩; have K1 := Lib.hid k1; clear k1)) | (go_at_call 19; ((with_reducible refine (cr _).mono ?_); rintro e w2 ⟨rfl, k2⟩; have K2 := Lib.hid k2; clear k2)) | fail)
      go_ret
      exact ⟨rfl, K1.out.tr K2.out⟩
    · have e5 : (r == 3037000499) = false := by simp [h1]
      have m2 := Int.mul_le_mul (show r + 1 ≤ 3037000499 by omega) (show r + 1 ≤ 3037000499 by omega) (by omega) (by omega)
      have a2 : IntKind.i64.wrap (r + 1) = r + 1 := by rw [IntKind.wrap_i64]; omega
      have a3 : IntKind.i64.wrap ((r + 1) * (r + 1)) = (r + 1) * (r + 1) := by have := sqn (r + 1); rw [IntKind.wrap_i64]; omega
      have e6 : decide (n < (r + 1) * (r + 1)) = true := decide_eq_true hs.2
      clear hn hr h0 hp hs hb m1 h1 m2
      go_enter Try.func5, Try.ntmps5
      go_wp2_with (first | (go_at_call 11; ((with_reducible refine (awakeA_any _).mono ?_); rintro e w1 ⟨rfl, k1⟩; have K1 := Lib.hid k1; clear k1)) | (go_at_call 19; ((with_reducible refine (cr _).mono ?_); rintro e w2 ⟨rfl, k2⟩; have K2 := Lib.hid k2; clear k2)) | fail)
      go_ret
      exact ⟨rfl, K1.out.tr K2.out⟩

end Go.Proofs.Ytlogihcmmoldkaa.W
