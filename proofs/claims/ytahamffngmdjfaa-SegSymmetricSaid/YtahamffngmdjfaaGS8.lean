/-
  seg and its reference: lowest, PointOf, Whole; Meet and Share of seg. Conditions: for lowest, numbers within 2^61 and a denominator that is not 0.
-/
import Derived.Test.YtahamffngmdjfaaGS7
import Derived.Test.YtahamffngmdjfaaGS3
import Derived.BigRegion
namespace Go.Proofs.Ytahamffngmdjfaa.W
open Go.RowKit Go.Proofs.Ytahamffngmdjfaa.V Go.Proofs.Ytahamffngmdjfaa.G

theorem tdiv_near (a : Int) (g : Int) (h : -9223372036854775808 < a ∧ a ≤ 9223372036854775807) : IntKind.i64.wrap (a.tdiv g) = a.tdiv g ∧ wrap64 (a.tdiv g) = a.tdiv g := by
  have := Int.natAbs_tdiv_le_natAbs a g
  exact ⟨wrap_mid (by omega), by rw [w64_def, w64_id ⟨by omega, by omega⟩]⟩
theorem mid_gcd {x y M : Int} (hx : -M ≤ x ∧ x ≤ M) (hy : -M ≤ y ∧ y ≤ M) : ((Int.gcd x y : Nat) : Int) ≤ M := by
  by_cases hx0 : x = 0
  · subst hx0
    rw [Int.gcd_zero_left]
    omega
  · have := Int.gcd_le_natAbs_left y hx0
    omega
theorem abs_nat {x : Int} (h : -9223372036854775808 < x ∧ x ≤ 9223372036854775807) : absV x = ((x.natAbs : Nat) : Int) := by
  unfold absV
  split
  · omega
  · rw [w64_id ⟨by omega, by omega⟩]
    omega

set_option maxHeartbeats 1600000 in
theorem lowest_any (x y d : Int) (hx : -2305843009213693952 ≤ x ∧ x ≤ 2305843009213693952) (hy : -2305843009213693952 ≤ y ∧ y ≤ 2305843009213693952) (hdd : 0 ≤ d ∧ d ≤ 2305843009213693952) (hd : d ≠ 0) (w : World) : Calls Try.prog 142 #[.int .i64 x, .int .i64 y, .int .i64 d] w fun e w' => e = .returned (pV (lowV x y d).1 (lowV x y d).2.1 (lowV x y d).2.2) ∧ Nw w w' := by
  have c2 := fun w1 => gcd_any x y (by unfold Mid; omega) (by unfold Mid; omega) w1
  have hgg := mid_gcd hx hy
  have c3 := fun w1 => gcd_any (Int.gcd x y : Nat) d (by unfold Mid; omega) (by unfold Mid; omega) w1
  obtain ⟨g, hg, eg, e1, e2, e3⟩ := low_way (x := x) (y := y) hd
  obtain ⟨d1, f1⟩ := tdiv_near x g (by omega)
  obtain ⟨d2, f2⟩ := tdiv_near y g (by omega)
  obtain ⟨d3, f3⟩ := tdiv_near d g (by omega)
  have hgcd : ((Int.gcd (Int.gcd x y : Nat) d : Nat) : Int) = g := eg.symm
  have HV := Lib.hid (show pV (x.tdiv g) (y.tdiv g) (d.tdiv g) = pV (lowV x y d).1 (lowV x y d).2.1 (lowV x y d).2.2 by rw [eg]; rfl)
  obtain ⟨r1, h1⟩ : ∃ r, x.tdiv g = r := ⟨_, rfl⟩
  obtain ⟨r2, h2⟩ : ∃ r, y.tdiv g = r := ⟨_, rfl⟩
  obtain ⟨r3, h3⟩ : ∃ r, d.tdiv g = r := ⟨_, rfl⟩
  have H1 := Lib.hid h1
  rw [h1] at HV
  have H2 := Lib.hid h2
  rw [h2] at HV
  have H3 := Lib.hid h3
  rw [h3] at HV
  rw [← HV.out]
  have g0 : (g == 0) = false := by simp; omega
  have g1 : g ≠ 0 := by omega
  rw [hgcd] at c3
  clear e1 e2 e3 eg hgcd hx hy hd hdd hgg h1 h2 h3
  generalize ((Int.gcd x y : Nat) : Int) = s at *
  go_enter Try.func142, Try.ntmps142
  go_wp2_with (first | (go_at_call 107; ((with_reducible refine (Calls.kept_first (c2 _)).mono ?_); rintro e _ ⟨rfl, p, rfl⟩)) | (go_at_call 107; ((with_reducible refine (Calls.kept_of (c3 _)).mono ?_); rintro e _ ⟨rfl, p, rfl⟩)) | fail)
  have HRB := Lib.hid (show Blk p.wd w.heap.size 50 #[.int .i64 0, .int .i64 0, .int .i64 0] from (Blk.new_at w 50 #[.int .i64 0, .int .i64 0, .int .i64 0] (n := w.heap.size) rfl).kept p)
  obtain ⟨s0, s1, s2, y0, y1, y2⟩ := HRB.out.three
  go_wp2_with fail
  go_region
  go_wp2_with fail
  generalize hw9 : World.setCell _ _ _ = w9
  have h9 : Blk w9 w.heap.size 50 #[.int .i64 r1, .int .i64 r2, .int .i64 r3] := by rw [← hw9, H1.out, H2.out, H3.out]; exact ((show Blk _ _ _ _ from by repeat (first | exact HRB.out | refine Blk.drew ?_)).set_ 0 _).set_ 1 _ |>.set_ 2 _
  have hn9 : Nw w w9 := by rw [← hw9]; exact (((show Nw w _ from by repeat (first | exact (nw_alloc _ _).tr p.since | refine Kp.drew ?_)).new (Nat.le_refl _) _ _).new (Nat.le_refl _) _ _).new (Nat.le_refl _) _ _
  obtain ⟨x0, x1, x2, _, _, _⟩ := h9.three
  exact bodyPost_ret (v := pV r1 r2 r3) (by simp [results, Try.results142, go_sem, x0, x1, x2]) rfl ⟨by rw [HV.out], by first | exact hn9 | exact hn9.drew⟩

theorem rlow_pos (x y d : Int) (hx : -2305843009213693952 ≤ x ∧ x ≤ 2305843009213693952) (hy : -2305843009213693952 ≤ y ∧ y ≤ 2305843009213693952) (hdd : 0 ≤ d ∧ d ≤ 2305843009213693952) :
    (∀ w1, Calls Try.prog 94 #[.int .i64 x] w1 fun e w' => e = .returned (.int .i64 (x.natAbs : Nat)) ∧ w1 = w') ∧ (∀ w1, Calls Try.prog 94 #[.int .i64 y] w1 fun e w' => e = .returned (.int .i64 (y.natAbs : Nat)) ∧ w1 = w') ∧
    (∀ w1, Calls Try.prog 108 #[.int .i64 (x.natAbs : Nat), .int .i64 (y.natAbs : Nat)] w1 fun e w' => e = .returned (.int .i64 (Int.gcd x y : Nat)) ∧ Nw w1 w') ∧ (∀ w1, Calls Try.prog 108 #[.int .i64 (Int.gcd x y : Nat), .int .i64 d] w1 fun e w' => e = .returned (.int .i64 (gcd3 x y d : Nat)) ∧ Nw w1 w') := by
  have a1 := fun w1 => rabs_any x w1
  have a2 := fun w1 => rabs_any y w1
  rw [abs_nat (by omega)] at a1
  rw [abs_nat (by omega)] at a2
  have hgc : Int.gcd (x.natAbs : Nat) (y.natAbs : Nat) = Int.gcd x y := by show Nat.gcd (x.natAbs : Int).natAbs (y.natAbs : Int).natAbs = _; rw [Int.natAbs_natCast, Int.natAbs_natCast]; rfl
  have c2 := fun w1 => divisor_any (x.natAbs : Nat) (y.natAbs : Nat) (by omega) (by omega) w1
  rw [hgc] at c2
  have hgg := mid_gcd hx hy
  have c3 := fun w1 => divisor_any (Int.gcd x y : Nat) d (by omega) (by omega) w1
  exact ⟨a1, a2, c2, c3⟩

set_option maxHeartbeats 1600000 in
theorem rlowest_any (x y d : Int) (hx : -2305843009213693952 ≤ x ∧ x ≤ 2305843009213693952) (hy : -2305843009213693952 ≤ y ∧ y ≤ 2305843009213693952) (hdd : 0 ≤ d ∧ d ≤ 2305843009213693952) (hd : d ≠ 0) (w : World) : Calls Try.prog 104 #[.int .i64 x, .int .i64 y, .int .i64 d] w fun e w' => e = .returned (pV (lowV x y d).1 (lowV x y d).2.1 (lowV x y d).2.2) ∧ Nw w w' := by
  obtain ⟨a1, a2, c2, c3⟩ := rlow_pos x y d hx hy hdd
  obtain ⟨g, hg, eg, e1, e2, e3⟩ := low_way (x := x) (y := y) hd
  obtain ⟨d1, f1⟩ := tdiv_near x g (by omega)
  obtain ⟨d2, f2⟩ := tdiv_near y g (by omega)
  obtain ⟨d3, f3⟩ := tdiv_near d g (by omega)
  have hgcd : ((Int.gcd (Int.gcd x y : Nat) d : Nat) : Int) = g := eg.symm
  have HV := Lib.hid (show pV (x.tdiv g) (y.tdiv g) (d.tdiv g) = pV (lowV x y d).1 (lowV x y d).2.1 (lowV x y d).2.2 by rw [eg]; rfl)
  obtain ⟨r1, h1⟩ : ∃ r, x.tdiv g = r := ⟨_, rfl⟩
  obtain ⟨r2, h2⟩ : ∃ r, y.tdiv g = r := ⟨_, rfl⟩
  obtain ⟨r3, h3⟩ : ∃ r, d.tdiv g = r := ⟨_, rfl⟩
  have H1 := Lib.hid h1
  rw [h1] at HV
  have H2 := Lib.hid h2
  rw [h2] at HV
  have H3 := Lib.hid h3
  rw [h3] at HV
  rw [← HV.out]
  have g0 : (g == 0) = false := by simp; omega
  have g1 : g ≠ 0 := by omega
  rw [show ((gcd3 x y d : Nat) : Int) = g from eg.symm] at c3
  clear e1 e2 e3 eg hgcd h1 h2 h3
  generalize ((Int.gcd x y : Nat) : Int) = s at *
  generalize ((x.natAbs : Nat) : Int) = u1 at *
  generalize ((y.natAbs : Nat) : Int) = u2 at *
  have n0 : decide (d < 0) = false := decide_eq_false (by omega)
  clear hx hy hd hdd
  go_enter Try.func104, Try.ntmps104
  go_wp2_with (first | (go_at_call 94; ((with_reducible refine (a1 _).mono ?_); rintro e w1 ⟨rfl, rfl⟩)) | (go_at_call 94; ((with_reducible refine (a2 _).mono ?_); rintro e w1 ⟨rfl, rfl⟩)) | (go_at_call 108; ((with_reducible refine (Calls.kept_first (c2 _)).mono ?_); rintro e _ ⟨rfl, p, rfl⟩)) | (go_at_call 108; ((with_reducible refine (Calls.kept_of (c3 _)).mono ?_); rintro e _ ⟨rfl, p, rfl⟩)) | fail)
  have HRB := Lib.hid (show Blk p.wd w.heap.size 50 #[.int .i64 0, .int .i64 0, .int .i64 0] from (Blk.new_at w 50 #[.int .i64 0, .int .i64 0, .int .i64 0] (n := w.heap.size) rfl).kept p)
  obtain ⟨s0, s1, s2, y0, y1, y2⟩ := HRB.out.three
  go_wp2_with fail
  go_region
  go_wp2_with fail
  generalize hw9 : World.setCell _ _ _ = w9
  have h9 : Blk w9 w.heap.size 50 #[.int .i64 r1, .int .i64 r2, .int .i64 r3] := by rw [← hw9, H1.out, H2.out, H3.out]; exact ((show Blk _ _ _ _ from by repeat (first | exact HRB.out | refine Blk.drew ?_)).set_ 0 _).set_ 1 _ |>.set_ 2 _
  have hn9 : Nw w w9 := by rw [← hw9]; exact (((show Nw w _ from by repeat (first | exact (nw_alloc _ _).tr p.since | refine Kp.drew ?_)).new (Nat.le_refl _) _ _).new (Nat.le_refl _) _ _).new (Nat.le_refl _) _ _
  obtain ⟨x0, x1, x2, _, _, _⟩ := h9.three
  exact bodyPost_ret (v := pV r1 r2 r3) (by simp [results, Try.results104, go_sem, x0, x1, x2]) rfl ⟨by rw [HV.out], by first | exact hn9 | exact hn9.drew⟩

set_option maxHeartbeats 1600000 in
theorem rlowest_neg (x y d : Int) (hx : -2305843009213693952 ≤ x ∧ x ≤ 2305843009213693952) (hy : -2305843009213693952 ≤ y ∧ y ≤ 2305843009213693952) (hdd : 0 ≤ d ∧ d ≤ 2305843009213693952) (hd : d ≠ 0) (w : World) : Calls Try.prog 104 #[.int .i64 (-x), .int .i64 (-y), .int .i64 (-d)] w fun e w' => e = .returned (pV (lowV x y d).1 (lowV x y d).2.1 (lowV x y d).2.2) ∧ Nw w w' := by
  obtain ⟨a1, a2, c2, c3⟩ := rlow_pos x y d hx hy hdd
  obtain ⟨g, hg, eg, e1, e2, e3⟩ := low_way (x := x) (y := y) hd
  obtain ⟨d1, f1⟩ := tdiv_near x g (by omega)
  obtain ⟨d2, f2⟩ := tdiv_near y g (by omega)
  obtain ⟨d3, f3⟩ := tdiv_near d g (by omega)
  have hgcd : ((Int.gcd (Int.gcd x y : Nat) d : Nat) : Int) = g := eg.symm
  have HV := Lib.hid (show pV (x.tdiv g) (y.tdiv g) (d.tdiv g) = pV (lowV x y d).1 (lowV x y d).2.1 (lowV x y d).2.2 by rw [eg]; rfl)
  obtain ⟨r1, h1⟩ : ∃ r, x.tdiv g = r := ⟨_, rfl⟩
  obtain ⟨r2, h2⟩ : ∃ r, y.tdiv g = r := ⟨_, rfl⟩
  obtain ⟨r3, h3⟩ : ∃ r, d.tdiv g = r := ⟨_, rfl⟩
  have H1 := Lib.hid h1
  rw [h1] at HV
  have H2 := Lib.hid h2
  rw [h2] at HV
  have H3 := Lib.hid h3
  rw [h3] at HV
  rw [← HV.out]
  have g0 : (g == 0) = false := by simp; omega
  have g1 : g ≠ 0 := by omega
  rw [show ((gcd3 x y d : Nat) : Int) = g from eg.symm] at c3
  clear e1 e2 e3 eg hgcd h1 h2 h3
  generalize ((Int.gcd x y : Nat) : Int) = s at *
  generalize ((x.natAbs : Nat) : Int) = u1 at *
  generalize ((y.natAbs : Nat) : Int) = u2 at *
  have n0 : decide (-d < 0) = true := decide_eq_true (by omega)
  have m1 : wrap64 (- -x) = x := by rw [w64_def, w64_id ⟨by omega, by omega⟩]; omega
  have m2 : wrap64 (- -y) = y := by rw [w64_def, w64_id ⟨by omega, by omega⟩]; omega
  have m3 : wrap64 (- -d) = d := by rw [w64_def, w64_id ⟨by omega, by omega⟩]; omega
  obtain ⟨x', hx'⟩ : ∃ x', -x = x' := ⟨_, rfl⟩
  obtain ⟨y', hy'⟩ : ∃ y', -y = y' := ⟨_, rfl⟩
  obtain ⟨d', hd'⟩ : ∃ d', -d = d' := ⟨_, rfl⟩
  rw [hx'] at m1 ⊢
  rw [hy'] at m2 ⊢
  rw [hd'] at m3 n0 ⊢
  clear hx hy hd hdd hx' hy' hd'
  go_enter Try.func104, Try.ntmps104
  go_wp2_with (first | (go_at_call 94; ((with_reducible refine (a1 _).mono ?_); rintro e w1 ⟨rfl, rfl⟩)) | (go_at_call 94; ((with_reducible refine (a2 _).mono ?_); rintro e w1 ⟨rfl, rfl⟩)) | (go_at_call 108; ((with_reducible refine (Calls.kept_first (c2 _)).mono ?_); rintro e _ ⟨rfl, p, rfl⟩)) | (go_at_call 108; ((with_reducible refine (Calls.kept_of (c3 _)).mono ?_); rintro e _ ⟨rfl, p, rfl⟩)) | fail)
  have HRB := Lib.hid (show Blk p.wd w.heap.size 50 #[.int .i64 0, .int .i64 0, .int .i64 0] from (Blk.new_at w 50 #[.int .i64 0, .int .i64 0, .int .i64 0] (n := w.heap.size) rfl).kept p)
  obtain ⟨s0, s1, s2, y0, y1, y2⟩ := HRB.out.three
  go_wp2_with fail
  go_region
  go_wp2_with fail
  generalize hw9 : World.setCell _ _ _ = w9
  have h9 : Blk w9 w.heap.size 50 #[.int .i64 r1, .int .i64 r2, .int .i64 r3] := by rw [← hw9, H1.out, H2.out, H3.out]; exact ((show Blk _ _ _ _ from by repeat (first | exact HRB.out | refine Blk.drew ?_)).set_ 0 _).set_ 1 _ |>.set_ 2 _
  have hn9 : Nw w w9 := by rw [← hw9]; exact (((show Nw w _ from by repeat (first | exact (nw_alloc _ _).tr p.since | refine Kp.drew ?_)).new (Nat.le_refl _) _ _).new (Nat.le_refl _) _ _).new (Nat.le_refl _) _ _
  obtain ⟨x0, x1, x2, _, _, _⟩ := h9.three
  exact bodyPost_ret (v := pV r1 r2 r3) (by simp [results, Try.results104, go_sem, x0, x1, x2]) rfl ⟨by rw [HV.out], by first | exact hn9 | exact hn9.drew⟩

end Go.Proofs.Ytahamffngmdjfaa.W
