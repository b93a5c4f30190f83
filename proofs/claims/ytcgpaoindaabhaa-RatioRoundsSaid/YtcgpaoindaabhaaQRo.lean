/-
  RatioRounds: the call returns true. Condition: the parts are ints.
-/
import Derived.Test.YtcgpaoindaabhaaQAw
namespace Go.Proofs.Ytcgpaoindaabhaa.W
open Go.RowKit Go.Proofs.Ytcgpaoindaabhaa.Q

theorem of_one {z : Int} (h : z.natAbs ≤ 4611686018427387904) : ofR z 1 = (z, 1, 0) := by
  have e : ofR z 1 = out (Rat.divInt z 1) := rfl
  rw [e]
  have hv : Vld z 1 := (vld_iff z 1).2 ⟨by omega, by omega, by omega, by omega, by simp⟩
  obtain ⟨h1, h2, h3⟩ := good_div hv
  unfold out
  rw [if_pos h3, h1, h2]
theorem floor_le_way (n d : Int) (hd : 0 < d) : n / d * d ≤ n ∧ n < n / d * d + d := by
  have h2 := Int.emod_add_mul_ediv n d
  have h3 := Int.emod_nonneg n (show d ≠ 0 by omega)
  have h4 := Int.emod_lt_of_pos n hd
  rw [Int.mul_comm] at h2
  generalize n / d * d = m at *
  omega
/-- what the law compares -/
theorem rounds_way (n d : Int) (h : Vld n d) :
    (floorR n d).natAbs ≤ 4611686018427387904 ∧ (ceilR n d).natAbs ≤ 4611686018427387904 ∧ ¬ cmpR (floorR n d) 1 n d > 0 ∧ ¬ cmpR n d (ceilR n d) 1 > 0 ∧ (floorR n d = ceilR n d ↔ d = 1) ∧ ceilR n d - floorR n d ≤ 1 ∧ (d = 1 → floorR n d = n) ∧ -1 ≤ ceilR n d - floorR n d := by
  obtain ⟨n1, n2⟩ := vld_n h
  obtain ⟨d1, d2⟩ := vld_d h
  have hf := floor_fits n d
  have hc : -4611686018427387904 ≤ ceilR n d ∧ ceilR n d ≤ 4611686018427387904 := by
    rw [ceil_way]
    have := floor_fits (negR n d).1 (negR n d).2
    omega
  have ef : floorR n d = n / d := if_pos h
  have ec : ceilR n d = -((-n) / d) := if_pos h
  obtain ⟨a1, a2⟩ := floor_le_way n d (by omega)
  obtain ⟨b1, b2⟩ := floor_le_way (-n) d (by omega)
  have vf : Vld (floorR n d) 1 := (vld_iff _ 1).2 ⟨by omega, by omega, by omega, by omega, by simp⟩
  have vc : Vld (ceilR n d) 1 := (vld_iff _ 1).2 ⟨by omega, by omega, by omega, by omega, by simp⟩
  have k1 : cmpR (floorR n d) 1 n d = sgn (floorR n d * d - n * 1) := if_pos ⟨vf, h⟩
  have k2 : cmpR n d (ceilR n d) 1 = sgn (n * 1 - ceilR n d * d) := if_pos ⟨h, vc⟩
  have zf : (floorR n d).natAbs ≤ 4611686018427387904 := by omega
  have zc : (ceilR n d).natAbs ≤ 4611686018427387904 := by omega
  refine ⟨zf, zc, ?_⟩
  rw [k1, k2, ef, ec]
  have e3 : -(-n / d) * d = -(-n / d * d) := Int.neg_mul _ _
  have hdiff : (-(-n / d) - n / d) * d = -(-n / d * d) - n / d * d := by rw [Int.sub_mul, e3]
  rw [e3]
  refine ⟨?_, ?_, ?_, ?_, ?_, ?_⟩
  · unfold sgn; split <;> (try split) <;> omega
  · unfold sgn; split <;> (try split) <;> omega
  · constructor
    · intro he
      have : n / d * d = n := by
        rw [← he, Int.sub_self, Int.zero_mul] at hdiff
        omega
      have hdv : d ∣ n := ⟨n / d, by rw [Int.mul_comm]; exact this.symm⟩
      have hg : d.natAbs ∣ Nat.gcd n.natAbs d.natAbs := Nat.dvd_gcd (Int.natAbs_dvd_natAbs.2 hdv) (Nat.dvd_refl _)
      rw [h.2.2.2] at hg
      have := Nat.eq_one_of_dvd_one hg
      omega
    · rintro rfl
      simp
  · rcases Int.lt_or_le 1 (-(-n / d) - n / d) with hh | hh
    · have := Int.mul_le_mul_of_nonneg_right (show 2 ≤ -(-n / d) - n / d by omega) (show 0 ≤ d by omega)
      omega
    · exact hh
  · rintro rfl
    simp
  · rcases Int.lt_or_le (-(-n / d) - n / d) (-1) with hh | hh
    · have := Int.mul_le_mul_of_nonneg_right (show -(-n / d) - n / d ≤ -2 by omega) (show 0 ≤ d by omega)
      omega
    · exact hh

set_option maxRecDepth 100000 in
set_option maxHeartbeats 6400000 in
theorem ratioRounds_any (n d : Int) (hn : I64 n) (hd : I64 d) (w : World) : Calls Try.prog 8 #[raV n d] w fun e w' => e = .returned (.bool true) ∧ Nw w w' := by
  have haw := fun w1 => awake_any w1
  have hv := fun w1 => refValid_any n d hn hd w1
  have hfl := fun w1 => floor_any n d hn hd w1
  have hce := fun w1 => ceil_any n d hn hd w1
  have HB := Lib.hid (blk1 w 23 #[.int .i64 n, .int .i64 d])
  by_cases h : Vld n d
  · rw [decide_eq_true h] at hv
    obtain ⟨z1, z2, z3, z4, z5, z6, z7, z8⟩ := rounds_way n d h
    obtain ⟨x, hx⟩ : ∃ x, floorR n d = x := ⟨_, rfl⟩
    obtain ⟨y, hy⟩ : ∃ y, ceilR n d = y := ⟨_, rfl⟩
    rw [hx] at hfl z1 z3 z5 z6 z7 z8
    rw [hy] at hce z2 z4 z5 z6 z8
    have i1 := fun w1 => int_any x ⟨by omega, by omega⟩ w1
    have i2 := fun w1 => int_any y ⟨by omega, by omega⟩ w1
    rw [of_one z1] at i1
    rw [of_one z2] at i2
    have c1 := fun w1 => cmp_any x 1 n d ⟨by omega, by omega⟩ ⟨by omega, by omega⟩ hn hd w1
    have c2 := fun w1 => cmp_any n d y 1 hn hd ⟨by omega, by omega⟩ ⟨by omega, by omega⟩ w1
    obtain ⟨r1, hr1⟩ : ∃ r, cmpR x 1 n d = r := ⟨_, rfl⟩
    obtain ⟨r2, hr2⟩ : ∃ r, cmpR n d y 1 = r := ⟨_, rfl⟩
    rw [hr1] at c1 z3
    rw [hr2] at c2 z4
    have e1 : decide (r1 > 0) = false := decide_eq_false z3
    have e2 : decide (r2 > 0) = false := decide_eq_false z4
    obtain ⟨b, hb⟩ : ∃ b, (d == 1) = b := ⟨_, rfl⟩
    have e3 : (x == y) = b := by rw [← hb, Bool.eq_iff_iff, beq_iff_eq, beq_iff_eq]; exact z5
    have e4 : IntKind.i64.wrap (y - x) = y - x := by rw [IntKind.wrap_i64]; omega
    have e5 : decide (y - x > 1) = false := decide_eq_false (by omega)
    have e6 : (d != 1) = !b := by rw [← hb]; rfl
    have H7 := Lib.hid z7
    have HBB := Lib.hid hb
    clear h z1 z2 z3 z4 z5 z6 z7 z8 hx hy hr1 hr2 hn hd
    go_enter Try.func8, Try.ntmps8
    go_wp2_with fail
    refine (haw _).mono ?_
    rintro e w1 ⟨rfl, hk1⟩
    have HK1 := Lib.hid hk1
    clear hk1 haw
    obtain ⟨p0, p1, _, _⟩ := (HB.out.kp HK1.out id).two
    go_wp2_with fail
    refine (hv _).mono ?_
    rintro e w2 ⟨rfl, hk2⟩
    have HK2 := Lib.hid (HK1.out.tr hk2)
    have HB2 := Lib.hid (HB.out.kp HK2.out id)
    clear hk2 hv p0 p1
    have hP : ∀ w' : World, Nw w2 w' → w'.cell? (⟨w.heap.size, 0, none⟩ : Addr) = some (.int .i64 n) ∧ w'.cell? (⟨w.heap.size, 1, none⟩ : Addr) = some (.int .i64 d) := fun w' h => by
      obtain ⟨a, b, _, _⟩ := (HB2.out.kp h id).two
      exact ⟨a, b⟩
    have HP := Lib.hid hP
    clear hP
    obtain ⟨p0, p1, _, _⟩ := HB2.out.two
    go_wp2_with fail
    go_region_held3 (fun w' : World => w'.cell? (⟨w.heap.size, 0, none⟩ : Addr) = some (.int .i64 n) ∧ w'.cell? (⟨w.heap.size, 1, none⟩ : Addr) = some (.int .i64 d))
      (first | exact HP.out _ (Kp.refl _ _) | exact HP.out _ (Kp.drew (Kp.refl _ _)) | exact HP.out _ hb | fail)
      (first
        | (go_at_call 29; ((with_reducible refine (hfl _).mono ?_); rintro e w3 ⟨rfl, hk3⟩; have hb : Nw w2 w3 := (Kp.drew (Kp.refl _ _)).tr hk3))
        | (go_at_call 31; ((with_reducible refine (hce _).mono ?_); rintro e w4 ⟨rfl, hk4⟩; have hb : Nw w2 w4 := hb.tr hk4)))
    have HN4 := Lib.hid hb
    clear p0 p1
    obtain ⟨p0, p1, _, _⟩ := (HB2.out.kp hb id).two
    clear hb
    go_wp2_with fail
    refine (i1 _).mono ?_
    rintro e w5 ⟨rfl, hk5⟩
    have hb5 := Blk.new w5 23 #[.int .i64 x, .int .i64 1]
    have HN5 := Lib.hid (((HN4.out.tr hk5).alloc (.cells #[.int .i64 x, .int .i64 1] 23)))
    clear hk5 p0 p1
    go_wp2_with fail
    refine (i2 _).mono ?_
    rintro e w6 ⟨rfl, hk6⟩
    have hb6 := Blk.new w6 23 #[.int .i64 y, .int .i64 1]
    have hb5 := (hb5.kp hk6 id).alloc (.cells #[.int .i64 y, .int .i64 1] 23)
    have HN6 := Lib.hid ((HN5.out.tr hk6).alloc (.cells #[.int .i64 y, .int .i64 1] 23))
    have HB5 := Lib.hid hb5
    have HB6 := Lib.hid hb6
    obtain ⟨p0, p1, _, _⟩ := (HB2.out.kp HN6.out id).two
    obtain ⟨q0, q1, _, _⟩ := hb5.two
    obtain ⟨r0, r1', _, _⟩ := hb6.two
    clear hk6 hb5 hb6
    go_wp2_with fail
    refine (c1 _).mono ?_
    rintro e w7 ⟨rfl, hk7⟩
    have HN7 := Lib.hid (HN6.out.tr hk7)
    clear p0 p1 q0 q1 r0 r1'
    obtain ⟨p0, p1, _, _⟩ := (HB2.out.kp HN7.out id).two
    obtain ⟨r0, r1', _, _⟩ := (HB6.out.kp hk7 id).two
    clear hk7
    go_wp2_with fail
    refine (c2 _).mono ?_
    rintro e w8 ⟨rfl, hk8⟩
    have HN8 := Lib.hid (HN7.out.tr hk8)
    clear p0 p1 r0 r1'
    obtain ⟨p0, p1, _, _⟩ := (HB2.out.kp HN8.out id).two
    clear hk8
    cases b
    · go_wp2_with fail
      go_ret
      exact ⟨rfl, ((nw_alloc w _).tr HK2.out).tr HN8.out⟩
    · have h1 := HBB.out
      rw [beq_iff_eq] at h1
      have h2 := H7.out h1
      subst h1 h2
      go_wp2_with fail
      go_ret
      exact ⟨rfl, ((nw_alloc w _).tr HK2.out).tr HN8.out⟩
  · rw [decide_eq_false h] at hv
    rw [show floorR n d = 0 from if_neg h] at hfl
    rw [show ceilR n d = 0 from if_neg h] at hce
    clear h hn hd
    go_enter Try.func8, Try.ntmps8
    go_wp2_with fail
    refine (haw _).mono ?_
    rintro e w1 ⟨rfl, hk1⟩
    have HK1 := Lib.hid hk1
    clear hk1 haw
    obtain ⟨p0, p1, _, _⟩ := (HB.out.kp HK1.out id).two
    go_wp2_with fail
    refine (hv _).mono ?_
    rintro e w2 ⟨rfl, hk2⟩
    have HK2 := Lib.hid (HK1.out.tr hk2)
    clear hk2 p0 p1
    obtain ⟨p0, p1, _, _⟩ := (HB.out.kp HK2.out id).two
    go_wp2_with fail
    refine (hfl _).mono ?_
    rintro e w3 ⟨rfl, hk3⟩
    have HK3 := Lib.hid (HK2.out.tr hk3)
    clear hk3 p0 p1
    obtain ⟨p0, p1, _, _⟩ := (HB.out.kp HK3.out id).two
    go_wp2_with fail
    refine (hce _).mono ?_
    rintro e w4 ⟨rfl, hk4⟩
    go_wp2
    go_ret
    exact ⟨rfl, ((nw_alloc w _).tr HK3.out).tr hk4⟩
end Go.Proofs.Ytcgpaoindaabhaa.W
