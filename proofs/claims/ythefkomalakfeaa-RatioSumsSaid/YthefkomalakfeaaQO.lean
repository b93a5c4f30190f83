/-
  ratio: Of, Int, Mul, Div: what they return. Condition: the parts are ints.
-/
import Derived.Test.YthefkomalakfeaaQC
import Derived.Deep.RegionHeld3
namespace Go.Proofs.Ythefkomalakfeaa.W
open Go.RowKit Go.Proofs.Ythefkomalakfeaa.Q

theorem wrapU (n : Nat) (h : n < 18446744073709551616) : IntKind.u64.wrap (n : Int) = n := by rw [IntKind.wrap_u64]; omega
theorem divU (a b : Nat) (h : a < 18446744073709551616) : IntKind.u64.wrap ((a : Int).tdiv (b : Int)) = ((a / b : Nat) : Int) := by
  rw [← Int.ofNat_tdiv]
  exact wrapU _ (Nat.lt_of_le_of_lt (Nat.div_le_self _ _) h)
theorem divU' (a b : Nat) (h : a < 18446744073709551616) : IntKind.u64.wrap ((a : Int) / (b : Int)) = ((a / b : Nat) : Int) := by
  rw [← Int.natCast_ediv]
  exact wrapU _ (Nat.lt_of_le_of_lt (Nat.div_le_self _ _) h)
theorem fits_iff (q : Rat) : Fits q ↔ q.num.natAbs ≤ 4611686018427387904 ∧ q.den ≤ 4611686018427387904 := Iff.rfl
/-- out, by the sizes of both parts and the sign -/
theorem out_low (q : Rat) (neg : Bool) (n d : Nat) (hn : q.num.natAbs = n) (hd : q.den = d) (hs : n ≠ 0 → (neg = true ↔ q.num < 0)) : out q = lowR neg n d := by
  unfold out lowR
  have hf := fits_iff q
  rw [hn, hd] at hf
  by_cases h : Fits q
  · rw [if_pos h, if_pos (hf.1 h)]
    have : q.num = if neg = true then -(n : Int) else n := by
      by_cases h0 : n = 0
      · subst h0; split <;> omega
      · have := hs h0
        split
        · rename_i hh; have := this.1 hh; omega
        · rename_i hh
          have : ¬ q.num < 0 := fun h => hh (this.2 h)
          omega
    rw [this, hd]
  · rw [if_neg h, if_neg (fun hh => h (hf.2 hh))]

theorem of_way (n d : Int) (hd : d ≠ 0) : out (Rat.divInt n d) = lowR (decide (n < 0) != decide (d < 0)) (n.natAbs / Nat.gcd n.natAbs d.natAbs) (d.natAbs / Nat.gcd n.natAbs d.natAbs) := by
  obtain ⟨h1, h2, h3⟩ := div_way n d hd
  refine out_low _ _ _ _ h1 h2 fun h0 => ?_
  rw [h3]
  have hn : n ≠ 0 := by rintro rfl; simp at h0
  by_cases a : n < 0 <;> by_cases b : d < 0 <;> simp [a, b] <;> omega

set_option maxRecDepth 100000 in
set_option maxHeartbeats 1600000 in
theorem of_any (n d : Int) (hn : I64 n) (hd : I64 d) (w : World) : Calls Try.prog 18 #[.int .i64 n, .int .i64 d] w fun e w' => e = .returned (resV (ofR n d)) ∧ Nw w w' := by
  have HB := Lib.hid (blk1 w 23 #[.int .i64 0, .int .i64 0])
  by_cases h : d = 0
  · subst h
    rw [show ofR n 0 = (0, 0, 1) from rfl]
    go_enter Try.func18, Try.ntmps18
    go_wp2
    exact bodyPost_ret (v := resV (0, 0, 1)) (by simp [results, Try.results18, go_sem]) rfl ⟨rfl, nw_alloc _ _⟩
  · rw [show ofR n d = out (Rat.divInt n d) from if_neg h, of_way n d h]
    have m1 := fun w1 => magnitude_any n hn w1
    have m2 := fun w1 => magnitude_any d hd w1
    obtain ⟨n1, n2⟩ := hn
    obtain ⟨d1, d2⟩ := hd
    have hg := fun w1 => gcd_any n.natAbs d.natAbs (by unfold U64; omega) (by unfold U64; omega) w1
    have hgp : 0 < Nat.gcd n.natAbs d.natAbs := Nat.gcd_pos_of_pos_right _ (by omega)
    have u1 : n.natAbs / Nat.gcd n.natAbs d.natAbs ≤ n.natAbs := Nat.div_le_self _ _
    have u2 : d.natAbs / Nat.gcd n.natAbs d.natAbs ≤ d.natAbs := Nat.div_le_self _ _
    have hl := fun w1 => lowest_any (decide (n < 0) != decide (d < 0)) (n.natAbs / Nat.gcd n.natAbs d.natAbs) (d.natAbs / Nat.gcd n.natAbs d.natAbs) (by unfold U64; omega) (by unfold U64; omega) w1
    have g1 : IntKind.u64.wrap ((n.natAbs : Int) / (Nat.gcd n.natAbs d.natAbs : Nat)) = ((n.natAbs / Nat.gcd n.natAbs d.natAbs : Nat) : Int) := divU' _ _ (by omega)
    have g2 : IntKind.u64.wrap ((d.natAbs : Int) / (Nat.gcd n.natAbs d.natAbs : Nat)) = ((d.natAbs / Nat.gcd n.natAbs d.natAbs : Nat) : Int) := divU' _ _ (by omega)
    have hne : (d == 0) = false := by simp [h]
    clear u1 u2
    generalize n.natAbs / Nat.gcd n.natAbs d.natAbs = x at *
    generalize d.natAbs / Nat.gcd n.natAbs d.natAbs = y at *
    generalize Nat.gcd n.natAbs d.natAbs = g at *
    have hz : ¬ g = 0 := by omega
    clear hgp n1 n2 d1 d2 h
    obtain ⟨bn, ebn⟩ : ∃ b, decide (n < 0) = b := ⟨_, rfl⟩
    obtain ⟨bd, ebd⟩ : ∃ b, decide (d < 0) = b := ⟨_, rfl⟩
    rw [ebn, ebd] at hl ⊢
    have hl : ∀ w1, Calls Try.prog 44 #[.bool (!(bn == bd)), .int .u64 x, .int .u64 y] w1 fun e w' => e = .returned (resV (lowR (bn != bd) x y)) ∧ Nw w1 w' := hl
    go_enter Try.func18, Try.ntmps18
    go_wp2_with (first
      | (go_at_call 41; with_reducible refine (m1 _).mono ?_; rintro e w1 ⟨rfl, rfl⟩)
      | (go_at_call 41; with_reducible refine (m2 _).mono ?_; rintro e w1 ⟨rfl, rfl⟩)
      | (go_at_call 42; with_reducible refine (hg _).mono ?_; rintro e w1 ⟨rfl, k, rfl⟩))
    generalize hw1 : World.drewN _ _ = w1
    have hk1 : Nw (w.alloc (.cells #[.int .i64 0, .int .i64 0] 23)) w1 := by rw [← hw1]; exact nw_drewN _ _
    have HK := Lib.hid ((nw_alloc w _).tr hk1)
    have HB1 := Lib.hid (HB.out.kp hk1 id)
    obtain ⟨r0, r1, r2, r3⟩ := HB1.out.two
    clear hw1 hk1 m1 m2 hg
    go_region_held3 (fun _ : World => True) (trivial)
      ((go_at_call 44; ((with_reducible refine (hl _).mono ?_); rintro e w2 ⟨rfl, hk2⟩; obtain ⟨r0, r1, r2, r3⟩ := (HB1.out.drew.kp hk2 (fun e => e)).two)))
    go_wp2
    exact bodyPost_ret (v := resV (lowR (bn != bd) x y)) (by simp [results, Try.results18, go_sem, r0, r1]) rfl ⟨rfl, (HK.out.drew.tr hk2).new (by omega) _ _ |>.new (by omega) _ _⟩

set_option maxHeartbeats 800000 in
theorem int_any (n : Int) (hn : I64 n) (w : World) : Calls Try.prog 20 #[.int .i64 n] w fun e w' => e = .returned (resV (ofR n 1)) ∧ Nw w w' := by
  have HB := Lib.hid (blk1 w 23 #[.int .i64 0, .int .i64 0])
  have ho := fun w1 => of_any n 1 hn ⟨by omega, by omega⟩ w1
  go_enter Try.func20, Try.ntmps20
  go_wp2_with fail
  with_reducible refine (ho _).mono ?_
  rintro e w1 ⟨rfl, hk1⟩
  obtain ⟨r0, r1, r2, r3⟩ := (HB.out.kp hk1 id).two
  go_wp2
  exact bodyPost_ret (v := resV (ofR n 1)) (by simp [results, Try.results20, go_sem, r0, r1]) rfl ⟨rfl, ((nw_alloc _ _).tr hk1).new (by omega) _ _ |>.new (by omega) _ _⟩

theorem mul_out (a b : Rat) : out (a * b) = lowR (decide (a.num < 0) != decide (b.num < 0)) ((a.num.natAbs / Nat.gcd a.num.natAbs b.den) * (b.num.natAbs / Nat.gcd b.num.natAbs a.den)) ((a.den / Nat.gcd b.num.natAbs a.den) * (b.den / Nat.gcd a.num.natAbs b.den)) := by
  obtain ⟨h1, h2⟩ := mul_way a b
  refine out_low _ _ _ _ h1 h2 fun h0 => ?_
  rw [mul_sign]
  have ha : a.num ≠ 0 := by rintro h; rw [h] at h0; simp at h0
  have hb : b.num ≠ 0 := by rintro h; rw [h] at h0; simp at h0
  by_cases x : a.num < 0 <;> by_cases y : b.num < 0 <;> simp [x, y] <;> omega

theorem mulR_way {an ad bn bd : Int} (ha : Vld an ad) (hb : Vld bn bd) :
    mulR an ad bn bd = lowR (decide (an < 0) != decide (bn < 0)) ((an.natAbs / Nat.gcd an.natAbs bd.natAbs) * (bn.natAbs / Nat.gcd bn.natAbs ad.natAbs)) ((ad.natAbs / Nat.gcd bn.natAbs ad.natAbs) * (bd.natAbs / Nat.gcd an.natAbs bd.natAbs)) := by
  unfold mulR
  rw [good_rat ha, good_rat hb]
  show out (_ * _) = _
  obtain ⟨a1, a2, a3⟩ := good_div ha
  obtain ⟨b1, b2, b3⟩ := good_div hb
  rw [mul_out, a1, b1, show (Rat.divInt an ad).den = ad.natAbs by omega, show (Rat.divInt bn bd).den = bd.natAbs by omega]
theorem mulR_bad {an ad bn bd : Int} (h : ¬ (Vld an ad ∧ Vld bn bd)) : mulR an ad bn bd = (0, 0, 1) := by
  unfold mulR both
  by_cases ha : Vld an ad
  · rw [val_good (fun hb => h ⟨ha, hb⟩)]
    split
    · rename_i h2; cases h2
    · rfl
  · rw [val_good ha]
theorem low_big (neg : Bool) (n d : Nat) (h : 18446744073709551616 ≤ n ∨ 18446744073709551616 ≤ d) : lowR neg n d = (0, 0, 2) := if_neg (by omega)
theorem dv_lt (a g : Nat) (h : a ≤ 4611686018427387904) : a / g < 18446744073709551616 := Nat.lt_of_le_of_lt (Nat.div_le_self _ _) (by omega)
end Go.Proofs.Ythefkomalakfeaa.W
