/-
  seg and its reference: ComparePoints. No condition (for the comparing of two quotients: positive denominators up to 2^27, numerators within 2000 times them).
-/
import Derived.Test.YtgmojgeclljajaaGS3
import Derived.BigRegion
import Derived.Deep.RegionHeld3
namespace Go.Proofs.Ytgmojgeclljajaa.W
open Go.RowKit Go.Proofs.Ytgmojgeclljajaa.V Go.Proofs.Ytgmojgeclljajaa.G

/-- what is asked of a quotient that is compared -/
def Qok (a m : Int) : Prop := (1 ≤ m ∧ m ≤ 134217728) ∧ -268435456000 ≤ a ∧ a ≤ 268435456000
theorem q_facts {a m : Int} (h : Qok a m) : (-268435456000 ≤ a.tdiv m ∧ a.tdiv m ≤ 268435456000) ∧ -134217728 < a.tmod m ∧ a.tmod m < 134217728 := by
  obtain ⟨h1, h2⟩ := h
  have := Int.natAbs_tdiv_le_natAbs a m
  obtain ⟨_, g1, g2, _, _⟩ := tm_way a m (by omega)
  exact ⟨by omega, by omega, by omega⟩
theorem mul_small {x y : Int} (hx : -134217728 < x ∧ x < 134217728) (hy : 1 ≤ y ∧ y ≤ 134217728) : -18014398509481984 ≤ x * y ∧ x * y ≤ 18014398509481984 := by
  have h := Nat.mul_le_mul (show x.natAbs ≤ 134217728 by omega) (show y.natAbs ≤ 134217728 by omega)
  rw [← Int.natAbs_mul] at h
  omega

set_option maxHeartbeats 1600000 in
theorem quot_any (a m b n : Int) (ha : Qok a m) (hb : Qok b n) (w : World) : Calls Try.prog 89 #[.int .i64 a, .int .i64 m, .int .i64 b, .int .i64 n] w fun e w' => e = .returned (.int .i64 (qcmp a m b n)) ∧ Nw w w' := by
  obtain ⟨a1, a2⟩ := q_facts ha
  obtain ⟨b1, b2⟩ := q_facts hb
  have m1 := mul_small a2 hb.1
  have m2 := mul_small b2 ha.1
  have c1 := fun w1 => compareInt_any (a.tdiv m) (b.tdiv n) w1
  have c2 := fun w1 => compareInt_any (a.tmod m * n) (b.tmod n * m) w1
  have hres := qcmp_trunc (a := a) (m := m) (b := b) (n := n) (by have := ha.1; omega) (by have := hb.1; omega)
  have d1 : IntKind.i64.wrap (a.tdiv m) = a.tdiv m := wrap_mid (by omega)
  have d2 : IntKind.i64.wrap (b.tdiv n) = b.tdiv n := wrap_mid (by omega)
  have d3 : IntKind.i64.wrap (a.tmod m) = a.tmod m := wrap_mid (by omega)
  have d4 : IntKind.i64.wrap (b.tmod n) = b.tmod n := wrap_mid (by omega)
  have d5 : IntKind.i64.wrap (a.tmod m * n) = a.tmod m * n := wrap_mid (by omega)
  have d6 : IntKind.i64.wrap (b.tmod n * m) = b.tmod n * m := wrap_mid (by omega)
  have n1 : m ≠ 0 := by have := ha.1; omega
  have n2 : n ≠ 0 := by have := hb.1; omega
  have n3 : (m == 0) = false := by simp [n1]
  have n4 : (n == 0) = false := by simp [n2]
  rw [← hres]
  clear hres m1 m2 a1 a2 b1 b2 ha hb
  obtain ⟨s, hs⟩ : ∃ s, sgn (a.tdiv m - b.tdiv n) = s := ⟨_, rfl⟩
  obtain ⟨t, ht⟩ : ∃ t, sgn (a.tmod m * n - b.tmod n * m) = t := ⟨_, rfl⟩
  rw [hs] at c1 ⊢
  rw [ht] at c2 ⊢
  clear hs ht
  have hO := fun g w3 h0 h1 => or_any g s t w3 h0 h1
  obtain ⟨r, hr⟩ : ∃ r, (if s ≠ 0 then s else t) = r := ⟨_, rfl⟩
  rw [hr] at hO ⊢
  clear hr
  have HN := Lib.hid (show _ ∧ _ from ⟨(Blk.new_at w 3 #[.int .i64 s, .int .i64 t] (n := w.heap.size) rfl).drew.cell 0, (Blk.new_at w 3 #[.int .i64 s, .int .i64 t] (n := w.heap.size) rfl).drew.cell 1⟩)
  go_enter Try.func89, Try.ntmps89
  go_wp2_with fail
  go_region_held3 (fun w' : World => True)
    (first | exact trivial | fail)
    (first
      | (go_at_call 74; ((with_reducible refine (c1 _).mono ?_); rintro e w4 ⟨rfl, rfl⟩))
      | (go_at_call 74; ((with_reducible refine (c2 _).mono ?_); rintro e w5 ⟨rfl, rfl⟩))
      | (go_at_call 76; ((refine (hO _ _ (HN.out.1) (HN.out.2)).mono ?_); rintro e w6 ⟨rfl, rfl⟩)))
  go_wp2
  go_ret
  exact ⟨rfl, by repeat (first | exact Kp.refl _ _ | refine Kp.alloc ?_ _ | refine Kp.drew ?_)⟩

def cmpPt (x y d x' y' d' : Int) : Int := if nearP x y d && nearP x' y' d' then pcmp x y d x' y' d' else 0
theorem near_q {x y d : Int} (h : nearP x y d = true) : Qok x d ∧ Qok y d := by
  unfold nearP at h
  rw [Bool.and_eq_true] at h
  obtain ⟨h1, h2, h3, h4⟩ := in_mid (by omega) h.1
  exact ⟨⟨h1, by omega, by omega⟩, ⟨h1, by omega, by omega⟩⟩

set_option maxHeartbeats 1600000 in
theorem comparePoints_any (x y d x' y' d' : Int) (w : World) : Calls Try.prog 68 #[pV x y d, pV x' y' d'] w fun e w' => e = .returned (.int .i64 (cmpPt x y d x' y' d')) ∧ Nw w w' := by
  have c1 := fun w1 => isCompared_any x y d w1
  have c2 := fun w1 => isCompared_any x' y' d' w1
  unfold cmpPt
  have hb0 := Blk.new_at w 53 #[.int .i64 x, .int .i64 y, .int .i64 d] (n := w.heap.size) (by simp)
  have hb1 := Blk.new_at (w.alloc (.cells #[.int .i64 x, .int .i64 y, .int .i64 d] 53)) 53 #[.int .i64 x', .int .i64 y', .int .i64 d'] (n := w.heap.size + 1) (by simp)
  have hk0 : ∀ p : KeptW ((w.alloc (.cells #[.int .i64 x, .int .i64 y, .int .i64 d] 53)).alloc (.cells #[.int .i64 x', .int .i64 y', .int .i64 d'] 53)), Blk p.wd (w.heap.size) 53 #[.int .i64 x, .int .i64 y, .int .i64 d] := fun p => (hb0.alloc _).kept p
  have q0 := fun p => (hk0 p).cell 0
  have q1 := fun p => (hk0 p).cell 1
  have q2 := fun p => (hk0 p).cell 2
  have hk1 : ∀ p : KeptW ((w.alloc (.cells #[.int .i64 x, .int .i64 y, .int .i64 d] 53)).alloc (.cells #[.int .i64 x', .int .i64 y', .int .i64 d'] 53)), Blk p.wd (w.heap.size + 1) 53 #[.int .i64 x', .int .i64 y', .int .i64 d'] := fun p => hb1.kept p
  have q3 := fun p => (hk1 p).cell 0
  have q4 := fun p => (hk1 p).cell 1
  have q5 := fun p => (hk1 p).cell 2
  skip
  clear hb0 hk0 hb1 hk1
  by_cases h1 : nearP x y d = true
  · by_cases h2 : nearP x' y' d' = true
    · obtain ⟨qx, qy⟩ := near_q h1
      obtain ⟨qx', qy'⟩ := near_q h2
      have c3 := fun w1 => quot_any y d y' d' qy qy' w1
      have c4 := fun w1 => quot_any x d x' d' qx qx' w1
      rw [h1] at c1 ⊢
      rw [h2] at c2 ⊢
      clear h1 h2 qx qy qx' qy'
      simp only [Bool.and_self, if_true]
      unfold pcmp
      generalize qcmp y d y' d' = s at *
      generalize qcmp x d x' d' = t at *
      have hO := fun g w3 h0 h1 => or_any g s t w3 h0 h1
      obtain ⟨r, hr⟩ : ∃ r, (if s ≠ 0 then s else t) = r := ⟨_, rfl⟩
      rw [hr] at hO ⊢
      clear hr
      go_enter Try.func68, Try.ntmps68
      go_upto_region 3 with (first | (go_at_call 88; ((with_reducible refine (Calls.kept_first (c1 _)).mono ?_); rintro e _ ⟨rfl, p, rfl⟩)) | (go_at_call 88; ((with_reducible refine (Calls.kept_of (c2 _)).mono ?_); rintro e _ ⟨rfl, p, rfl⟩)) | fail)
      have HP := Lib.hid (show ∀ w', Nw p.wd w' → w'.cell? (⟨w.heap.size, 0, none⟩ : Addr) = some (.int .i64 x) ∧ w'.cell? (⟨w.heap.size, 1, none⟩ : Addr) = some (.int .i64 y) ∧ w'.cell? (⟨w.heap.size, 2, none⟩ : Addr) = some (.int .i64 d) ∧ w'.cell? (⟨w.heap.size + 1, 0, none⟩ : Addr) = some (.int .i64 x') ∧ w'.cell? (⟨w.heap.size + 1, 1, none⟩ : Addr) = some (.int .i64 y') ∧ w'.cell? (⟨w.heap.size + 1, 2, none⟩ : Addr) = some (.int .i64 d') from fun w' h => ⟨q0 ⟨w', p.since.tr h⟩, q1 ⟨w', p.since.tr h⟩, q2 ⟨w', p.since.tr h⟩, q3 ⟨w', p.since.tr h⟩, q4 ⟨w', p.since.tr h⟩, q5 ⟨w', p.since.tr h⟩⟩)
      have HK := Lib.hid p.since
      generalize p.wd = w6 at HP HK ⊢
      clear q0 q1 q2 q3 q4 q5
      go_wp2_with fail
      go_region_held3 (fun w' : World => w'.cell? (⟨w.heap.size, 0, none⟩ : Addr) = some (.int .i64 x) ∧ w'.cell? (⟨w.heap.size, 1, none⟩ : Addr) = some (.int .i64 y) ∧ w'.cell? (⟨w.heap.size, 2, none⟩ : Addr) = some (.int .i64 d) ∧ w'.cell? (⟨w.heap.size + 1, 0, none⟩ : Addr) = some (.int .i64 x') ∧ w'.cell? (⟨w.heap.size + 1, 1, none⟩ : Addr) = some (.int .i64 y') ∧ w'.cell? (⟨w.heap.size + 1, 2, none⟩ : Addr) = some (.int .i64 d'))
        (first | exact HP.out _ (Kp.refl _ _) | exact HP.out _ (Kp.drew (Kp.refl _ _)) | exact HP.out _ (Kp.alloc hb5 _) | exact HP.out _ hb5 | exact HP.out _ hb4 | exact HP.out _ hb6 | fail)
        (first
          | (go_at_call 89; ((with_reducible refine (c3 _).mono ?_); rintro e u4 ⟨rfl, hk4⟩; have hb4 : Nw w6 u4 := (Kp.drew (Kp.refl _ _)).tr hk4))
          | (go_at_call 89; ((with_reducible refine (c4 _).mono ?_); rintro e u5 ⟨rfl, hk5⟩; have hb5 : Nw w6 u5 := hb4.tr hk5; have HN := Lib.hid (show _ ∧ _ from ⟨(Blk.new_at u5 3 #[.int .i64 s, .int .i64 t] (n := u5.heap.size) rfl).cell 0, (Blk.new_at u5 3 #[.int .i64 s, .int .i64 t] (n := u5.heap.size) rfl).cell 1⟩)))
          | (go_at_call 76; ((refine (hO _ _ (HN.out.1) (HN.out.2)).mono ?_); rintro e u6 ⟨rfl, hk6⟩; have hb6 : Nw w6 u6 := by rw [← hk6]; exact hb5.alloc _)))
      go_wp2
      go_ret
      exact ⟨rfl, by first | exact (((nw_alloc _ _).alloc _).tr HK.out).tr (hb5.alloc _) | exact (((nw_alloc _ _).alloc _).tr HK.out).tr hb6⟩
    · rw [Bool.not_eq_true] at h2
      rw [h1] at c1 ⊢
      rw [h2] at c2 ⊢
      clear h1 h2
      go_enter Try.func68, Try.ntmps68
      go_wp2_with (first | (go_at_call 88; ((with_reducible refine (Calls.kept_first (c1 _)).mono ?_); rintro e _ ⟨rfl, p, rfl⟩)) | (go_at_call 88; ((with_reducible refine (Calls.kept_of (c2 _)).mono ?_); rintro e _ ⟨rfl, p, rfl⟩)) | fail)
      go_ret
      exact ⟨rfl, ((nw_alloc _ _).alloc _).tr p.since⟩
  · rw [Bool.not_eq_true] at h1
    rw [h1] at c1 ⊢
    clear h1
    go_enter Try.func68, Try.ntmps68
    go_wp2_with (first | (go_at_call 88; ((with_reducible refine (Calls.kept_first (c1 _)).mono ?_); rintro e _ ⟨rfl, p, rfl⟩)) | fail)
    go_ret
    exact ⟨rfl, ((nw_alloc _ _).alloc _).tr p.since⟩

set_option maxHeartbeats 1600000 in
theorem floor_any (a b : Int) (h : Qok a b) (w : World) : Calls Try.prog 98 #[.int .i64 a, .int .i64 b] w fun e w' => e = .returned (.tuple #[.int .i64 (flQ a b).1, .int .i64 (flQ a b).2]) ∧ Nw w w' := by
  obtain ⟨a1, a2⟩ := q_facts h
  obtain ⟨⟨h1, h2⟩, h3, h4⟩ := h
  have d1 : IntKind.i64.wrap (a.tdiv b) = a.tdiv b := wrap_mid (by omega)
  have d3 : IntKind.i64.wrap (a.tmod b) = a.tmod b := wrap_mid (by omega)
  have d5 : wrap64 (a.tdiv b) = a.tdiv b := by rw [w64_def, w64_id ⟨by omega, by omega⟩]
  have d6 : wrap64 (a.tmod b) = a.tmod b := by rw [w64_def, w64_id ⟨by omega, by omega⟩]
  have d7 : wrap64 (a.tdiv b - 1) = a.tdiv b - 1 := by rw [w64_def, w64_id ⟨by omega, by omega⟩]
  have d8 : wrap64 (a.tmod b + b) = a.tmod b + b := by rw [w64_def, w64_id ⟨by omega, by omega⟩]
  have n1 : b ≠ 0 := by omega
  have n3 : (b == 0) = false := by simp [n1]
  unfold flQ
  clear a1 a2 h1 h2 h3 h4
  by_cases hm : a.tmod b < 0
  · rw [if_pos hm]
    have e1 : decide (a.tmod b < 0) = true := decide_eq_true hm
    clear hm
    go_enter Try.func98, Try.ntmps98
    go_wp2_with fail
    go_region
    go_wp2_with fail
    go_ret2
    exact ⟨by show Ending.returned (Value.tuple #[.int .i64 (wrap64 (a.tdiv b - 1)), .int .i64 (wrap64 (a.tmod b + b))]) = _; rw [d7, d8], by repeat (first | exact Kp.refl _ _ | refine Kp.drew ?_)⟩
  · rw [if_neg hm]
    have e1 : decide (a.tmod b < 0) = false := decide_eq_false hm
    clear hm
    go_enter Try.func98, Try.ntmps98
    go_wp2_with fail
    go_region
    go_wp2_with fail
    go_ret2
    exact ⟨rfl, by repeat (first | exact Kp.refl _ _ | refine Kp.drew ?_)⟩

theorem fl_facts {a m : Int} (h : Qok a m) : (-268435456001 ≤ (flQ a m).1 ∧ (flQ a m).1 ≤ 268435456000) ∧ -134217728 < (flQ a m).2 ∧ (flQ a m).2 < 134217728 := by
  obtain ⟨a1, a2⟩ := q_facts h
  obtain ⟨h0, h1, h2⟩ := fl_way a m (by have := h.1; omega)
  refine ⟨?_, by omega, by have := h.1; omega⟩
  unfold flQ
  split <;> simp only <;> omega
set_option maxHeartbeats 1600000 in
theorem rquot_any (a m b n : Int) (ha : Qok a m) (hb : Qok b n) (w : World) : Calls Try.prog 91 #[.int .i64 a, .int .i64 m, .int .i64 b, .int .i64 n] w fun e w' => e = .returned (.int .i64 (qcmp a m b n)) ∧ Nw w w' := by
  have c1 := fun w1 => floor_any a m ha w1
  have c2 := fun w1 => floor_any b n hb w1
  obtain ⟨a1, a2⟩ := fl_facts ha
  obtain ⟨b1, b2⟩ := fl_facts hb
  have m1 := mul_small a2 hb.1
  have m2 := mul_small b2 ha.1
  have hres := qcmp_floor (a := a) (m := m) (b := b) (n := n) (by have := ha.1; omega) (by have := hb.1; omega)
  rw [← hres]
  clear hres ha hb
  generalize flQ a m = F at *
  generalize flQ b n = G at *
  obtain ⟨q, r⟩ := F
  obtain ⟨s, t⟩ := G
  simp only at *
  have c3 := fun w1 => sign_any (q - s) w1
  have c4 := fun w1 => sign_any (r * n - t * m) w1
  have d1 : wrap64 (q - s) = q - s := by rw [w64_def, w64_id ⟨by omega, by omega⟩]
  have d2 : wrap64 (r * n) = r * n := by rw [w64_def, w64_id ⟨by omega, by omega⟩]
  have d3 : wrap64 (t * m) = t * m := by rw [w64_def, w64_id ⟨by omega, by omega⟩]
  have d4 : wrap64 (r * n - t * m) = r * n - t * m := by rw [w64_def, w64_id ⟨by omega, by omega⟩]
  clear a1 a2 b1 b2 m1 m2
  by_cases h : q = s
  · rw [if_neg (by simp [h])]
    have e1 : (q != s) = false := by simp [h]
    clear h d1 c3
    go_enter Try.func91, Try.ntmps91
    go_wp2_with (first | (go_at_call 98; ((with_reducible refine (Calls.kept_first (c1 _)).mono ?_); rintro e _ ⟨rfl, p, rfl⟩)) | (go_at_call 98; ((with_reducible refine (Calls.kept_of (c2 _)).mono ?_); rintro e _ ⟨rfl, p, rfl⟩)) | (go_at_call 75; ((with_reducible refine (c4 _).mono ?_); rintro e w1 ⟨rfl, rfl⟩)) | fail)
    go_ret
    exact ⟨rfl, p.since⟩
  · rw [if_pos h]
    have e1 : (q != s) = true := by simp [h]
    clear h d2 d3 d4 c4
    go_enter Try.func91, Try.ntmps91
    go_wp2_with (first | (go_at_call 98; ((with_reducible refine (Calls.kept_first (c1 _)).mono ?_); rintro e _ ⟨rfl, p, rfl⟩)) | (go_at_call 98; ((with_reducible refine (Calls.kept_of (c2 _)).mono ?_); rintro e _ ⟨rfl, p, rfl⟩)) | (go_at_call 75; ((with_reducible refine (c3 _).mono ?_); rintro e w1 ⟨rfl, rfl⟩)) | fail)
    go_ret
    exact ⟨rfl, p.since⟩

set_option maxHeartbeats 1600000 in
theorem rcomparePoints_any (x y d x' y' d' : Int) (w : World) : Calls Try.prog 69 #[pV x y d, pV x' y' d'] w fun e w' => e = .returned (.int .i64 (cmpPt x y d x' y' d')) ∧ Nw w w' := by
  have c1 := fun w1 => near_any x y d w1
  have c2 := fun w1 => near_any x' y' d' w1
  unfold cmpPt
  have hb0 := Blk.new_at w 53 #[.int .i64 x, .int .i64 y, .int .i64 d] (n := w.heap.size) (by simp)
  have hb1 := Blk.new_at (w.alloc (.cells #[.int .i64 x, .int .i64 y, .int .i64 d] 53)) 53 #[.int .i64 x', .int .i64 y', .int .i64 d'] (n := w.heap.size + 1) (by simp)
  have hk0 : ∀ p : KeptW ((w.alloc (.cells #[.int .i64 x, .int .i64 y, .int .i64 d] 53)).alloc (.cells #[.int .i64 x', .int .i64 y', .int .i64 d'] 53)), Blk p.wd (w.heap.size) 53 #[.int .i64 x, .int .i64 y, .int .i64 d] := fun p => (hb0.alloc _).kept p
  have q0 := fun p => (hk0 p).cell 0
  have q1 := fun p => (hk0 p).cell 1
  have q2 := fun p => (hk0 p).cell 2
  have hk1 : ∀ p : KeptW ((w.alloc (.cells #[.int .i64 x, .int .i64 y, .int .i64 d] 53)).alloc (.cells #[.int .i64 x', .int .i64 y', .int .i64 d'] 53)), Blk p.wd (w.heap.size + 1) 53 #[.int .i64 x', .int .i64 y', .int .i64 d'] := fun p => hb1.kept p
  have q3 := fun p => (hk1 p).cell 0
  have q4 := fun p => (hk1 p).cell 1
  have q5 := fun p => (hk1 p).cell 2
  skip
  clear hb0 hk0 hb1 hk1
  by_cases h1 : nearP x y d = true
  · by_cases h2 : nearP x' y' d' = true
    · obtain ⟨qx, qy⟩ := near_q h1
      obtain ⟨qx', qy'⟩ := near_q h2
      have c3 := fun w1 => rquot_any y d y' d' qy qy' w1
      have c4 := fun w1 => rquot_any x d x' d' qx qx' w1
      rw [h1] at c1 ⊢
      rw [h2] at c2 ⊢
      clear h1 h2 qx qy qx' qy'
      simp only [Bool.and_self, if_true]
      unfold pcmp
      generalize qcmp y d y' d' = s at *
      generalize qcmp x d x' d' = t at *
      by_cases h0 : s = 0
      · subst h0
        rw [if_neg (by simp)]
        go_enter Try.func69, Try.ntmps69
        go_wp2_with (first | (go_at_call 90; ((with_reducible refine (Calls.kept_first (c1 _)).mono ?_); rintro e _ ⟨rfl, p, rfl⟩)) | (go_at_call 90; ((with_reducible refine (Calls.kept_of (c2 _)).mono ?_); rintro e _ ⟨rfl, p, rfl⟩)) | (go_at_call 91; ((with_reducible refine (Calls.kept_of (c3 _)).mono ?_); rintro e _ ⟨rfl, p, rfl⟩)) | (go_at_call 91; ((with_reducible refine (Calls.kept_of (c4 _)).mono ?_); rintro e _ ⟨rfl, p, rfl⟩)) | fail)
        go_ret
        exact ⟨rfl, ((nw_alloc _ _).alloc _).tr p.since⟩
      · rw [if_pos h0]
        have e1 : (s != 0) = true := by simp [h0]
        clear h0
        go_enter Try.func69, Try.ntmps69
        go_wp2_with (first | (go_at_call 90; ((with_reducible refine (Calls.kept_first (c1 _)).mono ?_); rintro e _ ⟨rfl, p, rfl⟩)) | (go_at_call 90; ((with_reducible refine (Calls.kept_of (c2 _)).mono ?_); rintro e _ ⟨rfl, p, rfl⟩)) | (go_at_call 91; ((with_reducible refine (Calls.kept_of (c3 _)).mono ?_); rintro e _ ⟨rfl, p, rfl⟩)) | (go_at_call 91; ((with_reducible refine (Calls.kept_of (c4 _)).mono ?_); rintro e _ ⟨rfl, p, rfl⟩)) | fail)
        go_ret
        exact ⟨rfl, ((nw_alloc _ _).alloc _).tr p.since⟩
    · rw [Bool.not_eq_true] at h2
      rw [h1] at c1 ⊢
      rw [h2] at c2 ⊢
      clear h1 h2
      go_enter Try.func69, Try.ntmps69
      go_wp2_with (first | (go_at_call 90; ((with_reducible refine (Calls.kept_first (c1 _)).mono ?_); rintro e _ ⟨rfl, p, rfl⟩)) | (go_at_call 90; ((with_reducible refine (Calls.kept_of (c2 _)).mono ?_); rintro e _ ⟨rfl, p, rfl⟩)) | fail)
      go_ret
      exact ⟨rfl, ((nw_alloc _ _).alloc _).tr p.since⟩
  · rw [Bool.not_eq_true] at h1
    rw [h1] at c1 ⊢
    clear h1
    go_enter Try.func69, Try.ntmps69
    go_wp2_with (first | (go_at_call 90; ((with_reducible refine (Calls.kept_first (c1 _)).mono ?_); rintro e _ ⟨rfl, p, rfl⟩)) | fail)
    go_ret
    exact ⟨rfl, ((nw_alloc _ _).alloc _).tr p.since⟩

end Go.Proofs.Ytgmojgeclljajaa.W
