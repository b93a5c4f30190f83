/-
  SymmetryGroup: the call returns true. Conditions: the table of the quarter turns; bytes; coordinates that an int holds.
-/
import Derived.Test.YtahamffngmdjfaaDoorYA
import Derived.Test.YtahamffngmdjfaaDoorVCq
import Derived.LoopN
namespace Go.Proofs.YtahamffngmdjfaaDoor.W
open Go.RowKit Go.Proofs.YtahamffngmdjfaaDoor.V Go.Proofs.YtahamffngmdjfaaDoor.G


theorem rem8 {l : Int} (h : 0 ≤ l ∧ l < 256) : ∃ t : Int, l.tmod 8 = t ∧ (0 ≤ t ∧ t < 8) ∧ validT t = true ∧ IntKind.u8.wrap (l.tmod 8) = t := by
  rw [Int.tmod_eq_emod_of_nonneg h.1]
  refine ⟨l % 8, rfl, by omega, by simp [validT]; omega, ?_⟩
  simp [IntKind.wrap, IntKind.bits, IntKind.signed]
  omega
set_option maxRecDepth 100000 in
set_option maxHeartbeats 3200000 in
theorem symmetryGroup_any (l0 l1 l2 x y : Int) (w : World) (hT : TabQ w) (h0 : 0 ≤ l0 ∧ l0 < 256) (h1 : 0 ≤ l1 ∧ l1 < 256) (h2 : 0 ≤ l2 ∧ l2 < 256) (hx : I64 x) (hy : I64 y) : Calls Tryd.prog 6 #[.agg #[.int .u8 l0, .int .u8 l1, .int .u8 l2], vV x y] w fun e w' => e = .returned (.bool true) ∧ Nw w w' := by
  have hmix := mixed7
  have hT0 := hT.nw ((nw_alloc w (.cells #[.int .u8 l0, .int .u8 l1, .int .u8 l2] 42)).alloc (.cells #[.int .i64 x, .int .i64 y] 23))
  have c0 := awake9_any _ hT0
  obtain ⟨t, a1, b1, v1, m1⟩ := rem8 h0
  obtain ⟨u, a2, b2, v2, m2⟩ := rem8 h1
  obtain ⟨s, a3, b3, v3, m3⟩ := rem8 h2
  have hb0 := (Blk.new w 42 #[.int .u8 l0, .int .u8 l1, .int .u8 l2]).alloc (.cells #[.int .i64 x, .int .i64 y] 23)
  have hb1 := Blk.new_at (w.alloc (.cells #[.int .u8 l0, .int .u8 l1, .int .u8 l2] 42)) 23 #[.int .i64 x, .int .i64 y] (n := w.heap.size + 1) (by simp)
  have q0 := fun p : KeptW ((w.alloc (.cells #[.int .u8 l0, .int .u8 l1, .int .u8 l2] 42)).alloc (.cells #[.int .i64 x, .int .i64 y] 23)) => (hb0.kept p).cell 0
  have q1 := fun p : KeptW ((w.alloc (.cells #[.int .u8 l0, .int .u8 l1, .int .u8 l2] 42)).alloc (.cells #[.int .i64 x, .int .i64 y] 23)) => (hb0.kept p).cell 1
  have q2 := fun p : KeptW ((w.alloc (.cells #[.int .u8 l0, .int .u8 l1, .int .u8 l2] 42)).alloc (.cells #[.int .i64 x, .int .i64 y] 23)) => (hb0.kept p).cell 2
  have q3 := fun p : KeptW ((w.alloc (.cells #[.int .u8 l0, .int .u8 l1, .int .u8 l2] 42)).alloc (.cells #[.int .i64 x, .int .i64 y] 23)) => (hb1.kept p).cell 0
  have q4 := fun p : KeptW ((w.alloc (.cells #[.int .u8 l0, .int .u8 l1, .int .u8 l2] 42)).alloc (.cells #[.int .i64 x, .int .i64 y] 23)) => (hb1.kept p).cell 1
  go_enter Tryd.func6, Tryd.ntmps6
  go_upto_region 3 with (first | (go_at_call 9; ((with_reducible refine (Calls.kept_first c0).mono ?_); rintro e _ ⟨rfl, p, rfl⟩)) | fail)
  have n1 : IntKind.i64.wrap t = t := by rw [IntKind.wrap_i64]; omega
  have n2 : IntKind.i64.wrap u = u := by rw [IntKind.wrap_i64]; omega
  have n3 : IntKind.i64.wrap s = s := by rw [IntKind.wrap_i64]; omega
  refine wp_region_kept (p.since) (by assumption) (by kernel_rfl) ?_
  repeat (with_reducible refine wpQuiet_step (fun K hK => ?_); go_simp; first | ((with_reducible refine hK _ ?_); clear hK K) | (with_reducible apply Exists.intro; (with_reducible refine ⟨fun _ => ?_, hK _ ?_⟩); (fail); clear hK K) | (simp only [undef, reduceCtorEq, if_false]; (with_reducible refine hK _ ?_); clear hK K))
  with_reducible refine wpQuiet_nil ?_
  rintro _ ⟨p, rfl⟩
  clear n1 n2 n3 m1 m2 m3 a1 a2 a3 q0 q1 q2
  have hTp := hT0.nw p.since
  have HP := Lib.hid p.since
  have HV := Lib.hid (And.intro v1 (And.intro v2 v3))
  have z3 := q3 p
  have z4 := q4 p
  obtain ⟨a, ha⟩ : ∃ r, thenT t u = r := ⟨_, rfl⟩
  obtain ⟨b, hb⟩ : ∃ r, invT t = r := ⟨_, rfl⟩
  obtain ⟨c, hc⟩ : ∃ r, thenT a s = r := ⟨_, rfl⟩
  obtain ⟨d, hd⟩ : ∃ r, thenT u s = r := ⟨_, rfl⟩
  have hcd : thenT t d = c := by rw [← hd, ← hc, ← ha, thenT_assoc v1 v2 v3]
  have c1 := fun w1 => tthen_any t u w1
  have c2 := fun w1 => tinverse_any t w1
  have c3 := fun w1 => tthen_any a s w1
  have c4 := fun w1 => tthen_any u s w1
  have c5 := fun w1 => tthen_any t d w1
  have c6 := fun w1 => tthen_any t 0 w1
  have c7 := fun w1 => tthen_any 0 t w1
  have c8 := fun w1 => tthen_any t b w1
  have c9 := fun w1 => tthen_any b t w1
  rw [ha] at c1
  rw [hb] at c2
  rw [hc] at c3
  rw [hd] at c4
  rw [hcd] at c5
  rw [(thenT_zero v1).1] at c6
  rw [(thenT_zero v1).2] at c7
  have hti := thenT_inv v1
  rw [hb] at hti
  rw [hti.1] at c8
  rw [hti.2] at c9
  have g1 : (c != c) = false := by simp
  have g2 : (t != t) = false := by simp
  have HA := Lib.hid ha
  clear hc hd hcd hti hb ha v1 v2 v3
  go_upto_region 7 with (first | (go_at_call 22; ((with_reducible refine (c1 _).mono ?_); rintro e _ ⟨rfl, rfl⟩)) | (go_at_call 22; ((with_reducible refine (c3 _).mono ?_); rintro e _ ⟨rfl, rfl⟩)) | (go_at_call 22; ((with_reducible refine (c4 _).mono ?_); rintro e _ ⟨rfl, rfl⟩)) | (go_at_call 22; ((with_reducible refine (c5 _).mono ?_); rintro e _ ⟨rfl, rfl⟩)) | (go_at_call 22; ((with_reducible refine (c6 _).mono ?_); rintro e _ ⟨rfl, rfl⟩)) | (go_at_call 22; ((with_reducible refine (c7 _).mono ?_); rintro e _ ⟨rfl, rfl⟩)) | (go_at_call 22; ((with_reducible refine (c8 _).mono ?_); rintro e _ ⟨rfl, rfl⟩)) | (go_at_call 22; ((with_reducible refine (c9 _).mono ?_); rintro e _ ⟨rfl, rfl⟩)) | (go_at_call 24; ((with_reducible refine (c2 _).mono ?_); rintro e _ ⟨rfl, rfl⟩)) | fail)
  clear c1 c2 c3 c4 c5 c6 c7 c8 c9 g1 g2
  obtain ⟨⟨x1, y1⟩, e1⟩ : ∃ m, mapV t x y = m := ⟨_, rfl⟩
  obtain ⟨⟨x2, y2⟩, e2⟩ : ∃ m, mapV a x y = m := ⟨_, rfl⟩
  have e3 : mapV u x1 y1 = (x2, y2) := by rw [← e2, ← HA.out, mapV_then HV.out.1 HV.out.2.1 hx hy, e1]
  have ii := mapV_i64 t hx hy
  rw [e1] at ii
  have d1 := fun p : KeptW ((w.alloc (.cells #[.int .u8 l0, .int .u8 l1, .int .u8 l2] 42)).alloc (.cells #[.int .i64 x, .int .i64 y] 23)) => tvec_any a x y p.wd (hT0.nw p.since) hx hy
  have d2 := fun p : KeptW ((w.alloc (.cells #[.int .u8 l0, .int .u8 l1, .int .u8 l2] 42)).alloc (.cells #[.int .i64 x, .int .i64 y] 23)) => tvec_any t x y p.wd (hT0.nw p.since) hx hy
  have d3 := fun p : KeptW ((w.alloc (.cells #[.int .u8 l0, .int .u8 l1, .int .u8 l2] 42)).alloc (.cells #[.int .i64 x, .int .i64 y] 23)) => tvec_any u x1 y1 p.wd (hT0.nw p.since) ii.1 ii.2
  have d4 := fun p : KeptW ((w.alloc (.cells #[.int .u8 l0, .int .u8 l1, .int .u8 l2] 42)).alloc (.cells #[.int .i64 x, .int .i64 y] 23)) => tvec_any 0 x y p.wd (hT0.nw p.since) hx hy
  rw [e2] at d1
  rw [e1] at d2
  rw [e3] at d3
  rw [mapV0] at d4
  have f1 := fun w1 => neq_vec x2 y2 x2 y2 w1
  have f2 := fun w1 => neq_vec x y x y w1
  simp only [beq_self_eq_true, Bool.and_self, Bool.not_true] at f1 f2
  clear e1 e2 e3 ii
  refine wp_region_kept (HP.out) (by assumption) (by kernel_rfl) ?_
  repeat (with_reducible refine wpQuiet_step (fun K hK => ?_); go_simp; first | ((with_reducible refine hK _ ?_); clear hK K) | (with_reducible apply Exists.intro; (with_reducible refine ⟨fun _ => ?_, hK _ ?_⟩); ((first | (go_at_call 12; with_reducible exact Calls.kept_of (d1 _)) | (go_at_call 12; with_reducible exact Calls.kept_of (d2 _)) | (go_at_call 12; with_reducible exact Calls.kept_of (d3 _)) | (go_at_call 12; with_reducible exact Calls.kept_of (d4 _)) | fail)); clear hK K) | (simp only [undef, reduceCtorEq, if_false]; (with_reducible refine hK _ ?_); clear hK K))
  with_reducible refine wpQuiet_nil ?_
  rintro _ ⟨p, rfl⟩
  go_wp2_with fail
  clear d1 d2 d3 d4 f1 f2 z3 z4
  have HP2 := Lib.hid p.since
  obtain ⟨v1, v2, v3⟩ := HV.out
  obtain ⟨s0, hs0⟩ : ∃ r, grainT t 0 = r := ⟨_, rfl⟩
  obtain ⟨r0, hr0⟩ : ∃ r, grainT a 0 = r := ⟨_, rfl⟩
  have ht0 : grainT u s0 = r0 := by rw [← hs0, ← hr0, ← HA.out, grainT_then v1 v2 (by omega)]
  have k0 := fun w1 => grain_any a 0 w1
  have l0 := fun w1 => grain_any t 0 w1
  have m0 := fun w1 => grain_any u s0 w1
  rw [hr0] at k0
  rw [hs0] at l0
  rw [ht0] at m0
  have o0 : (r0 != r0) = false := by simp
  clear hs0 hr0 ht0
  obtain ⟨s1, hs1⟩ : ∃ r, grainT t 1 = r := ⟨_, rfl⟩
  obtain ⟨r1, hr1⟩ : ∃ r, grainT a 1 = r := ⟨_, rfl⟩
  have ht1 : grainT u s1 = r1 := by rw [← hs1, ← hr1, ← HA.out, grainT_then v1 v2 (by omega)]
  have k1 := fun w1 => grain_any a 1 w1
  have l1 := fun w1 => grain_any t 1 w1
  have m1 := fun w1 => grain_any u s1 w1
  rw [hr1] at k1
  rw [hs1] at l1
  rw [ht1] at m1
  have o1 : (r1 != r1) = false := by simp
  clear hs1 hr1 ht1
  obtain ⟨s2, hs2⟩ : ∃ r, grainT t 2 = r := ⟨_, rfl⟩
  obtain ⟨r2, hr2⟩ : ∃ r, grainT a 2 = r := ⟨_, rfl⟩
  have ht2 : grainT u s2 = r2 := by rw [← hs2, ← hr2, ← HA.out, grainT_then v1 v2 (by omega)]
  have k2 := fun w1 => grain_any a 2 w1
  have l2 := fun w1 => grain_any t 2 w1
  have m2 := fun w1 => grain_any u s2 w1
  rw [hr2] at k2
  rw [hs2] at l2
  rw [ht2] at m2
  have o2 : (r2 != r2) = false := by simp
  clear hs2 hr2 ht2
  clear v1 v2 v3
  refine wp_loop_rounds 4 ?_
  rw [rounds_succ]
  go_wp2_with (first | (go_at_call 20; ((with_reducible refine (k0 _).mono ?_); rintro e _ ⟨rfl, rfl⟩)) | (go_at_call 20; ((with_reducible refine (l0 _).mono ?_); rintro e _ ⟨rfl, rfl⟩)) | (go_at_call 20; ((with_reducible refine (m0 _).mono ?_); rintro e _ ⟨rfl, rfl⟩)) | (go_at_call 20; ((with_reducible refine (k1 _).mono ?_); rintro e _ ⟨rfl, rfl⟩)) | (go_at_call 20; ((with_reducible refine (l1 _).mono ?_); rintro e _ ⟨rfl, rfl⟩)) | (go_at_call 20; ((with_reducible refine (m1 _).mono ?_); rintro e _ ⟨rfl, rfl⟩)) | (go_at_call 20; ((with_reducible refine (k2 _).mono ?_); rintro e _ ⟨rfl, rfl⟩)) | (go_at_call 20; ((with_reducible refine (l2 _).mono ?_); rintro e _ ⟨rfl, rfl⟩)) | (go_at_call 20; ((with_reducible refine (m2 _).mono ?_); rintro e _ ⟨rfl, rfl⟩)) | fail)
  rw [rounds_succ]
  go_wp2_with (first | (go_at_call 20; ((with_reducible refine (k0 _).mono ?_); rintro e _ ⟨rfl, rfl⟩)) | (go_at_call 20; ((with_reducible refine (l0 _).mono ?_); rintro e _ ⟨rfl, rfl⟩)) | (go_at_call 20; ((with_reducible refine (m0 _).mono ?_); rintro e _ ⟨rfl, rfl⟩)) | (go_at_call 20; ((with_reducible refine (k1 _).mono ?_); rintro e _ ⟨rfl, rfl⟩)) | (go_at_call 20; ((with_reducible refine (l1 _).mono ?_); rintro e _ ⟨rfl, rfl⟩)) | (go_at_call 20; ((with_reducible refine (m1 _).mono ?_); rintro e _ ⟨rfl, rfl⟩)) | (go_at_call 20; ((with_reducible refine (k2 _).mono ?_); rintro e _ ⟨rfl, rfl⟩)) | (go_at_call 20; ((with_reducible refine (l2 _).mono ?_); rintro e _ ⟨rfl, rfl⟩)) | (go_at_call 20; ((with_reducible refine (m2 _).mono ?_); rintro e _ ⟨rfl, rfl⟩)) | fail)
  rw [rounds_succ]
  go_wp2_with (first | (go_at_call 20; ((with_reducible refine (k0 _).mono ?_); rintro e _ ⟨rfl, rfl⟩)) | (go_at_call 20; ((with_reducible refine (l0 _).mono ?_); rintro e _ ⟨rfl, rfl⟩)) | (go_at_call 20; ((with_reducible refine (m0 _).mono ?_); rintro e _ ⟨rfl, rfl⟩)) | (go_at_call 20; ((with_reducible refine (k1 _).mono ?_); rintro e _ ⟨rfl, rfl⟩)) | (go_at_call 20; ((with_reducible refine (l1 _).mono ?_); rintro e _ ⟨rfl, rfl⟩)) | (go_at_call 20; ((with_reducible refine (m1 _).mono ?_); rintro e _ ⟨rfl, rfl⟩)) | (go_at_call 20; ((with_reducible refine (k2 _).mono ?_); rintro e _ ⟨rfl, rfl⟩)) | (go_at_call 20; ((with_reducible refine (l2 _).mono ?_); rintro e _ ⟨rfl, rfl⟩)) | (go_at_call 20; ((with_reducible refine (m2 _).mono ?_); rintro e _ ⟨rfl, rfl⟩)) | fail)
  rw [rounds_succ]
  go_wp2_with (first | (go_at_call 20; ((with_reducible refine (k0 _).mono ?_); rintro e _ ⟨rfl, rfl⟩)) | (go_at_call 20; ((with_reducible refine (l0 _).mono ?_); rintro e _ ⟨rfl, rfl⟩)) | (go_at_call 20; ((with_reducible refine (m0 _).mono ?_); rintro e _ ⟨rfl, rfl⟩)) | (go_at_call 20; ((with_reducible refine (k1 _).mono ?_); rintro e _ ⟨rfl, rfl⟩)) | (go_at_call 20; ((with_reducible refine (l1 _).mono ?_); rintro e _ ⟨rfl, rfl⟩)) | (go_at_call 20; ((with_reducible refine (m1 _).mono ?_); rintro e _ ⟨rfl, rfl⟩)) | (go_at_call 20; ((with_reducible refine (k2 _).mono ?_); rintro e _ ⟨rfl, rfl⟩)) | (go_at_call 20; ((with_reducible refine (l2 _).mono ?_); rintro e _ ⟨rfl, rfl⟩)) | (go_at_call 20; ((with_reducible refine (m2 _).mono ?_); rintro e _ ⟨rfl, rfl⟩)) | fail)
  have hb5 := Blk.new p.wd 23 #[.int .i64 2, .int .i64 1]
  have hn5 := HP2.out.alloc (.cells #[.int .i64 2, .int .i64 1] 23)
  generalize hw5 : p.wd.alloc (.cells #[.int .i64 2, .int .i64 1] 23) = w5 at *
  clear hw5
  have q5 := fun p : KeptW w5 => (hb5.kept p).cell 0
  have q6 := fun p : KeptW w5 => (hb5.kept p).cell 1
  have i2 : I64 2 ∧ I64 1 := by unfold I64; omega
  obtain ⟨⟨x1, y1⟩, e1⟩ : ∃ m, mapV t 2 1 = m := ⟨_, rfl⟩
  obtain ⟨⟨x2, y2⟩, e2⟩ : ∃ m, mapV u 2 1 = m := ⟨_, rfl⟩
  have d1 := fun p : KeptW w5 => tvec_any t 2 1 p.wd (hT0.nw (hn5.tr p.since)) i2.1 i2.2
  have d2 := fun p : KeptW w5 => tvec_any u 2 1 p.wd (hT0.nw (hn5.tr p.since)) i2.1 i2.2
  rw [e1] at d1
  rw [e2] at d2
  have f1 := fun w1 => eql_vecg x1 y1 x2 y2 w1
  obtain ⟨g, hg⟩ : ∃ g, (t == u) = g := ⟨_, rfl⟩
  have hxy : (x1 == x2 && y1 == y2) = g := by
    have h := mapV_apart HV.out.1 HV.out.2.1
    rw [e1, e2, Prod.mk.injEq] at h
    rw [← hg, Bool.eq_iff_iff]
    simp [h]
  rw [hxy] at f1
  have gg : (g == g) = true := by simp
  have HN5 := Lib.hid hn5
  clear hxy e1 e2 hb5 hn5 i2
  refine wp_region_kept (Kp.refl _ _) (by assumption) (by kernel_rfl) ?_
  repeat (with_reducible refine wpQuiet_step (fun K hK => ?_); go_simp; first | ((with_reducible refine hK _ ?_); clear hK K) | (with_reducible apply Exists.intro; (with_reducible refine ⟨fun _ => ?_, hK _ ?_⟩); ((first | (go_at_call 12; with_reducible exact Calls.kept_of (d1 _)) | (go_at_call 12; with_reducible exact Calls.kept_of (d2 _)) | fail)); clear hK K) | (simp only [undef, reduceCtorEq, if_false]; (with_reducible refine hK _ ?_); clear hK K))
  with_reducible refine wpQuiet_nil ?_
  rintro _ ⟨p, rfl⟩
  go_wp2_with fail
  go_ret
  exact ⟨rfl, (((nw_alloc _ _).alloc _).tr HN5.out).tr p.since⟩
end Go.Proofs.YtahamffngmdjfaaDoor.W
