/-
  SymmetryLinear: the call returns true. Conditions: the table of the quarter turns; a byte; coordinates that an int holds.
-/
import Derived.Test.YtahamffngmdjfaaDoorYA
import Derived.Test.YtahamffngmdjfaaDoorYQ
import Derived.Test.YtahamffngmdjfaaDoorYL3
import Derived.Test.YtahamffngmdjfaaDoorGSA
import Derived.Test.YtahamffngmdjfaaDoorOW
import Derived.Deep.RegionHeld3
import Derived.Deep.CutRange
namespace Go.Proofs.YtahamffngmdjfaaDoor.W
open Go.RowKit Go.Proofs.YtahamffngmdjfaaDoor.V Go.Proofs.YtahamffngmdjfaaDoor.G


set_option maxRecDepth 100000 in
set_option maxHeartbeats 6400000 in
theorem symmetryLinear_any (l ax ay bx bz : Int) (w : World) (hT : TabQ w) (h0 : 0 ≤ l ∧ l < 256) (hax : I64 ax) (hay : I64 ay) (hbx : I64 bx) (hbz : I64 bz) : Calls Tryd.prog 7 #[.int .u8 l, vV ax ay, vV bx bz] w fun e w' => e = .returned (.bool true) ∧ Nw w w' := by
  have hmix := mixed7
  have hnw0 := (nw_alloc w (.cells #[.int .i64 ax, .int .i64 ay] 23)).alloc (.cells #[.int .i64 bx, .int .i64 bz] 23)
  have hT0 := hT.nw hnw0
  have c0 := awake9_any _ hT0
  obtain ⟨n, a1, b1, v1, m1⟩ := rem8 h0
  have n1 : IntKind.i64.wrap n = n := by rw [IntKind.wrap_i64]; omega
  have c1 := fun w1 => rwithin_any ax ay 268435456 w1
  have c2 := fun w1 => rwithin_any bx bz 268435456 w1
  obtain ⟨wa, hwa⟩ : ∃ r, withinV ax ay 268435456 = r := ⟨_, rfl⟩
  obtain ⟨wb, hwb⟩ : ∃ r, withinV bx bz 268435456 = r := ⟨_, rfl⟩
  rw [hwa] at c1
  rw [hwb] at c2
  have hb0 := Blk.new_at w 23 #[.int .i64 ax, .int .i64 ay] (n := w.heap.size) (by simp)
  have hb1 := Blk.new_at (w.alloc (.cells #[.int .i64 ax, .int .i64 ay] 23)) 23 #[.int .i64 bx, .int .i64 bz] (n := w.heap.size + 1) (by simp)
  have hk0 : ∀ p : KeptW ((w.alloc (.cells #[.int .i64 ax, .int .i64 ay] 23)).alloc (.cells #[.int .i64 bx, .int .i64 bz] 23)), Blk p.wd (w.heap.size) 23 #[.int .i64 ax, .int .i64 ay] := fun p => (hb0.alloc _).kept p
  have q0 := fun p => (hk0 p).cell 0
  have q1 := fun p => (hk0 p).cell 1
  have hk1 : ∀ p : KeptW ((w.alloc (.cells #[.int .i64 ax, .int .i64 ay] 23)).alloc (.cells #[.int .i64 bx, .int .i64 bz] 23)), Blk p.wd (w.heap.size + 1) 23 #[.int .i64 bx, .int .i64 bz] := fun p => hb1.kept p
  have q2 := fun p => (hk1 p).cell 0
  have q3 := fun p => (hk1 p).cell 1
  skip
  clear hb0 hk0 hb1 hk1
  have HV := Lib.hid (And.intro v1 (And.intro hax (And.intro hay (And.intro hbx hbz))))
  have HW0 := Lib.hid hnw0
  have HT0 := Lib.hid hT0
  have HWI := Lib.hid (And.intro hwa hwb)
  clear v1 hax hay hbx hbz hnw0 hT0 hT hwa hwb h0
  cases wa
  · go_enter Tryd.func7, Tryd.ntmps7
    go_wp2_with (first | (go_at_call 9; ((with_reducible refine (Calls.kept_first c0).mono ?_); rintro e _ ⟨rfl, p, rfl⟩)) | (go_at_call 30; ((with_reducible refine (Calls.kept_of (c1 _)).mono ?_); rintro e _ ⟨rfl, p, rfl⟩)) | (go_at_call 30; ((with_reducible refine (Calls.kept_of (c2 _)).mono ?_); rintro e _ ⟨rfl, p, rfl⟩)) | fail)
    go_ret
    exact ⟨rfl, HW0.out.tr p.since⟩
  cases wb
  · go_enter Tryd.func7, Tryd.ntmps7
    go_wp2_with (first | (go_at_call 9; ((with_reducible refine (Calls.kept_first c0).mono ?_); rintro e _ ⟨rfl, p, rfl⟩)) | (go_at_call 30; ((with_reducible refine (Calls.kept_of (c1 _)).mono ?_); rintro e _ ⟨rfl, p, rfl⟩)) | (go_at_call 30; ((with_reducible refine (Calls.kept_of (c2 _)).mono ?_); rintro e _ ⟨rfl, p, rfl⟩)) | fail)
    go_ret
    exact ⟨rfl, HW0.out.tr p.since⟩
  go_enter Tryd.func7, Tryd.ntmps7
  go_upto_region 6 with (first | (go_at_call 9; ((with_reducible refine (Calls.kept_first c0).mono ?_); rintro e _ ⟨rfl, p, rfl⟩)) | (go_at_call 30; ((with_reducible refine (Calls.kept_of (c1 _)).mono ?_); rintro e _ ⟨rfl, p, rfl⟩)) | (go_at_call 30; ((with_reducible refine (Calls.kept_of (c2 _)).mono ?_); rintro e _ ⟨rfl, p, rfl⟩)) | fail)
  clear c1 c2 n1 m1 a1
  have HK := Lib.hid p.since
  obtain ⟨v1, hax, hay, hbx, hbz⟩ := HV.out
  obtain ⟨⟨x1, y1⟩, e1⟩ : ∃ m, mapV n ax ay = m := ⟨_, rfl⟩
  obtain ⟨⟨x2, y2⟩, e2⟩ : ∃ m, mapV n bx bz = m := ⟨_, rfl⟩
  obtain ⟨sg, hsg⟩ : ∃ s : Int, (if decide (4 ≤ n) then (-1 : Int) else 1) = s := ⟨_, rfl⟩
  have HLIN := Lib.hid (And.intro (mapV_lin v1 (within_sm HWI.out.1) (within_sm HWI.out.2) e1 e2 hsg) hsg)
  obtain ⟨w3, hw3⟩ : ∃ w3, p.wd = w3 := ⟨_, rfl⟩
  have HT3 := Lib.hid (show TabQ w3 by rw [← hw3]; exact HT0.out.nw p.since)
  have HK3 := Lib.hid (show Nw ((w.alloc (.cells #[.int .i64 ax, .int .i64 ay] 23)).alloc (.cells #[.int .i64 bx, .int .i64 bz] 23)) w3 by rw [← hw3]; exact p.since)
  rw [hw3]
  clear hw3
  have c3 := fun w1 (h : Nw w3 w1) => tvec_any n ax ay w1 (HT3.out.nw h) hax hay
  have c4 := fun w1 (h : Nw w3 w1) => tvec_any n bx bz w1 (HT3.out.nw h) hbx hbz
  rw [e1] at c3
  rw [e2] at c4
  have hq0 := fun (w' : World) (h : Nw w3 w') => q0 ⟨w', HK3.out.tr h⟩
  have hq1 := fun (w' : World) (h : Nw w3 w') => q1 ⟨w', HK3.out.tr h⟩
  have hq2 := fun (w' : World) (h : Nw w3 w') => q2 ⟨w', HK3.out.tr h⟩
  have hq3 := fun (w' : World) (h : Nw w3 w') => q3 ⟨w', HK3.out.tr h⟩
  have HP := Lib.hid (show ∀ w', Nw w3 w' → w'.cell? (⟨w.heap.size, 0, none⟩ : Addr) = some (.int .i64 ax) ∧ w'.cell? (⟨w.heap.size, 1, none⟩ : Addr) = some (.int .i64 ay) ∧ w'.cell? (⟨w.heap.size + 1, 0, none⟩ : Addr) = some (.int .i64 bx) ∧ w'.cell? (⟨w.heap.size + 1, 1, none⟩ : Addr) = some (.int .i64 bz) from fun w' h => ⟨hq0 w' h, hq1 w' h, hq2 w' h, hq3 w' h⟩)
  clear q0 q1 q2 q3 hq0 hq1 hq2 hq3 v1 hax hay hbx hbz
  go_cut [8, 9] from 24 to 29 (fun p5 p6 wx => Rel2 (x1) (y1) (x2) (y2) w3 p5 p6 wx)
  case first =>
    have z := HP.out w3 (Kp.refl _ _)
    obtain ⟨z0, z1, z2, z3⟩ := z
    go_wp2_with fail
    go_region_held3 (fun w' : World => w'.cell? (⟨w.heap.size, 0, none⟩ : Addr) = some (.int .i64 ax) ∧ w'.cell? (⟨w.heap.size, 1, none⟩ : Addr) = some (.int .i64 ay) ∧ w'.cell? (⟨w.heap.size + 1, 0, none⟩ : Addr) = some (.int .i64 bx) ∧ w'.cell? (⟨w.heap.size + 1, 1, none⟩ : Addr) = some (.int .i64 bz))
      (first | ((refine HP.out _ ?_); (repeat (first | exact hb2 | exact hb1 | exact Kp.refl _ _ | refine Kp.alloc ?_ _ | refine Kp.drew ?_ | refine Kp.new ?_ (by omega) _ _))) | fail)
      (first | (go_at_call 12; ((with_reducible refine (c3 _ ?_).mono ?_); (repeat (first | exact hb2 | exact hb1 | exact Kp.refl _ _ | refine Kp.alloc ?_ _ | refine Kp.drew ?_ | refine Kp.new ?_ (by omega) _ _)); rintro e u1 ⟨rfl, hk1⟩; have hb1 : Nw w3 u1 := Kp.tr (by repeat (first | exact hb2 | exact hb1 | exact Kp.refl _ _ | refine Kp.alloc ?_ _ | refine Kp.drew ?_ | refine Kp.new ?_ (by omega) _ _)) hk1; have l1 := hb1.size; with_reducible (first | (have p1 := Blk.nw (Blk.drew (Blk.new_at _ 23 #[.int .i64 0, .int .i64 0] (n := w3.heap.size + 1) (by simp))) hk1; have p0 := Blk.nw (Blk.drew (Blk.alloc (Blk.new_at _ 23 #[.int .i64 0, .int .i64 0] (n := w3.heap.size) (by simp)) _)) hk1; have t1 := (p0).cell 0; have t2 := (p0).cell 1; have t3 := (p0).frozen 0; have t4 := (p0).frozen 1; have t5 := Nat.ne_of_lt p0.lt; have t6 := Ne.symm (Nat.ne_of_lt p0.lt); have t1 := (p1).cell 0; have t2 := (p1).cell 1; have t3 := (p1).frozen 0; have t4 := (p1).frozen 1; have t5 := Nat.ne_of_lt p1.lt; have t6 := Ne.symm (Nat.ne_of_lt p1.lt)) | (have p0 := Blk.nw (Blk.drew (Blk.new_at _ 23 #[.int .i64 0, .int .i64 0] (n := w3.heap.size) (by simp))) hk1; have t1 := (p0).cell 0; have t2 := (p0).cell 1; have t3 := (p0).frozen 0; have t4 := (p0).frozen 1; have t5 := Nat.ne_of_lt p0.lt; have t6 := Ne.symm (Nat.ne_of_lt p0.lt)) | skip))) | (go_at_call 12; ((with_reducible refine (c4 _ ?_).mono ?_); (repeat (first | exact hb2 | exact hb1 | exact Kp.refl _ _ | refine Kp.alloc ?_ _ | refine Kp.drew ?_ | refine Kp.new ?_ (by omega) _ _)); rintro e u2 ⟨rfl, hk2⟩; have hb2 : Nw w3 u2 := Kp.tr (by repeat (first | exact hb2 | exact hb1 | exact Kp.refl _ _ | refine Kp.alloc ?_ _ | refine Kp.drew ?_ | refine Kp.new ?_ (by omega) _ _)) hk2; have l2 := hb2.size; with_reducible (first | (have t := p1; have rr1 := Blk.nw p1 hk2; have rr0 := Blk.nw p0 hk2; have t1 := (rr0).cell 0; have t2 := (rr0).cell 1; have t3 := (rr0).frozen 0; have t4 := (rr0).frozen 1; have t5 := Nat.ne_of_lt rr0.lt; have t6 := Ne.symm (Nat.ne_of_lt rr0.lt); have t1 := (rr1).cell 0; have t2 := (rr1).cell 1; have t3 := (rr1).frozen 0; have t4 := (rr1).frozen 1; have t5 := Nat.ne_of_lt rr1.lt; have t6 := Ne.symm (Nat.ne_of_lt rr1.lt)) | (have t := p0; have rr0 := Blk.nw (Blk.alloc p0 _) hk2; have o0 := Blk.nw (Blk.new_at _ 23 #[.int .i64 0, .int .i64 0] (n := u1.heap.size) (by simp)) hk2; have t1 := (rr0).cell 0; have t2 := (rr0).cell 1; have t3 := (rr0).frozen 0; have t4 := (rr0).frozen 1; have t5 := Nat.ne_of_lt rr0.lt; have t6 := Ne.symm (Nat.ne_of_lt rr0.lt); have t1 := (o0).cell 0; have t2 := (o0).cell 1; have t3 := (o0).frozen 0; have t4 := (o0).frozen 1; have t5 := Nat.ne_of_lt o0.lt; have t6 := Ne.symm (Nat.ne_of_lt o0.lt)) | (have t := p0; have rr0 := Blk.nw p0 hk2; have t1 := (rr0).cell 0; have t2 := (rr0).cell 1; have t3 := (rr0).frozen 0; have t4 := (rr0).frozen 1; have t5 := Nat.ne_of_lt rr0.lt; have t6 := Ne.symm (Nat.ne_of_lt rr0.lt); have t1 := (rr0.alloc (.cells #[.int .i64 0, .int .i64 0] 23)).cell 0; have t2 := (rr0.alloc (.cells #[.int .i64 0, .int .i64 0] 23)).cell 1; have t3 := (rr0.alloc (.cells #[.int .i64 0, .int .i64 0] 23)).frozen 0; have t4 := (rr0.alloc (.cells #[.int .i64 0, .int .i64 0] 23)).frozen 1; have t1 := (rr0.alloc (.cells #[.int .i64 x1, .int .i64 y1] 23)).cell 0; have t2 := (rr0.alloc (.cells #[.int .i64 x1, .int .i64 y1] 23)).cell 1; have t3 := (rr0.alloc (.cells #[.int .i64 x1, .int .i64 y1] 23)).frozen 0; have t4 := (rr0.alloc (.cells #[.int .i64 x1, .int .i64 y1] 23)).frozen 1) | (have o1 := Blk.nw (Blk.new_at _ 23 #[.int .i64 0, .int .i64 0] (n := u1.heap.size + 1) (by simp)) hk2; have o0 := Blk.nw (Blk.alloc (Blk.new_at _ 23 #[.int .i64 0, .int .i64 0] (n := u1.heap.size) (by simp)) _) hk2; have t1 := (o0).cell 0; have t2 := (o0).cell 1; have t3 := (o0).frozen 0; have t4 := (o0).frozen 1; have t5 := Nat.ne_of_lt o0.lt; have t6 := Ne.symm (Nat.ne_of_lt o0.lt); have t1 := (o1).cell 0; have t2 := (o1).cell 1; have t3 := (o1).frozen 0; have t4 := (o1).frozen 1; have t5 := Nat.ne_of_lt o1.lt; have t6 := Ne.symm (Nat.ne_of_lt o1.lt)) | (have o0 := Blk.nw (Blk.new_at _ 23 #[.int .i64 0, .int .i64 0] (n := u1.heap.size) (by simp)) hk2; have t1 := (o0).cell 0; have t2 := (o0).cell 1; have t3 := (o0).frozen 0; have t4 := (o0).frozen 1; have t5 := Nat.ne_of_lt o0.lt; have t6 := Ne.symm (Nat.ne_of_lt o0.lt); have t1 := (o0.alloc (.cells #[.int .i64 0, .int .i64 0] 23)).cell 0; have t2 := (o0.alloc (.cells #[.int .i64 0, .int .i64 0] 23)).cell 1; have t3 := (o0.alloc (.cells #[.int .i64 0, .int .i64 0] 23)).frozen 0; have t4 := (o0.alloc (.cells #[.int .i64 0, .int .i64 0] 23)).frozen 1; have t1 := (o0.alloc (.cells #[.int .i64 x1, .int .i64 y1] 23)).cell 0; have t2 := (o0.alloc (.cells #[.int .i64 x1, .int .i64 y1] 23)).cell 1; have t3 := (o0.alloc (.cells #[.int .i64 x1, .int .i64 y1] 23)).frozen 0; have t4 := (o0.alloc (.cells #[.int .i64 x1, .int .i64 y1] 23)).frozen 1) | skip))))
    all_goals (go_wp2_with fail; go_meet; case rel => (first | with_reducible exact two1 hb2 | with_reducible exact two2 hb2 | with_reducible exact two3 hb2 rr0 (by omega) | with_reducible exact two3 hb2 rr1 (by omega) | with_reducible exact two3 hb2 o0 (by omega) | with_reducible exact two3 hb2 o1 (by omega) | with_reducible exact two5 hb2 rr0 (by omega) | with_reducible exact two5 hb2 rr1 (by omega) | with_reducible exact two5 hb2 o0 (by omega) | with_reducible exact two5 hb2 o1 (by omega) | with_reducible exact two4 hb2 rr0 rr1 (by omega) (by omega) (by omega) | with_reducible exact two4 hb2 rr0 o0 (by omega) (by omega) (by omega) | with_reducible exact two4 hb2 rr0 o1 (by omega) (by omega) (by omega) | with_reducible exact two4 hb2 rr1 rr0 (by omega) (by omega) (by omega) | with_reducible exact two4 hb2 rr1 o0 (by omega) (by omega) (by omega) | with_reducible exact two4 hb2 rr1 o1 (by omega) (by omega) (by omega) | with_reducible exact two4 hb2 o0 rr0 (by omega) (by omega) (by omega) | with_reducible exact two4 hb2 o0 rr1 (by omega) (by omega) (by omega) | with_reducible exact two4 hb2 o0 o1 (by omega) (by omega) (by omega) | with_reducible exact two4 hb2 o1 rr0 (by omega) (by omega) (by omega) | with_reducible exact two4 hb2 o1 rr1 (by omega) (by omega) (by omega) | with_reducible exact two4 hb2 o1 o0 (by omega) (by omega) (by omega)))
  case rest =>
    obtain ⟨G5, G6, rfl, rfl, b5, b6, hkc⟩ := hcut
    have HC := Lib.hid (And.intro b5 (And.intro b6 hkc))
    obtain ⟨⟨hl1, hl2, hl3, hl4⟩, hsg⟩ := HLIN.out
    obtain ⟨v1, hax, hay, hbx, hbz⟩ := HV.out
    have cA := fun w1 => radd_any ax ay bx bz w1
    have is := w64_i64 (ax + bx)
    have it := w64_i64 (ay + bz)
    obtain ⟨sx, hsx⟩ : ∃ s, w64 (ax + bx) = s := ⟨_, rfl⟩
    obtain ⟨sy, hsy⟩ : ∃ s, w64 (ay + bz) = s := ⟨_, rfl⟩
    obtain ⟨vx, hvx⟩ : ∃ s, w64 (x1 + x2) = s := ⟨_, rfl⟩
    obtain ⟨vy, hvy⟩ : ∃ s, w64 (y1 + y2) = s := ⟨_, rfl⟩
    have cB := fun w1 => radd_any x1 y1 x2 y2 w1
    rw [hsx] at is cA hl1
    rw [hsy] at it cA hl1
    rw [hvx] at cB hl1
    rw [hvy] at cB hl1
    have cM := fun p : KeptW wc => tvec_any n sx sy p.wd (HT3.out.nw (hkc.tr p.since)) is it
    rw [hl1] at cM
    have cD1 := fun w1 => rdot_any x1 y1 x2 y2 w1
    have cD2 := fun w1 => rdot_any ax ay bx bz w1
    rw [hl2] at cD1
    obtain ⟨D, hD⟩ : ∃ s, dotV ax ay bx bz = s := ⟨_, rfl⟩
    rw [hD] at cD1 cD2
    have cX1 := fun w1 => rcross_any x1 y1 x2 y2 w1
    have cX2 := fun w1 => rcross_any ax ay bx bz w1
    obtain ⟨X1, hX1⟩ : ∃ s, crossV x1 y1 x2 y2 = s := ⟨_, rfl⟩
    obtain ⟨X2, hX2⟩ : ∃ s, crossV ax ay bx bz = s := ⟨_, rfl⟩
    rw [hX1] at cX1
    rw [hX2] at cX2
    have hX : IntKind.i64.wrap (sg * X2) = X1 := by rw [← hX1, hl3, ← hX2, wrapI]
    have cN1 := fun w1 => rnorm_any x1 y1 w1
    have cN2 := fun w1 => rnorm_any ax ay w1
    rw [hl4] at cN1
    obtain ⟨N, hN⟩ : ∃ s, normV ax ay = s := ⟨_, rfl⟩
    rw [hN] at cN1 cN2
    have cR := fun w1 => mirrors_any n w1
    obtain ⟨m, hm⟩ : ∃ m, decide (4 ≤ n) = m := ⟨_, rfl⟩
    unfold mirT at cR
    rw [v1, hm, Bool.true_and] at cR
    rw [hm] at hsg
    have f1 := fun w1 => eql_vecg vx vy vx vy w1
    simp only [beq_self_eq_true, Bool.and_self] at f1
    have q0 := fun p : KeptW wc => (HP.out p.wd (HC.out.2.2.tr p.since)).1
    have q1 := fun p : KeptW wc => (HP.out p.wd (HC.out.2.2.tr p.since)).2.1
    have q2 := fun p : KeptW wc => (HP.out p.wd (HC.out.2.2.tr p.since)).2.2.1
    have q3 := fun p : KeptW wc => (HP.out p.wd (HC.out.2.2.tr p.since)).2.2.2
    have q4 := fun p : KeptW wc => (HC.out.1.kept p).cell 0
    have q5 := fun p : KeptW wc => (HC.out.1.kept p).cell 1
    have q6 := fun p : KeptW wc => (HC.out.2.1.kept p).cell 0
    have q7 := fun p : KeptW wc => (HC.out.2.1.kept p).cell 1
    have HE := Lib.hid (HW0.out.tr (HK3.out.tr hkc))
    clear b5 b6 hkc hl1 hl2 hl3 hl4 v1 hax hay hbx hbz is it hsx hsy hvx hvy hD hX1 hX2 hN hm
    cases m
    · obtain rfl : (1 : Int) = sg := hsg
      rw [Int.one_mul] at hX
      have hX' := hX
      rw [wrapI, ← w64_def] at hX'
      go_upto_region 10 with (first | (go_at_call 18; ((with_reducible refine (cR _).mono ?_); rintro e _ ⟨rfl, rfl⟩)) | fail)
      refine wp_region_kept (Kp.refl _ _) (by assumption) (by kernel_rfl) ?_
      repeat (with_reducible refine wpQuiet_step (fun K hK => ?_); go_simp; first | ((with_reducible refine hK _ ?_); clear hK K) | (with_reducible apply Exists.intro; (with_reducible refine ⟨fun _ => ?_, hK _ ?_⟩); ((first | (go_at_call 31; with_reducible exact Calls.kept_of (cA _)) | (go_at_call 12; with_reducible exact Calls.kept_of (cM _)) | (go_at_call 31; with_reducible exact Calls.kept_of (cB _)) | (go_at_call 32; with_reducible exact Calls.kept_of (cD1 _)) | (go_at_call 32; with_reducible exact Calls.kept_of (cD2 _)) | (go_at_call 33; with_reducible exact Calls.kept_of (cX1 _)) | (go_at_call 33; with_reducible exact Calls.kept_of (cX2 _)) | (go_at_call 34; with_reducible exact Calls.kept_of (cN1 _)) | (go_at_call 34; with_reducible exact Calls.kept_of (cN2 _)) | fail)); clear hK K) | (simp only [undef, reduceCtorEq, if_false]; (with_reducible refine hK _ ?_); clear hK K))
      with_reducible refine wpQuiet_nil ?_
      rintro _ ⟨p, rfl⟩
      go_wp2_with fail
      go_ret
      exact ⟨rfl, HE.out.tr p.since⟩
    · obtain rfl : (-1 : Int) = sg := hsg
      rw [Int.neg_mul, Int.one_mul] at hX
      have hX' := hX
      rw [wrapI, ← w64_def] at hX'
      go_upto_region 10 with (first | (go_at_call 18; ((with_reducible refine (cR _).mono ?_); rintro e _ ⟨rfl, rfl⟩)) | fail)
      refine wp_region_kept (Kp.refl _ _) (by assumption) (by kernel_rfl) ?_
      repeat (with_reducible refine wpQuiet_step (fun K hK => ?_); go_simp; first | ((with_reducible refine hK _ ?_); clear hK K) | (with_reducible apply Exists.intro; (with_reducible refine ⟨fun _ => ?_, hK _ ?_⟩); ((first | (go_at_call 31; with_reducible exact Calls.kept_of (cA _)) | (go_at_call 12; with_reducible exact Calls.kept_of (cM _)) | (go_at_call 31; with_reducible exact Calls.kept_of (cB _)) | (go_at_call 32; with_reducible exact Calls.kept_of (cD1 _)) | (go_at_call 32; with_reducible exact Calls.kept_of (cD2 _)) | (go_at_call 33; with_reducible exact Calls.kept_of (cX1 _)) | (go_at_call 33; with_reducible exact Calls.kept_of (cX2 _)) | (go_at_call 34; with_reducible exact Calls.kept_of (cN1 _)) | (go_at_call 34; with_reducible exact Calls.kept_of (cN2 _)) | fail)); clear hK K) | (simp only [undef, reduceCtorEq, if_false]; (with_reducible refine hK _ ?_); clear hK K))
      with_reducible refine wpQuiet_nil ?_
      rintro _ ⟨p, rfl⟩
      go_wp2_with fail
      go_ret
      exact ⟨rfl, HE.out.tr p.since⟩
end Go.Proofs.YtahamffngmdjfaaDoor.W
