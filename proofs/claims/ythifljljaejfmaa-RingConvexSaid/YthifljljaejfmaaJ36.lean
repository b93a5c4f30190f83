/-
  ring: the closure of WherePoint: what it does to the count and to the mark. Conditions: the edge is within 2000, the point is valid.
-/
import Derived.Test.YthifljljaejfmaaJ35
import Derived.Test.YthifljljaejfmaaJ22
import Derived.Test.YthifljljaejfmaaJ12
namespace Go.Proofs.Ythifljljaejfmaa.W
open Go.RowKit Go.Proofs.Ythifljljaejfmaa.V Go.Proofs.Ythifljljaejfmaa.G


set_option maxRecDepth 100000 in
set_option maxHeartbeats 12800000 in
theorem closure_any (ax ay bx bz x y d : Int) (ha : wOk (ax, ay) = true) (hb : wOk (bx, bz) = true) (hp : PtOk x y d) (PP SS OO CC : Nat) (f : Bool) (m : Int) (hm : 0 ≤ m ∧ m ≤ 1000) (w : World)
    (b1 : Blk w PP 31 #[.int .i64 x, .int .i64 y, .int .i64 d]) (b2 : Blk w SS 28 #[.int .i64 x, .int .i64 y]) (b3 : Blk w OO 4 #[.bool f]) (b4 : Blk w CC 3 #[.int .i64 m]) :
    Calls Try.prog 24 #[sV ax ay bx bz, .pointer (some ⟨PP, 0, none⟩), .pointer (some ⟨SS, 0, none⟩), .pointer (some ⟨OO, 0, none⟩), .pointer (some ⟨CC, 0, none⟩)] w
      fun e w' => e = .returned (.tuple #[]) ∧ Kp (fun k => k = OO ∨ k = CC) w w' ∧ Blk w' OO 4 #[.bool (f || onP ((ax, ay), (bx, bz)) x y d)] ∧ Blk w' CC 3 #[.int .i64 (m + if crossesP ((ax, ay), (bx, bz)) x y d then 1 else 0)] := by
  have hmix := mixed7
  have hd : 0 < d := by have := hp.d1; omega
  obtain ⟨⟨⟨u1, u2⟩, ⟨u3, u4⟩⟩, hU⟩ : ∃ e, upE ((ax, ay), (bx, bz)) = e := ⟨_, rfl⟩
  have hon := on_up ((ax, ay), (bx, bz)) (x := x) (y := y) hd
  have hcr := cr_up ((ax, ay), (bx, bz)) (x := x) (y := y) hd
  rw [hU] at hon hcr
  rw [← hon, ← hcr]
  have hw : wOk (u1, u2) = true ∧ wOk (u3, u4) = true := by
    unfold upE at hU
    split at hU
    · injection hU with e1 e2
      rw [← e1, ← e2]
      exact ⟨hb, ha⟩
    · injection hU with e1 e2
      rw [← e1, ← e2]
      exact ⟨ha, hb⟩
  have hUU : ((u1, u2), (u3, u4)) = if lessV bx bz ax ay then (((bx, bz), (ax, ay)) : Ed) else ((ax, ay), (bx, bz)) := by rw [← hU]; rfl
  obtain ⟨-, s1, s2, -, -⟩ := scaled hw.1 hp
  obtain ⟨-, s3, s4, -, -⟩ := scaled hw.2 hp
  have hsd := side_cross (e := ((u1, u2), (u3, u4))) hw.1 hw.2 hp
  simp only at s1 s2 s3 s4 hsd
  have c1 := fun w1 => scale_any u1 u2 d w1
  have c2 := fun w1 => scale_any u3 u4 d w1
  rw [s1, s2] at c1
  rw [s3, s4] at c2
  unfold onU crU
  simp only
  have cl := fun w1 => less_any bx bz ax ay w1
  have c4 := fun w1 => sub_any u3 u4 u1 u2 w1
  have c5 := fun w1 => sub_any x y (u1 * d) (u2 * d) w1
  have c6 := fun w1 => cross_any (w64 (u3 - u1)) (w64 (u4 - u2)) (w64 (x - u1 * d)) (w64 (y - u2 * d)) w1
  rw [hsd] at c6
  have l1 := fun w1 => less_any x y (u1 * d) (u2 * d) w1
  have l2 := fun w1 => less_any (u3 * d) (u4 * d) x y w1
  clear hon hcr hU hw s1 s2 s3 s4 hsd ha hb hp hd
  generalize sideP ((u1, u2), (u3, u4)) x y d = s at *
  generalize u1 * d = x1 at *
  generalize u2 * d = y1 at *
  generalize u3 * d = x2 at *
  generalize u4 * d = y2 at *
  generalize w64 (u3 - u1) = e1 at *
  generalize w64 (u4 - u2) = e2 at *
  generalize w64 (x - x1) = e3 at *
  generalize w64 (y - y1) = e4 at *
  generalize lessV x y x1 y1 = g1 at *
  generalize lessV x2 y2 x y = g2 at *
  obtain ⟨z, hz⟩ : ∃ z, (s == 0) = z := ⟨_, rfl⟩
  rw [hz]
  obtain ⟨p0, hp0⟩ : ∃ z, decide (0 < s) = z := ⟨_, rfl⟩
  rw [hp0]
  obtain ⟨p1, hp1⟩ : ∃ z, decide (y1 ≤ y) = z := ⟨_, rfl⟩
  rw [hp1]
  obtain ⟨p2, hp2⟩ : ∃ z, decide (y < y2) = z := ⟨_, rfl⟩
  rw [hp2]
  have hzp : z = true → p0 = false := fun h => by rw [← hz] at h; rw [← hp0]; simp at h; simp [h]
  obtain ⟨lt, hlt⟩ : ∃ b, lessV bx bz ax ay = b := ⟨_, rfl⟩
  rw [hlt] at cl hUU
  have HB := Lib.hid (show ∀ w', Nw w w' → Blk w' PP 31 #[.int .i64 x, .int .i64 y, .int .i64 d] ∧ Blk w' SS 28 #[.int .i64 x, .int .i64 y] ∧ Blk w' OO 4 #[.bool f] ∧ Blk w' CC 3 #[.int .i64 m] from fun w' h => ⟨b1.kp h id, b2.kp h id, b3.kp h id, b4.kp h id⟩)
  have HNE := Lib.hid (show OO ≠ CC from fun e => by subst e; exact Blk.ne_ b3 b4 (by decide) rfl)
  clear b1 b2 b3 b4 hlt
  have HE0 := Lib.hid (Blk.new w 47 #[.int .i64 ax, .int .i64 ay, .int .i64 bx, .int .i64 bz])
  obtain ⟨w1, hw1⟩ : ∃ w1, w.alloc (.cells #[.int .i64 ax, .int .i64 ay, .int .i64 bx, .int .i64 bz] 47) = w1 := ⟨_, rfl⟩
  rw [hw1] at HE0
  have HW1 := Lib.hid (show Nw w w1 by rw [← hw1]; exact nw_alloc _ _)
  obtain ⟨E, hE⟩ : ∃ E, w.heap.size = E := ⟨_, rfl⟩
  have HEE := Lib.hid (show w.heap.size ≤ E by omega)
  rw [hE] at HE0
  obtain ⟨q0, q1, q2, q3, _, _, _, _⟩ := HE0.out.four
  go_enter Try.func24, Try.ntmps24
  go_wp2_with fail
  with_reducible refine (cl _).mono ?_
  rintro e w2 ⟨rfl, k2⟩
  have HW2 := Lib.hid (HW1.out.tr k2)
  have HE2 := Lib.hid (HE0.out.kp k2 id)
  clear k2 cl q0 q1 q2 q3 hw1 hE
  go_upto_if 13 with fail
  go_cut [] from 14 to 19 (fun wx => Blk wx E 47 #[.int .i64 u1, .int .i64 u2, .int .i64 u3, .int .i64 u4] ∧ Nw w wx)
  case first =>
    obtain ⟨q0, q1, q2, q3, f0, f1, f2, f3⟩ := HE2.out.four
    cases lt
    · obtain ⟨⟨rfl, rfl⟩, ⟨rfl, rfl⟩⟩ : (u1 = ax ∧ u2 = ay) ∧ (u3 = bx ∧ u4 = bz) := by simpa using hUU
      go_wp2_with fail
      go_meet
      case rel => exact ⟨HE2.out, HW2.out⟩
    · obtain ⟨⟨rfl, rfl⟩, ⟨rfl, rfl⟩⟩ : (u1 = bx ∧ u2 = bz) ∧ (u3 = ax ∧ u4 = ay) := by simpa using hUU
      go_wp2_with fail
      go_meet
      case rel => exact ⟨(HE2.out.lay4a _ _).lay4b _ _, ((HW2.out.new2 HEE.out _ _).new HEE.out 2 _).new HEE.out 3 _⟩
  case rest =>
    obtain ⟨w3, hw3⟩ : ∃ w3, w3 = wc := ⟨_, rfl⟩
    subst hw3
    have HE3 := Lib.hid hcut.1
    have HW3 := Lib.hid hcut.2
    clear hcut HE2 HW2 HE0 HW1 hUU
    have HP := Lib.hid (show ∀ w', Nw w3 w' → w'.cell? (⟨E, 0, none⟩ : Addr) = some (.int .i64 u1) ∧ w'.cell? (⟨E, 1, none⟩ : Addr) = some (.int .i64 u2) ∧ w'.cell? (⟨E, 2, none⟩ : Addr) = some (.int .i64 u3) ∧ w'.cell? (⟨E, 3, none⟩ : Addr) = some (.int .i64 u4) ∧ w'.cell? (⟨PP, 2, none⟩ : Addr) = some (.int .i64 d) from fun w' h => by
      have a := HE3.out.kp h id
      have b := (HB.out w' (HW3.out.tr h)).1
      exact ⟨a.cell 0, a.cell 1, a.cell 2, a.cell 3, b.cell 2⟩)
    have HLT := Lib.hid (show E < w3.heap.size ∧ PP < w3.heap.size from ⟨HE3.out.lt, (HB.out w3 HW3.out).1.lt⟩)
    go_upto_region 3 with fail
    go_cut [6, 7] from 20 to 29 (fun p6 p7 wx => Rel2 (x1) (y1) (x2) (y2) w3 p6 p7 wx)
    case first =>
      obtain ⟨_, _⟩ := HLT.out
      go_wp2_with fail
      go_region_held3 (fun w' : World => w'.cell? (⟨E, 0, none⟩ : Addr) = some (.int .i64 u1) ∧ w'.cell? (⟨E, 1, none⟩ : Addr) = some (.int .i64 u2) ∧ w'.cell? (⟨E, 2, none⟩ : Addr) = some (.int .i64 u3) ∧ w'.cell? (⟨E, 3, none⟩ : Addr) = some (.int .i64 u4) ∧ w'.cell? (⟨PP, 2, none⟩ : Addr) = some (.int .i64 d))
        (first | ((refine HP.out _ ?_); (repeat (first | exact hb2 | exact hb1 | exact Kp.refl _ _ | refine Kp.alloc ?_ _ | refine Kp.drew ?_ | refine Kp.new ?_ (by omega) _ _))) | fail)
        (first | (go_at_call 26; ((with_reducible refine (c1 _).mono ?_); rintro e u1 ⟨rfl, hk1⟩; have hb1 : Nw w3 u1 := Kp.tr (by repeat (first | exact hb2 | exact hb1 | exact Kp.refl _ _ | refine Kp.alloc ?_ _ | refine Kp.drew ?_ | refine Kp.new ?_ (by omega) _ _)) hk1; have l1 := hb1.size; with_reducible (first | (have p1 := Blk.nw (Blk.drew (Blk.new_at _ 28 #[.int .i64 0, .int .i64 0] (n := w3.heap.size + 1) (by simp))) hk1; have p0 := Blk.nw (Blk.drew (Blk.alloc (Blk.new_at _ 28 #[.int .i64 0, .int .i64 0] (n := w3.heap.size) (by simp)) _)) hk1; have t1 := (p0).cell 0; have t2 := (p0).cell 1; have t3 := (p0).frozen 0; have t4 := (p0).frozen 1; have t5 := Nat.ne_of_lt p0.lt; have t6 := Ne.symm (Nat.ne_of_lt p0.lt); have t1 := (p1).cell 0; have t2 := (p1).cell 1; have t3 := (p1).frozen 0; have t4 := (p1).frozen 1; have t5 := Nat.ne_of_lt p1.lt; have t6 := Ne.symm (Nat.ne_of_lt p1.lt)) | (have p0 := Blk.nw (Blk.drew (Blk.new_at _ 28 #[.int .i64 0, .int .i64 0] (n := w3.heap.size) (by simp))) hk1; have t1 := (p0).cell 0; have t2 := (p0).cell 1; have t3 := (p0).frozen 0; have t4 := (p0).frozen 1; have t5 := Nat.ne_of_lt p0.lt; have t6 := Ne.symm (Nat.ne_of_lt p0.lt)) | skip))) | (go_at_call 26; ((with_reducible refine (c2 _).mono ?_); rintro e u2 ⟨rfl, hk2⟩; have hb2 : Nw w3 u2 := Kp.tr (by repeat (first | exact hb2 | exact hb1 | exact Kp.refl _ _ | refine Kp.alloc ?_ _ | refine Kp.drew ?_ | refine Kp.new ?_ (by omega) _ _)) hk2; have l2 := hb2.size; with_reducible (first | (have t := p1; have rr1 := Blk.nw p1 hk2; have rr0 := Blk.nw p0 hk2; have t1 := (rr0).cell 0; have t2 := (rr0).cell 1; have t3 := (rr0).frozen 0; have t4 := (rr0).frozen 1; have t5 := Nat.ne_of_lt rr0.lt; have t6 := Ne.symm (Nat.ne_of_lt rr0.lt); have t1 := (rr1).cell 0; have t2 := (rr1).cell 1; have t3 := (rr1).frozen 0; have t4 := (rr1).frozen 1; have t5 := Nat.ne_of_lt rr1.lt; have t6 := Ne.symm (Nat.ne_of_lt rr1.lt)) | (have t := p0; have rr0 := Blk.nw (Blk.alloc p0 _) hk2; have o0 := Blk.nw (Blk.new_at _ 28 #[.int .i64 0, .int .i64 0] (n := u1.heap.size) (by simp)) hk2; have t1 := (rr0).cell 0; have t2 := (rr0).cell 1; have t3 := (rr0).frozen 0; have t4 := (rr0).frozen 1; have t5 := Nat.ne_of_lt rr0.lt; have t6 := Ne.symm (Nat.ne_of_lt rr0.lt); have t1 := (o0).cell 0; have t2 := (o0).cell 1; have t3 := (o0).frozen 0; have t4 := (o0).frozen 1; have t5 := Nat.ne_of_lt o0.lt; have t6 := Ne.symm (Nat.ne_of_lt o0.lt)) | (have t := p0; have rr0 := Blk.nw p0 hk2; have t1 := (rr0).cell 0; have t2 := (rr0).cell 1; have t3 := (rr0).frozen 0; have t4 := (rr0).frozen 1; have t5 := Nat.ne_of_lt rr0.lt; have t6 := Ne.symm (Nat.ne_of_lt rr0.lt); have t1 := (rr0.alloc (.cells #[.int .i64 0, .int .i64 0] 28)).cell 0; have t2 := (rr0.alloc (.cells #[.int .i64 0, .int .i64 0] 28)).cell 1; have t3 := (rr0.alloc (.cells #[.int .i64 0, .int .i64 0] 28)).frozen 0; have t4 := (rr0.alloc (.cells #[.int .i64 0, .int .i64 0] 28)).frozen 1; have t1 := (rr0.alloc (.cells #[.int .i64 x1, .int .i64 y1] 28)).cell 0; have t2 := (rr0.alloc (.cells #[.int .i64 x1, .int .i64 y1] 28)).cell 1; have t3 := (rr0.alloc (.cells #[.int .i64 x1, .int .i64 y1] 28)).frozen 0; have t4 := (rr0.alloc (.cells #[.int .i64 x1, .int .i64 y1] 28)).frozen 1) | (have o1 := Blk.nw (Blk.new_at _ 28 #[.int .i64 0, .int .i64 0] (n := u1.heap.size + 1) (by simp)) hk2; have o0 := Blk.nw (Blk.alloc (Blk.new_at _ 28 #[.int .i64 0, .int .i64 0] (n := u1.heap.size) (by simp)) _) hk2; have t1 := (o0).cell 0; have t2 := (o0).cell 1; have t3 := (o0).frozen 0; have t4 := (o0).frozen 1; have t5 := Nat.ne_of_lt o0.lt; have t6 := Ne.symm (Nat.ne_of_lt o0.lt); have t1 := (o1).cell 0; have t2 := (o1).cell 1; have t3 := (o1).frozen 0; have t4 := (o1).frozen 1; have t5 := Nat.ne_of_lt o1.lt; have t6 := Ne.symm (Nat.ne_of_lt o1.lt)) | (have o0 := Blk.nw (Blk.new_at _ 28 #[.int .i64 0, .int .i64 0] (n := u1.heap.size) (by simp)) hk2; have t1 := (o0).cell 0; have t2 := (o0).cell 1; have t3 := (o0).frozen 0; have t4 := (o0).frozen 1; have t5 := Nat.ne_of_lt o0.lt; have t6 := Ne.symm (Nat.ne_of_lt o0.lt); have t1 := (o0.alloc (.cells #[.int .i64 0, .int .i64 0] 28)).cell 0; have t2 := (o0.alloc (.cells #[.int .i64 0, .int .i64 0] 28)).cell 1; have t3 := (o0.alloc (.cells #[.int .i64 0, .int .i64 0] 28)).frozen 0; have t4 := (o0.alloc (.cells #[.int .i64 0, .int .i64 0] 28)).frozen 1; have t1 := (o0.alloc (.cells #[.int .i64 x1, .int .i64 y1] 28)).cell 0; have t2 := (o0.alloc (.cells #[.int .i64 x1, .int .i64 y1] 28)).cell 1; have t3 := (o0.alloc (.cells #[.int .i64 x1, .int .i64 y1] 28)).frozen 0; have t4 := (o0.alloc (.cells #[.int .i64 x1, .int .i64 y1] 28)).frozen 1) | skip))))
      all_goals (go_wp2_with fail; go_meet; case rel => (first | with_reducible exact two1 hb2 | with_reducible exact two2 hb2 | with_reducible exact two3 hb2 rr0 (by omega) | with_reducible exact two3 hb2 rr1 (by omega) | with_reducible exact two3 hb2 o0 (by omega) | with_reducible exact two3 hb2 o1 (by omega) | with_reducible exact two5 hb2 rr0 (by omega) | with_reducible exact two5 hb2 rr1 (by omega) | with_reducible exact two5 hb2 o0 (by omega) | with_reducible exact two5 hb2 o1 (by omega) | with_reducible exact two4 hb2 rr0 rr1 (by omega) (by omega) (by omega) | with_reducible exact two4 hb2 rr0 o0 (by omega) (by omega) (by omega) | with_reducible exact two4 hb2 rr0 o1 (by omega) (by omega) (by omega) | with_reducible exact two4 hb2 rr1 rr0 (by omega) (by omega) (by omega) | with_reducible exact two4 hb2 rr1 o0 (by omega) (by omega) (by omega) | with_reducible exact two4 hb2 rr1 o1 (by omega) (by omega) (by omega) | with_reducible exact two4 hb2 o0 rr0 (by omega) (by omega) (by omega) | with_reducible exact two4 hb2 o0 rr1 (by omega) (by omega) (by omega) | with_reducible exact two4 hb2 o0 o1 (by omega) (by omega) (by omega) | with_reducible exact two4 hb2 o1 rr0 (by omega) (by omega) (by omega) | with_reducible exact two4 hb2 o1 rr1 (by omega) (by omega) (by omega) | with_reducible exact two4 hb2 o1 o0 (by omega) (by omega) (by omega)))
    case rest =>
      obtain ⟨w4, hw4⟩ : ∃ w4, w4 = wc := ⟨_, rfl⟩
      subst hw4
      obtain ⟨G6, G7, rfl, rfl, b6, b7, hk⟩ := hcut
      have HW4 := Lib.hid (HW3.out.tr hk)
      have HE4 := Lib.hid (HE3.out.kp hk id)
      have H6 := Lib.hid b6
      have H7 := Lib.hid b7
      clear b6 b7 hk HE3 HW3 HP HLT c1 c2
      have r0 := fun p : KeptW w4 => (HE4.out.kept p).cell 0
      have r1 := fun p : KeptW w4 => (HE4.out.kept p).cell 1
      have r2 := fun p : KeptW w4 => (HE4.out.kept p).cell 2
      have r3 := fun p : KeptW w4 => (HE4.out.kept p).cell 3
      have r4 := fun p : KeptW w4 => (HB.out p.wd (HW4.out.tr p.since)).2.1.cell 0
      have r5 := fun p : KeptW w4 => (HB.out p.wd (HW4.out.tr p.since)).2.1.cell 1
      have r6 := fun p : KeptW w4 => (H6.out.kept p).cell 0
      have r7 := fun p : KeptW w4 => (H6.out.kept p).cell 1
      go_wp2_with fail
      refine wp_region_kept (Kp.refl _ _) (by assumption) (by kernel_rfl) ?_
      repeat (with_reducible refine wpQuiet_step (fun K hK => ?_); go_simp; first | ((with_reducible refine hK _ ?_); clear hK K) | (with_reducible apply Exists.intro; (with_reducible refine ⟨fun _ => ?_, hK _ ?_⟩); ((first | (go_at_call 28; with_reducible exact Calls.kept_of (c4 _)) | (go_at_call 28; with_reducible exact Calls.kept_of (c5 _)) | (go_at_call 27; with_reducible exact Calls.kept_of (c6 _)) | fail)); clear hK K) | (simp only [undef, reduceCtorEq, if_false]; (with_reducible refine hK _ ?_); clear hK K))
      with_reducible refine wpQuiet_nil ?_
      rintro _ ⟨p, rfl⟩
      have HW5 := Lib.hid (HW4.out.tr p.since)
      have H65 := Lib.hid (H6.out.kept p)
      have H75 := Lib.hid (H7.out.kept p)
      generalize p.wd = w5 at HW5 H65 H75 ⊢
      clear r0 r1 r2 r3 r4 r5 r6 r7 c4 c5 c6 H6 H7 HE4
      have HB5 := Lib.hid (show ∀ w', Nw w5 w' → (w'.cell? ⟨SS, 0, none⟩ = some (.int .i64 x) ∧ w'.cell? ⟨SS, 1, none⟩ = some (.int .i64 y)) ∧ (w'.cell? ⟨G6, 0, none⟩ = some (.int .i64 x1) ∧ w'.cell? ⟨G6, 1, none⟩ = some (.int .i64 y1)) ∧ (w'.cell? ⟨G7, 0, none⟩ = some (.int .i64 x2) ∧ w'.cell? ⟨G7, 1, none⟩ = some (.int .i64 y2)) ∧ (w'.cell? ⟨OO, 0, none⟩ = some (.bool f) ∧ w'.frozen? ⟨OO, 0, none⟩ = false) ∧ (w'.cell? ⟨CC, 0, none⟩ = some (.int .i64 m) ∧ w'.frozen? ⟨CC, 0, none⟩ = false) from fun w' h => by
        obtain ⟨-, b2, b3, b4⟩ := HB.out w' (HW5.out.tr h)
        have a6 := H65.out.kp h id
        have a7 := H75.out.kp h id
        exact ⟨⟨b2.cell 0, b2.cell 1⟩, ⟨a6.cell 0, a6.cell 1⟩, ⟨a7.cell 0, a7.cell 1⟩, b3.one, b4.one⟩)
      have em : IntKind.i64.wrap (m + 1) = m + 1 := by rw [IntKind.wrap_i64]; omega
      obtain ⟨⟨y0, y1'⟩, ⟨y2', y3⟩, ⟨y4, y5⟩, ⟨y6, y7⟩, ⟨y8, y9⟩⟩ := HB5.out w5 (Kp.refl _ _)
      cases z
      · cases p0
        · go_wp2_with fail
          have hN := HW5.out.tr (Kp.refl _ _)
          first | refine bodyPost_ret (results_none rfl _ _ _) rfl ?_ | refine bodyPost_end (results_none rfl _ _ _) rfl ?_
          obtain ⟨-, -, c3, c4⟩ := HB.out _ hN
          exact ⟨rfl, (Nw.kp hN), by simpa using c3, by simpa using c4⟩
        · cases p1
          · go_wp2_with fail
            have hN := HW5.out.tr (Kp.refl _ _)
            first | refine bodyPost_ret (results_none rfl _ _ _) rfl ?_ | refine bodyPost_end (results_none rfl _ _ _) rfl ?_
            obtain ⟨-, -, c3, c4⟩ := HB.out _ hN
            exact ⟨rfl, (Nw.kp hN), by simpa using c3, by simpa using c4⟩
          · cases p2
            · go_wp2_with fail
              have hN := HW5.out.tr (Kp.refl _ _)
              first | refine bodyPost_ret (results_none rfl _ _ _) rfl ?_ | refine bodyPost_end (results_none rfl _ _ _) rfl ?_
              obtain ⟨-, -, c3, c4⟩ := HB.out _ hN
              exact ⟨rfl, (Nw.kp hN), by simpa using c3, by simpa using c4⟩
            · go_wp2_with fail
              have hN := HW5.out.tr (Kp.refl _ _)
              first | refine bodyPost_ret (results_none rfl _ _ _) rfl ?_ | refine bodyPost_end (results_none rfl _ _ _) rfl ?_
              obtain ⟨-, -, c3, c4⟩ := HB.out _ hN
              exact ⟨rfl, (Nw.kp hN).setCell (p := ⟨CC, 0, none⟩) (fun _ => .inr rfl) _, by simpa using c3.far (p := ⟨CC, 0, none⟩) HNE.out _, by simpa using c4.set_ 0 (.int .i64 (m + 1))⟩
      · obtain rfl := hzp rfl
        cases g1
        · cases g2
          · go_wp2_with fail
            with_reducible refine (l1 _).mono ?_
            rintro e v1 ⟨rfl, k1⟩
            have K1 := Lib.hid (k1)
            obtain ⟨⟨y0, y1'⟩, ⟨y2', y3⟩, ⟨y4, y5⟩, ⟨y6, y7⟩, ⟨y8, y9⟩⟩ := HB5.out _ K1.out
            clear k1
            go_wp2_with fail
            with_reducible refine (l2 _).mono ?_
            rintro e v2 ⟨rfl, k2⟩
            have K2 := Lib.hid ((K1.out).tr k2)
            obtain ⟨⟨y0, y1'⟩, ⟨y2', y3⟩, ⟨y4, y5⟩, ⟨y6, y7⟩, ⟨y8, y9⟩⟩ := HB5.out _ K2.out
            clear k2
            go_wp2_with fail
            have hN := HW5.out.tr (K2.out)
            first | refine bodyPost_ret (results_none rfl _ _ _) rfl ?_ | refine bodyPost_end (results_none rfl _ _ _) rfl ?_
            obtain ⟨-, -, c3, c4⟩ := HB.out _ hN
            exact ⟨rfl, (Nw.kp hN).setCell (p := ⟨OO, 0, none⟩) (fun _ => .inl rfl) _, by simpa using c3.set_ 0 (.bool true), by simpa using c4.far (p := ⟨OO, 0, none⟩) (Ne.symm HNE.out) _⟩
          · go_wp2_with fail
            with_reducible refine (l1 _).mono ?_
            rintro e v1 ⟨rfl, k1⟩
            have K1 := Lib.hid (k1)
            obtain ⟨⟨y0, y1'⟩, ⟨y2', y3⟩, ⟨y4, y5⟩, ⟨y6, y7⟩, ⟨y8, y9⟩⟩ := HB5.out _ K1.out
            clear k1
            go_wp2_with fail
            with_reducible refine (l2 _).mono ?_
            rintro e v2 ⟨rfl, k2⟩
            have K2 := Lib.hid ((K1.out).tr k2)
            obtain ⟨⟨y0, y1'⟩, ⟨y2', y3⟩, ⟨y4, y5⟩, ⟨y6, y7⟩, ⟨y8, y9⟩⟩ := HB5.out _ K2.out
            clear k2
            go_wp2_with fail
            have hN := HW5.out.tr (K2.out)
            first | refine bodyPost_ret (results_none rfl _ _ _) rfl ?_ | refine bodyPost_end (results_none rfl _ _ _) rfl ?_
            obtain ⟨-, -, c3, c4⟩ := HB.out _ hN
            exact ⟨rfl, (Nw.kp hN), by simpa using c3, by simpa using c4⟩
        · go_wp2_with fail
          with_reducible refine (l1 _).mono ?_
          rintro e v1 ⟨rfl, k1⟩
          have K1 := Lib.hid (k1)
          obtain ⟨⟨y0, y1'⟩, ⟨y2', y3⟩, ⟨y4, y5⟩, ⟨y6, y7⟩, ⟨y8, y9⟩⟩ := HB5.out _ K1.out
          clear k1
          go_wp2_with fail
          have hN := HW5.out.tr (K1.out)
          first | refine bodyPost_ret (results_none rfl _ _ _) rfl ?_ | refine bodyPost_end (results_none rfl _ _ _) rfl ?_
          obtain ⟨-, -, c3, c4⟩ := HB.out _ hN
          exact ⟨rfl, (Nw.kp hN), by simpa using c3, by simpa using c4⟩

end Go.Proofs.Ythifljljaejfmaa.W
