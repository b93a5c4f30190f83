/-
  SegOrder: the call returns true. No condition.
-/
import Derived.Test.YtgmojgeclljajaaGSE
import Derived.Test.YtgmojgeclljajaaGSC
import Derived.Test.YtgmojgeclljajaaGQ2
namespace Go.Proofs.Ytgmojgeclljajaa.W
open Go.RowKit Go.Proofs.Ytgmojgeclljajaa.V Go.Proofs.Ytgmojgeclljajaa.G

/-- the points that are compared, one by one -/
def pts3 (x0 y0 d0 x1 y1 d1 x2 y2 d2 : Int) : List (Int × Int × Int) := [(x0, y0, d0), (x1, y1, d1), (x2, y2, d2)]
def goodPt (p : Int × Int × Int) : Bool := validP p.1 p.2.1 p.2.2 && withinV p.1 p.2.1 (w64 (2000 * p.2.2))

theorem good_near {x y d : Int} (h : goodPt (x, y, d) = true) : nearP x y d = true ∧ (validP x y d = true ∧ gcd3 x y d = 1) ∧ 1 ≤ d := by
  unfold goodPt at h
  simp only at h
  have h1 := (Bool.and_eq_true_iff.1 h).1
  refine ⟨by rw [near_eq]; exact h, ⟨h1, ?_⟩, ?_⟩
  · unfold validP at h1
    simp at h1
    exact h1.2
  · unfold validP inPt isDen at h1
    simp at h1
    omega
theorem qcmp_range (a m b n : Int) : -1 ≤ qcmp a m b n ∧ qcmp a m b n ≤ 1 := by
  unfold qcmp
  rcases sgn_cases (a * n - b * m) with ⟨_, e⟩ | ⟨_, e⟩ | ⟨_, e⟩ <;> omega
theorem pcmp_range (x y d x' y' d' : Int) : -1 ≤ pcmp x y d x' y' d' ∧ pcmp x y d x' y' d' ≤ 1 := by
  unfold pcmp
  have h1 := qcmp_range y d y' d'
  have h2 := qcmp_range x d x' d'
  split <;> omega
theorem pcmp_int (x y d x' y' d' : Int) (h : d = 1) (h' : d' = 1) : pcmp x y d x' y' d' = cmpV x y x' y' := by
  subst h h'
  unfold pcmp qcmp cmpV
  rw [Int.mul_one, Int.mul_one, Int.mul_one, Int.mul_one]

set_option maxRecDepth 100000 in
set_option maxHeartbeats 6400000 in
theorem segOrder_any (x0 y0 d0 x1 y1 d1 x2 y2 d2 : Int) (w : World) : Calls Try.prog 17 #[pV x0 y0 d0, pV x1 y1 d1, pV x2 y2 d2] w fun e w' => e = .returned (.bool true) ∧ Nw w w' := by
  have hmix := mixed7
  have c0 := fun w1 => awake7_any w1
  have hF : ∀ w', Nw (((w.alloc (.cells #[.int .i64 x0, .int .i64 y0, .int .i64 d0] 53)).alloc (.cells #[.int .i64 x1, .int .i64 y1, .int .i64 d1] 53)).alloc (.cells #[.int .i64 x2, .int .i64 y2, .int .i64 d2] 53)) w' → Blk w' w.heap.size 53 #[.int .i64 x0, .int .i64 y0, .int .i64 d0] ∧ Blk w' (w.heap.size + 1) 53 #[.int .i64 x1, .int .i64 y1, .int .i64 d1] ∧ Blk w' (w.heap.size + 1 + 1) 53 #[.int .i64 x2, .int .i64 y2, .int .i64 d2] := fun w' h => ⟨(((Blk.new_at w 53 #[.int .i64 x0, .int .i64 y0, .int .i64 d0] (n := w.heap.size) rfl).alloc _).alloc _).kp h id, ((Blk.new_at _ 53 #[.int .i64 x1, .int .i64 y1, .int .i64 d1] (n := w.heap.size + 1) (by simp)).alloc _).kp h id, (Blk.new_at _ 53 #[.int .i64 x2, .int .i64 y2, .int .i64 d2] (n := w.heap.size + 1 + 1) (by simp)).kp h id⟩
  have HF := Lib.hid hF
  clear hF
  have hb0 := Blk.new_at w 53 #[.int .i64 x0, .int .i64 y0, .int .i64 d0] (n := w.heap.size) (by simp)
  have hb1 := Blk.new_at (w.alloc (.cells #[.int .i64 x0, .int .i64 y0, .int .i64 d0] 53)) 53 #[.int .i64 x1, .int .i64 y1, .int .i64 d1] (n := w.heap.size + 1) (by simp)
  have hb2 := Blk.new_at ((w.alloc (.cells #[.int .i64 x0, .int .i64 y0, .int .i64 d0] 53)).alloc (.cells #[.int .i64 x1, .int .i64 y1, .int .i64 d1] 53)) 53 #[.int .i64 x2, .int .i64 y2, .int .i64 d2] (n := w.heap.size + 1 + 1) (by simp)
  have hk0 : ∀ p : KeptW (((w.alloc (.cells #[.int .i64 x0, .int .i64 y0, .int .i64 d0] 53)).alloc (.cells #[.int .i64 x1, .int .i64 y1, .int .i64 d1] 53)).alloc (.cells #[.int .i64 x2, .int .i64 y2, .int .i64 d2] 53)), Blk p.wd (w.heap.size) 53 #[.int .i64 x0, .int .i64 y0, .int .i64 d0] := fun p => ((hb0.alloc _).alloc _).kept p
  have q0 := fun p => (hk0 p).cell 0
  have q1 := fun p => (hk0 p).cell 1
  have q2 := fun p => (hk0 p).cell 2
  have hk1 : ∀ p : KeptW (((w.alloc (.cells #[.int .i64 x0, .int .i64 y0, .int .i64 d0] 53)).alloc (.cells #[.int .i64 x1, .int .i64 y1, .int .i64 d1] 53)).alloc (.cells #[.int .i64 x2, .int .i64 y2, .int .i64 d2] 53)), Blk p.wd (w.heap.size + 1) 53 #[.int .i64 x1, .int .i64 y1, .int .i64 d1] := fun p => (hb1.alloc _).kept p
  have q3 := fun p => (hk1 p).cell 0
  have q4 := fun p => (hk1 p).cell 1
  have q5 := fun p => (hk1 p).cell 2
  have hk2 : ∀ p : KeptW (((w.alloc (.cells #[.int .i64 x0, .int .i64 y0, .int .i64 d0] 53)).alloc (.cells #[.int .i64 x1, .int .i64 y1, .int .i64 d1] 53)).alloc (.cells #[.int .i64 x2, .int .i64 y2, .int .i64 d2] 53)), Blk p.wd (w.heap.size + 1 + 1) 53 #[.int .i64 x2, .int .i64 y2, .int .i64 d2] := fun p => hb2.kept p
  have q6 := fun p => (hk2 p).cell 0
  have q7 := fun p => (hk2 p).cell 1
  have q8 := fun p => (hk2 p).cell 2
  skip
  clear hb0 hk0 hb1 hk1 hb2 hk2
  go_enter Try.func17, Try.ntmps17
  go_upto_region 4 with (first | (go_at_call 49; ((with_reducible refine (Calls.kept_first (c0 _)).mono ?_); rintro e _ ⟨rfl, p, rfl⟩)) | fail)
  obtain ⟨g, hg1⟩ : ∃ g, p.wd.heap.size = g := ⟨_, rfl⟩
  have hbb := Blk.new_at p.wd 75 #[.int .i64 x0, .int .i64 y0, .int .i64 d0, .int .i64 x1, .int .i64 y1, .int .i64 d1, .int .i64 x2, .int .i64 y2, .int .i64 d2] hg1
  have hn1 := p.since.alloc (.cells #[.int .i64 x0, .int .i64 y0, .int .i64 d0, .int .i64 x1, .int .i64 y1, .int .i64 d1, .int .i64 x2, .int .i64 y2, .int .i64 d2] 75)
  rw [hg1]
  generalize p.wd.alloc (.cells #[.int .i64 x0, .int .i64 y0, .int .i64 d0, .int .i64 x1, .int .i64 y1, .int .i64 d1, .int .i64 x2, .int .i64 y2, .int .i64 d2] 75) = w1 at hbb hn1 ⊢
  have HN1 := Lib.hid hn1
  have HB1 := Lib.hid hbb
  clear hg1 hn1 hbb q0 q1 q2 q3 q4 q5 q6 q7 q8
  go_wp2_with fail
  go_loopw [8] (fun i wr => ∃ k : Nat, i = .int .i64 k ∧ k ≤ 3 ∧ (∀ z ∈ (pts3 x0 y0 d0 x1 y1 d1 x2 y2 d2).take k, goodPt z = true) ∧ Nw w1 wr) (fun i _ => 3 - (intOf i).toNat)
  case atStart => exact ⟨0, rfl, by omega, by simp, Kp.refl _ _⟩
  case round =>
    obtain ⟨k, rfl, hk, hgd, hnr⟩ := hrel
    have HGD := Lib.hid hgd
    have HNR := Lib.hid hnr
    clear hgd hnr
    by_cases hk3 : k < 3
    · obtain ⟨⟨x, y, d⟩, he⟩ : ∃ z, (pts3 x0 y0 d0 x1 y1 d1 x2 y2 d2)[k]? = some z := ⟨(pts3 x0 y0 d0 x1 y1 d1 x2 y2 d2)[k]'(by simpa [pts3] using hk3), List.getElem?_eq_getElem _⟩
      have i0 : (0 : Int) ≤ (k : Int) := by omega
      have i1 : (k : Int) < 3 := by omega
      have e4 : IntKind.i64.wrap ((k : Int) + 1) = ((k + 1 : Nat) : Int) := by rw [IntKind.wrap_i64]; omega
      have hc : ∀ p : KeptW wr, p.wd.cell? ⟨g, k * 3, none⟩ = some (.int .i64 x) ∧ p.wd.cell? ⟨g, k * 3 + 1, none⟩ = some (.int .i64 y) ∧ p.wd.cell? ⟨g, k * 3 + 2, none⟩ = some (.int .i64 d) := fun p => by
        have hb := HB1.out.nw (HNR.out.tr p.since)
        obtain rfl | rfl | rfl : k = 0 ∨ k = 1 ∨ k = 2 := by omega
        all_goals (simp [pts3] at he; obtain ⟨rfl, rfl, rfl⟩ := he)
        · exact ⟨hb.cell 0, hb.cell 1, hb.cell 2⟩
        · exact ⟨hb.cell 3, hb.cell 4, hb.cell 5⟩
        · exact ⟨hb.cell 6, hb.cell 7, hb.cell 8⟩
      have q0 := fun p => (hc p).1
      have q1 := fun p => (hc p).2.1
      have q2 := fun p => (hc p).2.2
      have HE := Lib.hid he
      have c1 := fun w1 => validPoint_any x y d w1
      have c2 := fun w1 => rwithin_any x y (w64 (2000 * d)) w1
      have hw := i64_w (2000 * d)
      obtain ⟨a, ha⟩ : ∃ a, validP x y d = a := ⟨_, rfl⟩
      obtain ⟨b, hb⟩ : ∃ b, withinV x y (w64 (2000 * d)) = b := ⟨_, rfl⟩
      have HAB := Lib.hid (And.intro ha hb)
      have HG2 := Lib.hid (show a = true → b = true → goodPt (x, y, d) = true from fun h h' => by unfold goodPt; simp only; rw [ha, hb, h, h']; rfl)
      rw [ha] at c1
      rw [hb] at c2
      clear ha hb hc he
      generalize w64 (2000 * d) = z at *
      go_upto_region 7 with fail
      cases a
      · skip
        refine wp_region_kept (Kp.refl _ _) (by assumption) (by kernel_rfl) ?_
        repeat (with_reducible refine wpQuiet_step (fun K hK => ?_); go_simp; first | ((with_reducible refine hK _ ?_); clear hK K) | (with_reducible apply Exists.intro; (with_reducible refine ⟨fun _ => ?_, hK _ ?_⟩); ((first | (go_at_call 66; with_reducible exact Calls.kept_of (c1 _)) | fail)); clear hK K) | (simp only [undef, reduceCtorEq, if_false]; (with_reducible refine hK _ ?_); clear hK K))
        with_reducible refine wpQuiet_nil ?_
        rintro _ ⟨p, rfl⟩
        go_wp2_with fail
        go_ret
        exact ⟨rfl, ((((nw_alloc _ _).alloc _).alloc _).tr HN1.out).tr (HNR.out.tr p.since)⟩
      · cases b
        · skip
          refine wp_region_kept (Kp.refl _ _) (by assumption) (by kernel_rfl) ?_
          repeat (with_reducible refine wpQuiet_step (fun K hK => ?_); go_simp; first | ((with_reducible refine hK _ ?_); clear hK K) | (with_reducible apply Exists.intro; (with_reducible refine ⟨fun _ => ?_, hK _ ?_⟩); ((first | (go_at_call 66; with_reducible exact Calls.kept_of (c1 _)) | (go_at_call 40; with_reducible exact Calls.kept_of (c2 _)) | fail)); clear hK K) | (simp only [undef, reduceCtorEq, if_false]; (with_reducible refine hK _ ?_); clear hK K))
          with_reducible refine wpQuiet_nil ?_
          rintro _ ⟨p, rfl⟩
          go_wp2_with fail
          go_ret
          exact ⟨rfl, ((((nw_alloc _ _).alloc _).alloc _).tr HN1.out).tr (HNR.out.tr p.since)⟩
        · skip
          refine wp_region_kept (Kp.refl _ _) (by assumption) (by kernel_rfl) ?_
          repeat (with_reducible refine wpQuiet_step (fun K hK => ?_); go_simp; first | ((with_reducible refine hK _ ?_); clear hK K) | (with_reducible apply Exists.intro; (with_reducible refine ⟨fun _ => ?_, hK _ ?_⟩); ((first | (go_at_call 66; with_reducible exact Calls.kept_of (c1 _)) | (go_at_call 40; with_reducible exact Calls.kept_of (c2 _)) | fail)); clear hK K) | (simp only [undef, reduceCtorEq, if_false]; (with_reducible refine hK _ ?_); clear hK K))
          with_reducible refine wpQuiet_nil ?_
          rintro _ ⟨p, rfl⟩
          go_wp2_with fail
          go_roundw
          case rel =>
            refine ⟨k + 1, rfl, by omega, fun z hz => ?_, HNR.out.tr p.since⟩
            rw [List.take_add_one, HE.out, Option.toList_some] at hz
            rcases List.mem_append.1 hz with h | h
            · exact HGD.out z h
            · rw [List.mem_singleton] at h
              subst h
              exact HG2.out rfl rfl
          case measure => (simp [intOf]; try omega)
    · obtain rfl : k = 3 := by omega
      have i1 : ¬ (((3 : Nat) : Int) < 3) := by omega
      have hg0 := HGD.out (x0, y0, d0) (by simp [pts3])
      have hg1 := HGD.out (x1, y1, d1) (by simp [pts3])
      have hg2 := HGD.out (x2, y2, d2) (by simp [pts3])
      obtain ⟨n0, v0, e0⟩ := good_near hg0
      obtain ⟨n1, v1, e1⟩ := good_near hg1
      obtain ⟨n2, v2, e2⟩ := good_near hg2
      have k1 := fun w1 => comparePoints_any x0 y0 d0 x1 y1 d1 w1
      have k2 := fun w1 => comparePoints_any x1 y1 d1 x2 y2 d2 w1
      have k3 := fun w1 => comparePoints_any x1 y1 d1 x0 y0 d0 w1
      have k4 := fun w1 => comparePoints_any x0 y0 d0 x2 y2 d2 w1
      unfold cmpPt at k1 k2 k3 k4
      rw [n0, n1, Bool.and_self, if_pos rfl] at k1
      rw [n1, n2, Bool.and_self, if_pos rfl] at k2
      rw [n1, n0, Bool.and_self, if_pos rfl, pcmp_opp x0 y0 d0 x1 y1 d1] at k3
      rw [n0, n2, Bool.and_self, if_pos rfl] at k4
      have hz := pcmp_zero (x := x0) (y := y0) (x' := x1) (y' := y1) (by omega) (by omega) v0.2 v1.2
      have htr := pcmp_trans (x := x0) (y := y0) (x' := x1) (y' := y1) (x'' := x2) (y'' := y2) (d := d0) (d' := d1) (d'' := d2) (by omega) (by omega) (by omega)
      have hrg := pcmp_range x0 y0 d0 x1 y1 d1
      have hwh := pcmp_int x0 y0 d0 x1 y1 d1
      have m1 := fun w1 => whole_any x0 y0 d0 w1
      have m2 := fun w1 => whole_any x1 y1 d1 w1
      unfold wholeV at m1 m2
      rw [v0.1, Bool.true_and] at m1
      rw [v1.1, Bool.true_and] at m2
      have m3 := fun w1 => rcompare_any x0 y0 x1 y1 w1
      have heq := fun w1 => eql_pt x0 y0 d0 x1 y1 d1 w1
      generalize pcmp x0 y0 d0 x1 y1 d1 = c at *
      generalize pcmp x1 y1 d1 x2 y2 d2 = c' at *
      generalize pcmp x0 y0 d0 x2 y2 d2 = c'' at *
      have b1 : IntKind.i64.wrap (-c) = -c := wrap_mid (by omega)
      have b2 : wrap64 (-c) = -c := by rw [w64_def, w64_id ⟨by omega, by omega⟩]
      obtain ⟨nc, hnc⟩ : ∃ x, -c = x := ⟨_, rfl⟩
      rw [hnc] at k3
      replace b1 := b1.trans hnc
      replace b2 := b2.trans hnc
      have b3 : (c == 0) = (x0 == x1 && y0 == y1 && d0 == d1) := by apply Bool.eq_iff_iff.2; simp [hz, and_assoc]
      obtain ⟨e, he⟩ : ∃ e, (c == 0) = e := ⟨_, rfl⟩
      rw [← b3, he] at heq
      clear b3 hnc hz
      have HX := Lib.hid htr
      have HWH := Lib.hid hwh
      have HL3 := Lib.hid (show c ≤ 0 → c' ≤ 0 → c'' ≤ 0 from HX.out)
      clear HX htr hwh hrg hg0 hg1 hg2 n0 n1 n2 v0 v1 v2 e0 e1 e2
      have q0 := fun p : KeptW wr => (HF.out p.wd (HN1.out.tr (HNR.out.tr p.since))).1.cell 0
      have q1 := fun p : KeptW wr => (HF.out p.wd (HN1.out.tr (HNR.out.tr p.since))).1.cell 1
      have q2 := fun p : KeptW wr => (HF.out p.wd (HN1.out.tr (HNR.out.tr p.since))).1.cell 2
      have q3 := fun p : KeptW wr => (HF.out p.wd (HN1.out.tr (HNR.out.tr p.since))).2.1.cell 0
      have q4 := fun p : KeptW wr => (HF.out p.wd (HN1.out.tr (HNR.out.tr p.since))).2.1.cell 1
      have q5 := fun p : KeptW wr => (HF.out p.wd (HN1.out.tr (HNR.out.tr p.since))).2.1.cell 2
      have q6 := fun p : KeptW wr => (HF.out p.wd (HN1.out.tr (HNR.out.tr p.since))).2.2.cell 0
      have q7 := fun p : KeptW wr => (HF.out p.wd (HN1.out.tr (HNR.out.tr p.since))).2.2.cell 1
      have q8 := fun p : KeptW wr => (HF.out p.wd (HN1.out.tr (HNR.out.tr p.since))).2.2.cell 2
      have z0 := q0 ⟨wr, Kp.refl _ _⟩
      have z1 := q1 ⟨wr, Kp.refl _ _⟩
      have z2 := q2 ⟨wr, Kp.refl _ _⟩
      have z3 := q3 ⟨wr, Kp.refl _ _⟩
      have z4 := q4 ⟨wr, Kp.refl _ _⟩
      have z5 := q5 ⟨wr, Kp.refl _ _⟩
      have z6 := q6 ⟨wr, Kp.refl _ _⟩
      have z7 := q7 ⟨wr, Kp.refl _ _⟩
      have z8 := q8 ⟨wr, Kp.refl _ _⟩
      go_upto_region 9 with fail
      refine wp_region_kept (Kp.refl _ _) (by assumption) (by kernel_rfl) ?_
      repeat (with_reducible refine wpQuiet_step (fun K hK => ?_); go_simp; first | ((with_reducible refine hK _ ?_); clear hK K) | (with_reducible apply Exists.intro; (with_reducible refine ⟨fun _ => ?_, hK _ ?_⟩); ((first | (go_at_call 68; with_reducible exact Calls.kept_of (k1 _)) | (go_at_call 68; with_reducible exact Calls.kept_of (k2 _)) | fail)); clear hK K) | (simp only [undef, reduceCtorEq, if_false]; (with_reducible refine hK _ ?_); clear hK K))
      with_reducible refine wpQuiet_nil ?_
      rintro _ ⟨p, rfl⟩
      have HNP := Lib.hid ((HNR.out.tr p.since))
      have HF2 := Lib.hid (fun w' h => HF.out w' (HN1.out.tr (HNP.out.tr h)))
      generalize p.wd = wp at HNP HF2 ⊢
      clear q0 z0 q1 z1 q2 z2 q3 z3 q4 z4 q5 z5 q6 z6 q7 z7 q8 z8
      have q0 := fun p : KeptW wp => (HF2.out p.wd p.since).1.cell 0
      have q1 := fun p : KeptW wp => (HF2.out p.wd p.since).1.cell 1
      have q2 := fun p : KeptW wp => (HF2.out p.wd p.since).1.cell 2
      have q3 := fun p : KeptW wp => (HF2.out p.wd p.since).2.1.cell 0
      have q4 := fun p : KeptW wp => (HF2.out p.wd p.since).2.1.cell 1
      have q5 := fun p : KeptW wp => (HF2.out p.wd p.since).2.1.cell 2
      have q6 := fun p : KeptW wp => (HF2.out p.wd p.since).2.2.cell 0
      have q7 := fun p : KeptW wp => (HF2.out p.wd p.since).2.2.cell 1
      have q8 := fun p : KeptW wp => (HF2.out p.wd p.since).2.2.cell 2
      have z0 := q0 ⟨wp, Kp.refl _ _⟩
      have z1 := q1 ⟨wp, Kp.refl _ _⟩
      have z2 := q2 ⟨wp, Kp.refl _ _⟩
      have z3 := q3 ⟨wp, Kp.refl _ _⟩
      have z4 := q4 ⟨wp, Kp.refl _ _⟩
      have z5 := q5 ⟨wp, Kp.refl _ _⟩
      have z6 := q6 ⟨wp, Kp.refl _ _⟩
      have z7 := q7 ⟨wp, Kp.refl _ _⟩
      have z8 := q8 ⟨wp, Kp.refl _ _⟩
      cases e
      · by_cases hl1 : c ≤ 0
        · by_cases hl2 : c' ≤ 0
          · have l1 : decide (c ≤ 0) = true := decide_eq_true hl1
            have l2 : decide (c' ≤ 0) = true := decide_eq_true hl2
            have l3 : decide (c'' > 0) = false := decide_eq_false (by have := HL3.out hl1 hl2; omega)
            have l4 : decide (0 < c'') = false := l3
            clear hl1 hl2
            by_cases hd0 : d0 = 1
            · by_cases hd1 : d1 = 1
              · skip
                have m1 : ∀ w1, Calls Try.prog 58 #[pV x0 y0 d0] w1 fun e w' => e = .returned (.tuple #[vV x0 y0, .bool true]) ∧ Nw w1 w' := fun w1 => by have h := m1 w1; rw [if_pos (by simp [hd0])] at h; exact h
                have m2 : ∀ w1, Calls Try.prog 58 #[pV x1 y1 d1] w1 fun e w' => e = .returned (.tuple #[vV x1 y1, .bool true]) ∧ Nw w1 w' := fun w1 => by have h := m2 w1; rw [if_pos (by simp [hd1])] at h; exact h
                have m3 : ∀ w1, Calls Try.prog 36 #[vV x0 y0, vV x1 y1] w1 fun e w' => e = .returned (.int .i64 c) ∧ Nw w1 w' := fun w1 => by have h := m3 w1; rw [← HWH.out hd0 hd1] at h; exact h
                clear hd0 hd1
                go_upto_region 13 with (first | (go_at_call 68; ((with_reducible refine (Calls.kept_first (k3 _)).mono ?_); rintro e _ ⟨rfl, p, rfl⟩)) | (go_at_call 68; ((with_reducible refine (Calls.kept_of (k4 _)).mono ?_); rintro e _ ⟨rfl, p, rfl⟩)) | (go_at_call 58; ((with_reducible refine (Calls.kept_of (m1 _)).mono ?_); rintro e _ ⟨rfl, p, rfl⟩)) | fail)
                obtain ⟨g11, hg1⟩ : ∃ g, p.wd.heap.size = g := ⟨_, rfl⟩
                have hbb := Blk.new_at p.wd 23 #[.int .i64 x0, .int .i64 y0] hg1
                have hn1 := p.since.alloc (.cells #[.int .i64 x0, .int .i64 y0] 23)
                rw [hg1]
                generalize p.wd.alloc (.cells #[.int .i64 x0, .int .i64 y0] 23) = w11 at hbb hn1 ⊢
                clear hg1
                have HM := Lib.hid hn1
                have HB11 := Lib.hid hbb
                have qq0 := fun p : KeptW w11 => (HF2.out p.wd (HM.out.tr p.since)).2.1.cell 0
                have qq1 := fun p : KeptW w11 => (HF2.out p.wd (HM.out.tr p.since)).2.1.cell 1
                have qq2 := fun p : KeptW w11 => (HF2.out p.wd (HM.out.tr p.since)).2.1.cell 2
                have zz0 := qq0 ⟨w11, Kp.refl _ _⟩
                have zz1 := qq1 ⟨w11, Kp.refl _ _⟩
                have zz2 := qq2 ⟨w11, Kp.refl _ _⟩
                clear hbb hn1 q0 z0 q1 z1 q2 z2 q3 z3 q4 z4 q5 z5 q6 z6 q7 z7 q8 z8
                go_upto_region 14 with (first | (go_at_call 58; ((with_reducible refine (Calls.kept_first (m2 _)).mono ?_); rintro e _ ⟨rfl, p, rfl⟩)) | fail)
                have hbb1 := (HB11.out.kept p).alloc (.cells #[.int .i64 x1, .int .i64 y1] 23)
                obtain ⟨g13, hg1⟩ : ∃ g, p.wd.heap.size = g := ⟨_, rfl⟩
                have hbb := Blk.new_at p.wd 23 #[.int .i64 x1, .int .i64 y1] hg1
                have hn1 := p.since.alloc (.cells #[.int .i64 x1, .int .i64 y1] 23)
                rw [hg1]
                generalize p.wd.alloc (.cells #[.int .i64 x1, .int .i64 y1] 23) = w13 at hbb hn1 hbb1 ⊢
                clear hg1
                have HM3 := Lib.hid (HM.out.tr hn1)
                obtain ⟨y0, y1, _, _⟩ := hbb.two
                obtain ⟨y2, y3, _, _⟩ := hbb1.two
                clear hbb hbb1 hn1
                go_wp2_with (first | (go_at_call 36; ((with_reducible refine (Calls.kept_first (m3 _)).mono ?_); rintro e _ ⟨rfl, p, rfl⟩)) | fail)
                go_ret
                exact ⟨by simp, by first | exact ((((((nw_alloc _ _).alloc _).alloc _).tr HN1.out).tr HNP.out).tr HM3.out).tr p.since | exact (((((nw_alloc _ _).alloc _).alloc _).tr HN1.out).tr HNP.out).tr HM3.out⟩
              · have m1 : ∀ w1, Calls Try.prog 58 #[pV x0 y0 d0] w1 fun e w' => e = .returned (.tuple #[vV x0 y0, .bool true]) ∧ Nw w1 w' := fun w1 => by have h := m1 w1; rw [if_pos (by simp [hd0])] at h; exact h
                have m2 : ∀ w1, Calls Try.prog 58 #[pV x1 y1 d1] w1 fun e w' => e = .returned (.tuple #[vV 0 0, .bool false]) ∧ Nw w1 w' := fun w1 => by have h := m2 w1; rw [if_neg (by simp [hd1])] at h; exact h
                clear hd0 hd1
                go_upto_region 13 with (first | (go_at_call 68; ((with_reducible refine (Calls.kept_first (k3 _)).mono ?_); rintro e _ ⟨rfl, p, rfl⟩)) | (go_at_call 68; ((with_reducible refine (Calls.kept_of (k4 _)).mono ?_); rintro e _ ⟨rfl, p, rfl⟩)) | (go_at_call 58; ((with_reducible refine (Calls.kept_of (m1 _)).mono ?_); rintro e _ ⟨rfl, p, rfl⟩)) | fail)
                obtain ⟨g11, hg1⟩ : ∃ g, p.wd.heap.size = g := ⟨_, rfl⟩
                have hbb := Blk.new_at p.wd 23 #[.int .i64 x0, .int .i64 y0] hg1
                have hn1 := p.since.alloc (.cells #[.int .i64 x0, .int .i64 y0] 23)
                rw [hg1]
                generalize p.wd.alloc (.cells #[.int .i64 x0, .int .i64 y0] 23) = w11 at hbb hn1 ⊢
                clear hg1
                have HM := Lib.hid hn1
                have HB11 := Lib.hid hbb
                have qq0 := fun p : KeptW w11 => (HF2.out p.wd (HM.out.tr p.since)).2.1.cell 0
                have qq1 := fun p : KeptW w11 => (HF2.out p.wd (HM.out.tr p.since)).2.1.cell 1
                have qq2 := fun p : KeptW w11 => (HF2.out p.wd (HM.out.tr p.since)).2.1.cell 2
                have zz0 := qq0 ⟨w11, Kp.refl _ _⟩
                have zz1 := qq1 ⟨w11, Kp.refl _ _⟩
                have zz2 := qq2 ⟨w11, Kp.refl _ _⟩
                clear hbb hn1 q0 z0 q1 z1 q2 z2 q3 z3 q4 z4 q5 z5 q6 z6 q7 z7 q8 z8
                go_upto_region 14 with (first | (go_at_call 58; ((with_reducible refine (Calls.kept_first (m2 _)).mono ?_); rintro e _ ⟨rfl, p, rfl⟩)) | fail)
                have hbb1 := (HB11.out.kept p).alloc (.cells #[.int .i64 0, .int .i64 0] 23)
                obtain ⟨g13, hg1⟩ : ∃ g, p.wd.heap.size = g := ⟨_, rfl⟩
                have hbb := Blk.new_at p.wd 23 #[.int .i64 0, .int .i64 0] hg1
                have hn1 := p.since.alloc (.cells #[.int .i64 0, .int .i64 0] 23)
                rw [hg1]
                generalize p.wd.alloc (.cells #[.int .i64 0, .int .i64 0] 23) = w13 at hbb hn1 hbb1 ⊢
                clear hg1
                have HM3 := Lib.hid (HM.out.tr hn1)
                obtain ⟨y0, y1, _, _⟩ := hbb.two
                obtain ⟨y2, y3, _, _⟩ := hbb1.two
                clear hbb hbb1 hn1
                go_wp2_with (first | (go_at_call 36; ((with_reducible refine (Calls.kept_first (m3 _)).mono ?_); rintro e _ ⟨rfl, p, rfl⟩)) | fail)
                go_ret
                exact ⟨by simp, by first | exact ((((((nw_alloc _ _).alloc _).alloc _).tr HN1.out).tr HNP.out).tr HM3.out).tr p.since | exact (((((nw_alloc _ _).alloc _).alloc _).tr HN1.out).tr HNP.out).tr HM3.out⟩
            · have m1 : ∀ w1, Calls Try.prog 58 #[pV x0 y0 d0] w1 fun e w' => e = .returned (.tuple #[vV 0 0, .bool false]) ∧ Nw w1 w' := fun w1 => by have h := m1 w1; rw [if_neg (by simp [hd0])] at h; exact h
              obtain ⟨wx, wy, ok, hwo⟩ : ∃ wx wy ok, (if (d1 == 1) = true then Value.tuple #[vV x1 y1, .bool true] else .tuple #[vV 0 0, .bool false]) = .tuple #[vV wx wy, .bool ok] := by
                split
                · exact ⟨_, _, _, rfl⟩
                · exact ⟨_, _, _, rfl⟩
              rw [hwo] at m2
              clear hd0 hwo
              go_upto_region 13 with (first | (go_at_call 68; ((with_reducible refine (Calls.kept_first (k3 _)).mono ?_); rintro e _ ⟨rfl, p, rfl⟩)) | (go_at_call 68; ((with_reducible refine (Calls.kept_of (k4 _)).mono ?_); rintro e _ ⟨rfl, p, rfl⟩)) | (go_at_call 58; ((with_reducible refine (Calls.kept_of (m1 _)).mono ?_); rintro e _ ⟨rfl, p, rfl⟩)) | fail)
              obtain ⟨g11, hg1⟩ : ∃ g, p.wd.heap.size = g := ⟨_, rfl⟩
              have hbb := Blk.new_at p.wd 23 #[.int .i64 0, .int .i64 0] hg1
              have hn1 := p.since.alloc (.cells #[.int .i64 0, .int .i64 0] 23)
              rw [hg1]
              generalize p.wd.alloc (.cells #[.int .i64 0, .int .i64 0] 23) = w11 at hbb hn1 ⊢
              clear hg1
              have HM := Lib.hid hn1
              have HB11 := Lib.hid hbb
              have qq0 := fun p : KeptW w11 => (HF2.out p.wd (HM.out.tr p.since)).2.1.cell 0
              have qq1 := fun p : KeptW w11 => (HF2.out p.wd (HM.out.tr p.since)).2.1.cell 1
              have qq2 := fun p : KeptW w11 => (HF2.out p.wd (HM.out.tr p.since)).2.1.cell 2
              have zz0 := qq0 ⟨w11, Kp.refl _ _⟩
              have zz1 := qq1 ⟨w11, Kp.refl _ _⟩
              have zz2 := qq2 ⟨w11, Kp.refl _ _⟩
              clear hbb hn1 q0 z0 q1 z1 q2 z2 q3 z3 q4 z4 q5 z5 q6 z6 q7 z7 q8 z8
              go_upto_region 14 with (first | (go_at_call 58; ((with_reducible refine (Calls.kept_first (m2 _)).mono ?_); rintro e _ ⟨rfl, p, rfl⟩)) | fail)
              have hbb1 := (HB11.out.kept p).alloc (.cells #[.int .i64 wx, .int .i64 wy] 23)
              obtain ⟨g13, hg1⟩ : ∃ g, p.wd.heap.size = g := ⟨_, rfl⟩
              have hbb := Blk.new_at p.wd 23 #[.int .i64 wx, .int .i64 wy] hg1
              have hn1 := p.since.alloc (.cells #[.int .i64 wx, .int .i64 wy] 23)
              rw [hg1]
              generalize p.wd.alloc (.cells #[.int .i64 wx, .int .i64 wy] 23) = w13 at hbb hn1 hbb1 ⊢
              clear hg1
              have HM3 := Lib.hid (HM.out.tr hn1)
              obtain ⟨y0, y1, _, _⟩ := hbb.two
              obtain ⟨y2, y3, _, _⟩ := hbb1.two
              clear hbb hbb1 hn1
              go_wp2_with (first | (go_at_call 36; ((with_reducible refine (Calls.kept_first (m3 _)).mono ?_); rintro e _ ⟨rfl, p, rfl⟩)) | fail)
              go_ret
              exact ⟨by simp, by first | exact ((((((nw_alloc _ _).alloc _).alloc _).tr HN1.out).tr HNP.out).tr HM3.out).tr p.since | exact (((((nw_alloc _ _).alloc _).alloc _).tr HN1.out).tr HNP.out).tr HM3.out⟩
          · have l1 : decide (c ≤ 0) = true := decide_eq_true hl1
            have l2 : decide (c' ≤ 0) = false := decide_eq_false hl2
            clear hl1 hl2
            by_cases hd0 : d0 = 1
            · by_cases hd1 : d1 = 1
              · skip
                have m1 : ∀ w1, Calls Try.prog 58 #[pV x0 y0 d0] w1 fun e w' => e = .returned (.tuple #[vV x0 y0, .bool true]) ∧ Nw w1 w' := fun w1 => by have h := m1 w1; rw [if_pos (by simp [hd0])] at h; exact h
                have m2 : ∀ w1, Calls Try.prog 58 #[pV x1 y1 d1] w1 fun e w' => e = .returned (.tuple #[vV x1 y1, .bool true]) ∧ Nw w1 w' := fun w1 => by have h := m2 w1; rw [if_pos (by simp [hd1])] at h; exact h
                have m3 : ∀ w1, Calls Try.prog 36 #[vV x0 y0, vV x1 y1] w1 fun e w' => e = .returned (.int .i64 c) ∧ Nw w1 w' := fun w1 => by have h := m3 w1; rw [← HWH.out hd0 hd1] at h; exact h
                clear hd0 hd1
                go_upto_region 13 with (first | (go_at_call 68; ((with_reducible refine (Calls.kept_first (k3 _)).mono ?_); rintro e _ ⟨rfl, p, rfl⟩)) | (go_at_call 68; ((with_reducible refine (Calls.kept_of (k4 _)).mono ?_); rintro e _ ⟨rfl, p, rfl⟩)) | (go_at_call 58; ((with_reducible refine (Calls.kept_of (m1 _)).mono ?_); rintro e _ ⟨rfl, p, rfl⟩)) | fail)
                obtain ⟨g11, hg1⟩ : ∃ g, p.wd.heap.size = g := ⟨_, rfl⟩
                have hbb := Blk.new_at p.wd 23 #[.int .i64 x0, .int .i64 y0] hg1
                have hn1 := p.since.alloc (.cells #[.int .i64 x0, .int .i64 y0] 23)
                rw [hg1]
                generalize p.wd.alloc (.cells #[.int .i64 x0, .int .i64 y0] 23) = w11 at hbb hn1 ⊢
                clear hg1
                have HM := Lib.hid hn1
                have HB11 := Lib.hid hbb
                have qq0 := fun p : KeptW w11 => (HF2.out p.wd (HM.out.tr p.since)).2.1.cell 0
                have qq1 := fun p : KeptW w11 => (HF2.out p.wd (HM.out.tr p.since)).2.1.cell 1
                have qq2 := fun p : KeptW w11 => (HF2.out p.wd (HM.out.tr p.since)).2.1.cell 2
                have zz0 := qq0 ⟨w11, Kp.refl _ _⟩
                have zz1 := qq1 ⟨w11, Kp.refl _ _⟩
                have zz2 := qq2 ⟨w11, Kp.refl _ _⟩
                clear hbb hn1 q0 z0 q1 z1 q2 z2 q3 z3 q4 z4 q5 z5 q6 z6 q7 z7 q8 z8
                go_upto_region 14 with (first | (go_at_call 58; ((with_reducible refine (Calls.kept_first (m2 _)).mono ?_); rintro e _ ⟨rfl, p, rfl⟩)) | fail)
                have hbb1 := (HB11.out.kept p).alloc (.cells #[.int .i64 x1, .int .i64 y1] 23)
                obtain ⟨g13, hg1⟩ : ∃ g, p.wd.heap.size = g := ⟨_, rfl⟩
                have hbb := Blk.new_at p.wd 23 #[.int .i64 x1, .int .i64 y1] hg1
                have hn1 := p.since.alloc (.cells #[.int .i64 x1, .int .i64 y1] 23)
                rw [hg1]
                generalize p.wd.alloc (.cells #[.int .i64 x1, .int .i64 y1] 23) = w13 at hbb hn1 hbb1 ⊢
                clear hg1
                have HM3 := Lib.hid (HM.out.tr hn1)
                obtain ⟨y0, y1, _, _⟩ := hbb.two
                obtain ⟨y2, y3, _, _⟩ := hbb1.two
                clear hbb hbb1 hn1
                go_wp2_with (first | (go_at_call 36; ((with_reducible refine (Calls.kept_first (m3 _)).mono ?_); rintro e _ ⟨rfl, p, rfl⟩)) | fail)
                go_ret
                exact ⟨by simp, by first | exact ((((((nw_alloc _ _).alloc _).alloc _).tr HN1.out).tr HNP.out).tr HM3.out).tr p.since | exact (((((nw_alloc _ _).alloc _).alloc _).tr HN1.out).tr HNP.out).tr HM3.out⟩
              · have m1 : ∀ w1, Calls Try.prog 58 #[pV x0 y0 d0] w1 fun e w' => e = .returned (.tuple #[vV x0 y0, .bool true]) ∧ Nw w1 w' := fun w1 => by have h := m1 w1; rw [if_pos (by simp [hd0])] at h; exact h
                have m2 : ∀ w1, Calls Try.prog 58 #[pV x1 y1 d1] w1 fun e w' => e = .returned (.tuple #[vV 0 0, .bool false]) ∧ Nw w1 w' := fun w1 => by have h := m2 w1; rw [if_neg (by simp [hd1])] at h; exact h
                clear hd0 hd1
                go_upto_region 13 with (first | (go_at_call 68; ((with_reducible refine (Calls.kept_first (k3 _)).mono ?_); rintro e _ ⟨rfl, p, rfl⟩)) | (go_at_call 68; ((with_reducible refine (Calls.kept_of (k4 _)).mono ?_); rintro e _ ⟨rfl, p, rfl⟩)) | (go_at_call 58; ((with_reducible refine (Calls.kept_of (m1 _)).mono ?_); rintro e _ ⟨rfl, p, rfl⟩)) | fail)
                obtain ⟨g11, hg1⟩ : ∃ g, p.wd.heap.size = g := ⟨_, rfl⟩
                have hbb := Blk.new_at p.wd 23 #[.int .i64 x0, .int .i64 y0] hg1
                have hn1 := p.since.alloc (.cells #[.int .i64 x0, .int .i64 y0] 23)
                rw [hg1]
                generalize p.wd.alloc (.cells #[.int .i64 x0, .int .i64 y0] 23) = w11 at hbb hn1 ⊢
                clear hg1
                have HM := Lib.hid hn1
                have HB11 := Lib.hid hbb
                have qq0 := fun p : KeptW w11 => (HF2.out p.wd (HM.out.tr p.since)).2.1.cell 0
                have qq1 := fun p : KeptW w11 => (HF2.out p.wd (HM.out.tr p.since)).2.1.cell 1
                have qq2 := fun p : KeptW w11 => (HF2.out p.wd (HM.out.tr p.since)).2.1.cell 2
                have zz0 := qq0 ⟨w11, Kp.refl _ _⟩
                have zz1 := qq1 ⟨w11, Kp.refl _ _⟩
                have zz2 := qq2 ⟨w11, Kp.refl _ _⟩
                clear hbb hn1 q0 z0 q1 z1 q2 z2 q3 z3 q4 z4 q5 z5 q6 z6 q7 z7 q8 z8
                go_upto_region 14 with (first | (go_at_call 58; ((with_reducible refine (Calls.kept_first (m2 _)).mono ?_); rintro e _ ⟨rfl, p, rfl⟩)) | fail)
                have hbb1 := (HB11.out.kept p).alloc (.cells #[.int .i64 0, .int .i64 0] 23)
                obtain ⟨g13, hg1⟩ : ∃ g, p.wd.heap.size = g := ⟨_, rfl⟩
                have hbb := Blk.new_at p.wd 23 #[.int .i64 0, .int .i64 0] hg1
                have hn1 := p.since.alloc (.cells #[.int .i64 0, .int .i64 0] 23)
                rw [hg1]
                generalize p.wd.alloc (.cells #[.int .i64 0, .int .i64 0] 23) = w13 at hbb hn1 hbb1 ⊢
                clear hg1
                have HM3 := Lib.hid (HM.out.tr hn1)
                obtain ⟨y0, y1, _, _⟩ := hbb.two
                obtain ⟨y2, y3, _, _⟩ := hbb1.two
                clear hbb hbb1 hn1
                go_wp2_with (first | (go_at_call 36; ((with_reducible refine (Calls.kept_first (m3 _)).mono ?_); rintro e _ ⟨rfl, p, rfl⟩)) | fail)
                go_ret
                exact ⟨by simp, by first | exact ((((((nw_alloc _ _).alloc _).alloc _).tr HN1.out).tr HNP.out).tr HM3.out).tr p.since | exact (((((nw_alloc _ _).alloc _).alloc _).tr HN1.out).tr HNP.out).tr HM3.out⟩
            · have m1 : ∀ w1, Calls Try.prog 58 #[pV x0 y0 d0] w1 fun e w' => e = .returned (.tuple #[vV 0 0, .bool false]) ∧ Nw w1 w' := fun w1 => by have h := m1 w1; rw [if_neg (by simp [hd0])] at h; exact h
              obtain ⟨wx, wy, ok, hwo⟩ : ∃ wx wy ok, (if (d1 == 1) = true then Value.tuple #[vV x1 y1, .bool true] else .tuple #[vV 0 0, .bool false]) = .tuple #[vV wx wy, .bool ok] := by
                split
                · exact ⟨_, _, _, rfl⟩
                · exact ⟨_, _, _, rfl⟩
              rw [hwo] at m2
              clear hd0 hwo
              go_upto_region 13 with (first | (go_at_call 68; ((with_reducible refine (Calls.kept_first (k3 _)).mono ?_); rintro e _ ⟨rfl, p, rfl⟩)) | (go_at_call 68; ((with_reducible refine (Calls.kept_of (k4 _)).mono ?_); rintro e _ ⟨rfl, p, rfl⟩)) | (go_at_call 58; ((with_reducible refine (Calls.kept_of (m1 _)).mono ?_); rintro e _ ⟨rfl, p, rfl⟩)) | fail)
              obtain ⟨g11, hg1⟩ : ∃ g, p.wd.heap.size = g := ⟨_, rfl⟩
              have hbb := Blk.new_at p.wd 23 #[.int .i64 0, .int .i64 0] hg1
              have hn1 := p.since.alloc (.cells #[.int .i64 0, .int .i64 0] 23)
              rw [hg1]
              generalize p.wd.alloc (.cells #[.int .i64 0, .int .i64 0] 23) = w11 at hbb hn1 ⊢
              clear hg1
              have HM := Lib.hid hn1
              have HB11 := Lib.hid hbb
              have qq0 := fun p : KeptW w11 => (HF2.out p.wd (HM.out.tr p.since)).2.1.cell 0
              have qq1 := fun p : KeptW w11 => (HF2.out p.wd (HM.out.tr p.since)).2.1.cell 1
              have qq2 := fun p : KeptW w11 => (HF2.out p.wd (HM.out.tr p.since)).2.1.cell 2
              have zz0 := qq0 ⟨w11, Kp.refl _ _⟩
              have zz1 := qq1 ⟨w11, Kp.refl _ _⟩
              have zz2 := qq2 ⟨w11, Kp.refl _ _⟩
              clear hbb hn1 q0 z0 q1 z1 q2 z2 q3 z3 q4 z4 q5 z5 q6 z6 q7 z7 q8 z8
              go_upto_region 14 with (first | (go_at_call 58; ((with_reducible refine (Calls.kept_first (m2 _)).mono ?_); rintro e _ ⟨rfl, p, rfl⟩)) | fail)
              have hbb1 := (HB11.out.kept p).alloc (.cells #[.int .i64 wx, .int .i64 wy] 23)
              obtain ⟨g13, hg1⟩ : ∃ g, p.wd.heap.size = g := ⟨_, rfl⟩
              have hbb := Blk.new_at p.wd 23 #[.int .i64 wx, .int .i64 wy] hg1
              have hn1 := p.since.alloc (.cells #[.int .i64 wx, .int .i64 wy] 23)
              rw [hg1]
              generalize p.wd.alloc (.cells #[.int .i64 wx, .int .i64 wy] 23) = w13 at hbb hn1 hbb1 ⊢
              clear hg1
              have HM3 := Lib.hid (HM.out.tr hn1)
              obtain ⟨y0, y1, _, _⟩ := hbb.two
              obtain ⟨y2, y3, _, _⟩ := hbb1.two
              clear hbb hbb1 hn1
              go_wp2_with (first | (go_at_call 36; ((with_reducible refine (Calls.kept_first (m3 _)).mono ?_); rintro e _ ⟨rfl, p, rfl⟩)) | fail)
              go_ret
              exact ⟨by simp, by first | exact ((((((nw_alloc _ _).alloc _).alloc _).tr HN1.out).tr HNP.out).tr HM3.out).tr p.since | exact (((((nw_alloc _ _).alloc _).alloc _).tr HN1.out).tr HNP.out).tr HM3.out⟩
        · have l1 : decide (c ≤ 0) = false := decide_eq_false hl1
          clear hl1
          by_cases hd0 : d0 = 1
          · by_cases hd1 : d1 = 1
            · skip
              have m1 : ∀ w1, Calls Try.prog 58 #[pV x0 y0 d0] w1 fun e w' => e = .returned (.tuple #[vV x0 y0, .bool true]) ∧ Nw w1 w' := fun w1 => by have h := m1 w1; rw [if_pos (by simp [hd0])] at h; exact h
              have m2 : ∀ w1, Calls Try.prog 58 #[pV x1 y1 d1] w1 fun e w' => e = .returned (.tuple #[vV x1 y1, .bool true]) ∧ Nw w1 w' := fun w1 => by have h := m2 w1; rw [if_pos (by simp [hd1])] at h; exact h
              have m3 : ∀ w1, Calls Try.prog 36 #[vV x0 y0, vV x1 y1] w1 fun e w' => e = .returned (.int .i64 c) ∧ Nw w1 w' := fun w1 => by have h := m3 w1; rw [← HWH.out hd0 hd1] at h; exact h
              clear hd0 hd1
              go_upto_region 13 with (first | (go_at_call 68; ((with_reducible refine (Calls.kept_first (k3 _)).mono ?_); rintro e _ ⟨rfl, p, rfl⟩)) | (go_at_call 68; ((with_reducible refine (Calls.kept_of (k4 _)).mono ?_); rintro e _ ⟨rfl, p, rfl⟩)) | (go_at_call 58; ((with_reducible refine (Calls.kept_of (m1 _)).mono ?_); rintro e _ ⟨rfl, p, rfl⟩)) | fail)
              obtain ⟨g11, hg1⟩ : ∃ g, p.wd.heap.size = g := ⟨_, rfl⟩
              have hbb := Blk.new_at p.wd 23 #[.int .i64 x0, .int .i64 y0] hg1
              have hn1 := p.since.alloc (.cells #[.int .i64 x0, .int .i64 y0] 23)
              rw [hg1]
              generalize p.wd.alloc (.cells #[.int .i64 x0, .int .i64 y0] 23) = w11 at hbb hn1 ⊢
              clear hg1
              have HM := Lib.hid hn1
              have HB11 := Lib.hid hbb
              have qq0 := fun p : KeptW w11 => (HF2.out p.wd (HM.out.tr p.since)).2.1.cell 0
              have qq1 := fun p : KeptW w11 => (HF2.out p.wd (HM.out.tr p.since)).2.1.cell 1
              have qq2 := fun p : KeptW w11 => (HF2.out p.wd (HM.out.tr p.since)).2.1.cell 2
              have zz0 := qq0 ⟨w11, Kp.refl _ _⟩
              have zz1 := qq1 ⟨w11, Kp.refl _ _⟩
              have zz2 := qq2 ⟨w11, Kp.refl _ _⟩
              clear hbb hn1 q0 z0 q1 z1 q2 z2 q3 z3 q4 z4 q5 z5 q6 z6 q7 z7 q8 z8
              go_upto_region 14 with (first | (go_at_call 58; ((with_reducible refine (Calls.kept_first (m2 _)).mono ?_); rintro e _ ⟨rfl, p, rfl⟩)) | fail)
              have hbb1 := (HB11.out.kept p).alloc (.cells #[.int .i64 x1, .int .i64 y1] 23)
              obtain ⟨g13, hg1⟩ : ∃ g, p.wd.heap.size = g := ⟨_, rfl⟩
              have hbb := Blk.new_at p.wd 23 #[.int .i64 x1, .int .i64 y1] hg1
              have hn1 := p.since.alloc (.cells #[.int .i64 x1, .int .i64 y1] 23)
              rw [hg1]
              generalize p.wd.alloc (.cells #[.int .i64 x1, .int .i64 y1] 23) = w13 at hbb hn1 hbb1 ⊢
              clear hg1
              have HM3 := Lib.hid (HM.out.tr hn1)
              obtain ⟨y0, y1, _, _⟩ := hbb.two
              obtain ⟨y2, y3, _, _⟩ := hbb1.two
              clear hbb hbb1 hn1
              go_wp2_with (first | (go_at_call 36; ((with_reducible refine (Calls.kept_first (m3 _)).mono ?_); rintro e _ ⟨rfl, p, rfl⟩)) | fail)
              go_ret
              exact ⟨by simp, by first | exact ((((((nw_alloc _ _).alloc _).alloc _).tr HN1.out).tr HNP.out).tr HM3.out).tr p.since | exact (((((nw_alloc _ _).alloc _).alloc _).tr HN1.out).tr HNP.out).tr HM3.out⟩
            · have m1 : ∀ w1, Calls Try.prog 58 #[pV x0 y0 d0] w1 fun e w' => e = .returned (.tuple #[vV x0 y0, .bool true]) ∧ Nw w1 w' := fun w1 => by have h := m1 w1; rw [if_pos (by simp [hd0])] at h; exact h
              have m2 : ∀ w1, Calls Try.prog 58 #[pV x1 y1 d1] w1 fun e w' => e = .returned (.tuple #[vV 0 0, .bool false]) ∧ Nw w1 w' := fun w1 => by have h := m2 w1; rw [if_neg (by simp [hd1])] at h; exact h
              clear hd0 hd1
              go_upto_region 13 with (first | (go_at_call 68; ((with_reducible refine (Calls.kept_first (k3 _)).mono ?_); rintro e _ ⟨rfl, p, rfl⟩)) | (go_at_call 68; ((with_reducible refine (Calls.kept_of (k4 _)).mono ?_); rintro e _ ⟨rfl, p, rfl⟩)) | (go_at_call 58; ((with_reducible refine (Calls.kept_of (m1 _)).mono ?_); rintro e _ ⟨rfl, p, rfl⟩)) | fail)
              obtain ⟨g11, hg1⟩ : ∃ g, p.wd.heap.size = g := ⟨_, rfl⟩
              have hbb := Blk.new_at p.wd 23 #[.int .i64 x0, .int .i64 y0] hg1
              have hn1 := p.since.alloc (.cells #[.int .i64 x0, .int .i64 y0] 23)
              rw [hg1]
              generalize p.wd.alloc (.cells #[.int .i64 x0, .int .i64 y0] 23) = w11 at hbb hn1 ⊢
              clear hg1
              have HM := Lib.hid hn1
              have HB11 := Lib.hid hbb
              have qq0 := fun p : KeptW w11 => (HF2.out p.wd (HM.out.tr p.since)).2.1.cell 0
              have qq1 := fun p : KeptW w11 => (HF2.out p.wd (HM.out.tr p.since)).2.1.cell 1
              have qq2 := fun p : KeptW w11 => (HF2.out p.wd (HM.out.tr p.since)).2.1.cell 2
              have zz0 := qq0 ⟨w11, Kp.refl _ _⟩
              have zz1 := qq1 ⟨w11, Kp.refl _ _⟩
              have zz2 := qq2 ⟨w11, Kp.refl _ _⟩
              clear hbb hn1 q0 z0 q1 z1 q2 z2 q3 z3 q4 z4 q5 z5 q6 z6 q7 z7 q8 z8
              go_upto_region 14 with (first | (go_at_call 58; ((with_reducible refine (Calls.kept_first (m2 _)).mono ?_); rintro e _ ⟨rfl, p, rfl⟩)) | fail)
              have hbb1 := (HB11.out.kept p).alloc (.cells #[.int .i64 0, .int .i64 0] 23)
              obtain ⟨g13, hg1⟩ : ∃ g, p.wd.heap.size = g := ⟨_, rfl⟩
              have hbb := Blk.new_at p.wd 23 #[.int .i64 0, .int .i64 0] hg1
              have hn1 := p.since.alloc (.cells #[.int .i64 0, .int .i64 0] 23)
              rw [hg1]
              generalize p.wd.alloc (.cells #[.int .i64 0, .int .i64 0] 23) = w13 at hbb hn1 hbb1 ⊢
              clear hg1
              have HM3 := Lib.hid (HM.out.tr hn1)
              obtain ⟨y0, y1, _, _⟩ := hbb.two
              obtain ⟨y2, y3, _, _⟩ := hbb1.two
              clear hbb hbb1 hn1
              go_wp2_with (first | (go_at_call 36; ((with_reducible refine (Calls.kept_first (m3 _)).mono ?_); rintro e _ ⟨rfl, p, rfl⟩)) | fail)
              go_ret
              exact ⟨by simp, by first | exact ((((((nw_alloc _ _).alloc _).alloc _).tr HN1.out).tr HNP.out).tr HM3.out).tr p.since | exact (((((nw_alloc _ _).alloc _).alloc _).tr HN1.out).tr HNP.out).tr HM3.out⟩
          · have m1 : ∀ w1, Calls Try.prog 58 #[pV x0 y0 d0] w1 fun e w' => e = .returned (.tuple #[vV 0 0, .bool false]) ∧ Nw w1 w' := fun w1 => by have h := m1 w1; rw [if_neg (by simp [hd0])] at h; exact h
            obtain ⟨wx, wy, ok, hwo⟩ : ∃ wx wy ok, (if (d1 == 1) = true then Value.tuple #[vV x1 y1, .bool true] else .tuple #[vV 0 0, .bool false]) = .tuple #[vV wx wy, .bool ok] := by
              split
              · exact ⟨_, _, _, rfl⟩
              · exact ⟨_, _, _, rfl⟩
            rw [hwo] at m2
            clear hd0 hwo
            go_upto_region 13 with (first | (go_at_call 68; ((with_reducible refine (Calls.kept_first (k3 _)).mono ?_); rintro e _ ⟨rfl, p, rfl⟩)) | (go_at_call 68; ((with_reducible refine (Calls.kept_of (k4 _)).mono ?_); rintro e _ ⟨rfl, p, rfl⟩)) | (go_at_call 58; ((with_reducible refine (Calls.kept_of (m1 _)).mono ?_); rintro e _ ⟨rfl, p, rfl⟩)) | fail)
            obtain ⟨g11, hg1⟩ : ∃ g, p.wd.heap.size = g := ⟨_, rfl⟩
            have hbb := Blk.new_at p.wd 23 #[.int .i64 0, .int .i64 0] hg1
            have hn1 := p.since.alloc (.cells #[.int .i64 0, .int .i64 0] 23)
            rw [hg1]
            generalize p.wd.alloc (.cells #[.int .i64 0, .int .i64 0] 23) = w11 at hbb hn1 ⊢
            clear hg1
            have HM := Lib.hid hn1
            have HB11 := Lib.hid hbb
            have qq0 := fun p : KeptW w11 => (HF2.out p.wd (HM.out.tr p.since)).2.1.cell 0
            have qq1 := fun p : KeptW w11 => (HF2.out p.wd (HM.out.tr p.since)).2.1.cell 1
            have qq2 := fun p : KeptW w11 => (HF2.out p.wd (HM.out.tr p.since)).2.1.cell 2
            have zz0 := qq0 ⟨w11, Kp.refl _ _⟩
            have zz1 := qq1 ⟨w11, Kp.refl _ _⟩
            have zz2 := qq2 ⟨w11, Kp.refl _ _⟩
            clear hbb hn1 q0 z0 q1 z1 q2 z2 q3 z3 q4 z4 q5 z5 q6 z6 q7 z7 q8 z8
            go_upto_region 14 with (first | (go_at_call 58; ((with_reducible refine (Calls.kept_first (m2 _)).mono ?_); rintro e _ ⟨rfl, p, rfl⟩)) | fail)
            have hbb1 := (HB11.out.kept p).alloc (.cells #[.int .i64 wx, .int .i64 wy] 23)
            obtain ⟨g13, hg1⟩ : ∃ g, p.wd.heap.size = g := ⟨_, rfl⟩
            have hbb := Blk.new_at p.wd 23 #[.int .i64 wx, .int .i64 wy] hg1
            have hn1 := p.since.alloc (.cells #[.int .i64 wx, .int .i64 wy] 23)
            rw [hg1]
            generalize p.wd.alloc (.cells #[.int .i64 wx, .int .i64 wy] 23) = w13 at hbb hn1 hbb1 ⊢
            clear hg1
            have HM3 := Lib.hid (HM.out.tr hn1)
            obtain ⟨y0, y1, _, _⟩ := hbb.two
            obtain ⟨y2, y3, _, _⟩ := hbb1.two
            clear hbb hbb1 hn1
            go_wp2_with (first | (go_at_call 36; ((with_reducible refine (Calls.kept_first (m3 _)).mono ?_); rintro e _ ⟨rfl, p, rfl⟩)) | fail)
            go_ret
            exact ⟨by simp, by first | exact ((((((nw_alloc _ _).alloc _).alloc _).tr HN1.out).tr HNP.out).tr HM3.out).tr p.since | exact (((((nw_alloc _ _).alloc _).alloc _).tr HN1.out).tr HNP.out).tr HM3.out⟩
      · by_cases hl1 : c ≤ 0
        · by_cases hl2 : c' ≤ 0
          · have l1 : decide (c ≤ 0) = true := decide_eq_true hl1
            have l2 : decide (c' ≤ 0) = true := decide_eq_true hl2
            have l3 : decide (c'' > 0) = false := decide_eq_false (by have := HL3.out hl1 hl2; omega)
            have l4 : decide (0 < c'') = false := l3
            clear hl1 hl2
            by_cases hd0 : d0 = 1
            · by_cases hd1 : d1 = 1
              · skip
                have m1 : ∀ w1, Calls Try.prog 58 #[pV x0 y0 d0] w1 fun e w' => e = .returned (.tuple #[vV x0 y0, .bool true]) ∧ Nw w1 w' := fun w1 => by have h := m1 w1; rw [if_pos (by simp [hd0])] at h; exact h
                have m2 : ∀ w1, Calls Try.prog 58 #[pV x1 y1 d1] w1 fun e w' => e = .returned (.tuple #[vV x1 y1, .bool true]) ∧ Nw w1 w' := fun w1 => by have h := m2 w1; rw [if_pos (by simp [hd1])] at h; exact h
                have m3 : ∀ w1, Calls Try.prog 36 #[vV x0 y0, vV x1 y1] w1 fun e w' => e = .returned (.int .i64 c) ∧ Nw w1 w' := fun w1 => by have h := m3 w1; rw [← HWH.out hd0 hd1] at h; exact h
                clear hd0 hd1
                go_upto_region 13 with (first | (go_at_call 68; ((with_reducible refine (Calls.kept_first (k3 _)).mono ?_); rintro e _ ⟨rfl, p, rfl⟩)) | (go_at_call 68; ((with_reducible refine (Calls.kept_of (k4 _)).mono ?_); rintro e _ ⟨rfl, p, rfl⟩)) | (go_at_call 58; ((with_reducible refine (Calls.kept_of (m1 _)).mono ?_); rintro e _ ⟨rfl, p, rfl⟩)) | fail)
                obtain ⟨g11, hg1⟩ : ∃ g, p.wd.heap.size = g := ⟨_, rfl⟩
                have hbb := Blk.new_at p.wd 23 #[.int .i64 x0, .int .i64 y0] hg1
                have hn1 := p.since.alloc (.cells #[.int .i64 x0, .int .i64 y0] 23)
                rw [hg1]
                generalize p.wd.alloc (.cells #[.int .i64 x0, .int .i64 y0] 23) = w11 at hbb hn1 ⊢
                clear hg1
                have HM := Lib.hid hn1
                have HB11 := Lib.hid hbb
                have qq0 := fun p : KeptW w11 => (HF2.out p.wd (HM.out.tr p.since)).2.1.cell 0
                have qq1 := fun p : KeptW w11 => (HF2.out p.wd (HM.out.tr p.since)).2.1.cell 1
                have qq2 := fun p : KeptW w11 => (HF2.out p.wd (HM.out.tr p.since)).2.1.cell 2
                have zz0 := qq0 ⟨w11, Kp.refl _ _⟩
                have zz1 := qq1 ⟨w11, Kp.refl _ _⟩
                have zz2 := qq2 ⟨w11, Kp.refl _ _⟩
                clear hbb hn1 q0 z0 q1 z1 q2 z2 q3 z3 q4 z4 q5 z5 q6 z6 q7 z7 q8 z8
                go_upto_region 14 with (first | (go_at_call 58; ((with_reducible refine (Calls.kept_first (m2 _)).mono ?_); rintro e _ ⟨rfl, p, rfl⟩)) | fail)
                have hbb1 := (HB11.out.kept p).alloc (.cells #[.int .i64 x1, .int .i64 y1] 23)
                obtain ⟨g13, hg1⟩ : ∃ g, p.wd.heap.size = g := ⟨_, rfl⟩
                have hbb := Blk.new_at p.wd 23 #[.int .i64 x1, .int .i64 y1] hg1
                have hn1 := p.since.alloc (.cells #[.int .i64 x1, .int .i64 y1] 23)
                rw [hg1]
                generalize p.wd.alloc (.cells #[.int .i64 x1, .int .i64 y1] 23) = w13 at hbb hn1 hbb1 ⊢
                clear hg1
                have HM3 := Lib.hid (HM.out.tr hn1)
                obtain ⟨y0, y1, _, _⟩ := hbb.two
                obtain ⟨y2, y3, _, _⟩ := hbb1.two
                clear hbb hbb1 hn1
                go_wp2_with (first | (go_at_call 36; ((with_reducible refine (Calls.kept_first (m3 _)).mono ?_); rintro e _ ⟨rfl, p, rfl⟩)) | fail)
                go_ret
                exact ⟨by simp, by first | exact ((((((nw_alloc _ _).alloc _).alloc _).tr HN1.out).tr HNP.out).tr HM3.out).tr p.since | exact (((((nw_alloc _ _).alloc _).alloc _).tr HN1.out).tr HNP.out).tr HM3.out⟩
              · have m1 : ∀ w1, Calls Try.prog 58 #[pV x0 y0 d0] w1 fun e w' => e = .returned (.tuple #[vV x0 y0, .bool true]) ∧ Nw w1 w' := fun w1 => by have h := m1 w1; rw [if_pos (by simp [hd0])] at h; exact h
                have m2 : ∀ w1, Calls Try.prog 58 #[pV x1 y1 d1] w1 fun e w' => e = .returned (.tuple #[vV 0 0, .bool false]) ∧ Nw w1 w' := fun w1 => by have h := m2 w1; rw [if_neg (by simp [hd1])] at h; exact h
                clear hd0 hd1
                go_upto_region 13 with (first | (go_at_call 68; ((with_reducible refine (Calls.kept_first (k3 _)).mono ?_); rintro e _ ⟨rfl, p, rfl⟩)) | (go_at_call 68; ((with_reducible refine (Calls.kept_of (k4 _)).mono ?_); rintro e _ ⟨rfl, p, rfl⟩)) | (go_at_call 58; ((with_reducible refine (Calls.kept_of (m1 _)).mono ?_); rintro e _ ⟨rfl, p, rfl⟩)) | fail)
                obtain ⟨g11, hg1⟩ : ∃ g, p.wd.heap.size = g := ⟨_, rfl⟩
                have hbb := Blk.new_at p.wd 23 #[.int .i64 x0, .int .i64 y0] hg1
                have hn1 := p.since.alloc (.cells #[.int .i64 x0, .int .i64 y0] 23)
                rw [hg1]
                generalize p.wd.alloc (.cells #[.int .i64 x0, .int .i64 y0] 23) = w11 at hbb hn1 ⊢
                clear hg1
                have HM := Lib.hid hn1
                have HB11 := Lib.hid hbb
                have qq0 := fun p : KeptW w11 => (HF2.out p.wd (HM.out.tr p.since)).2.1.cell 0
                have qq1 := fun p : KeptW w11 => (HF2.out p.wd (HM.out.tr p.since)).2.1.cell 1
                have qq2 := fun p : KeptW w11 => (HF2.out p.wd (HM.out.tr p.since)).2.1.cell 2
                have zz0 := qq0 ⟨w11, Kp.refl _ _⟩
                have zz1 := qq1 ⟨w11, Kp.refl _ _⟩
                have zz2 := qq2 ⟨w11, Kp.refl _ _⟩
                clear hbb hn1 q0 z0 q1 z1 q2 z2 q3 z3 q4 z4 q5 z5 q6 z6 q7 z7 q8 z8
                go_upto_region 14 with (first | (go_at_call 58; ((with_reducible refine (Calls.kept_first (m2 _)).mono ?_); rintro e _ ⟨rfl, p, rfl⟩)) | fail)
                have hbb1 := (HB11.out.kept p).alloc (.cells #[.int .i64 0, .int .i64 0] 23)
                obtain ⟨g13, hg1⟩ : ∃ g, p.wd.heap.size = g := ⟨_, rfl⟩
                have hbb := Blk.new_at p.wd 23 #[.int .i64 0, .int .i64 0] hg1
                have hn1 := p.since.alloc (.cells #[.int .i64 0, .int .i64 0] 23)
                rw [hg1]
                generalize p.wd.alloc (.cells #[.int .i64 0, .int .i64 0] 23) = w13 at hbb hn1 hbb1 ⊢
                clear hg1
                have HM3 := Lib.hid (HM.out.tr hn1)
                obtain ⟨y0, y1, _, _⟩ := hbb.two
                obtain ⟨y2, y3, _, _⟩ := hbb1.two
                clear hbb hbb1 hn1
                go_wp2_with (first | (go_at_call 36; ((with_reducible refine (Calls.kept_first (m3 _)).mono ?_); rintro e _ ⟨rfl, p, rfl⟩)) | fail)
                go_ret
                exact ⟨by simp, by first | exact ((((((nw_alloc _ _).alloc _).alloc _).tr HN1.out).tr HNP.out).tr HM3.out).tr p.since | exact (((((nw_alloc _ _).alloc _).alloc _).tr HN1.out).tr HNP.out).tr HM3.out⟩
            · have m1 : ∀ w1, Calls Try.prog 58 #[pV x0 y0 d0] w1 fun e w' => e = .returned (.tuple #[vV 0 0, .bool false]) ∧ Nw w1 w' := fun w1 => by have h := m1 w1; rw [if_neg (by simp [hd0])] at h; exact h
              obtain ⟨wx, wy, ok, hwo⟩ : ∃ wx wy ok, (if (d1 == 1) = true then Value.tuple #[vV x1 y1, .bool true] else .tuple #[vV 0 0, .bool false]) = .tuple #[vV wx wy, .bool ok] := by
                split
                · exact ⟨_, _, _, rfl⟩
                · exact ⟨_, _, _, rfl⟩
              rw [hwo] at m2
              clear hd0 hwo
              go_upto_region 13 with (first | (go_at_call 68; ((with_reducible refine (Calls.kept_first (k3 _)).mono ?_); rintro e _ ⟨rfl, p, rfl⟩)) | (go_at_call 68; ((with_reducible refine (Calls.kept_of (k4 _)).mono ?_); rintro e _ ⟨rfl, p, rfl⟩)) | (go_at_call 58; ((with_reducible refine (Calls.kept_of (m1 _)).mono ?_); rintro e _ ⟨rfl, p, rfl⟩)) | fail)
              obtain ⟨g11, hg1⟩ : ∃ g, p.wd.heap.size = g := ⟨_, rfl⟩
              have hbb := Blk.new_at p.wd 23 #[.int .i64 0, .int .i64 0] hg1
              have hn1 := p.since.alloc (.cells #[.int .i64 0, .int .i64 0] 23)
              rw [hg1]
              generalize p.wd.alloc (.cells #[.int .i64 0, .int .i64 0] 23) = w11 at hbb hn1 ⊢
              clear hg1
              have HM := Lib.hid hn1
              have HB11 := Lib.hid hbb
              have qq0 := fun p : KeptW w11 => (HF2.out p.wd (HM.out.tr p.since)).2.1.cell 0
              have qq1 := fun p : KeptW w11 => (HF2.out p.wd (HM.out.tr p.since)).2.1.cell 1
              have qq2 := fun p : KeptW w11 => (HF2.out p.wd (HM.out.tr p.since)).2.1.cell 2
              have zz0 := qq0 ⟨w11, Kp.refl _ _⟩
              have zz1 := qq1 ⟨w11, Kp.refl _ _⟩
              have zz2 := qq2 ⟨w11, Kp.refl _ _⟩
              clear hbb hn1 q0 z0 q1 z1 q2 z2 q3 z3 q4 z4 q5 z5 q6 z6 q7 z7 q8 z8
              go_upto_region 14 with (first | (go_at_call 58; ((with_reducible refine (Calls.kept_first (m2 _)).mono ?_); rintro e _ ⟨rfl, p, rfl⟩)) | fail)
              have hbb1 := (HB11.out.kept p).alloc (.cells #[.int .i64 wx, .int .i64 wy] 23)
              obtain ⟨g13, hg1⟩ : ∃ g, p.wd.heap.size = g := ⟨_, rfl⟩
              have hbb := Blk.new_at p.wd 23 #[.int .i64 wx, .int .i64 wy] hg1
              have hn1 := p.since.alloc (.cells #[.int .i64 wx, .int .i64 wy] 23)
              rw [hg1]
              generalize p.wd.alloc (.cells #[.int .i64 wx, .int .i64 wy] 23) = w13 at hbb hn1 hbb1 ⊢
              clear hg1
              have HM3 := Lib.hid (HM.out.tr hn1)
              obtain ⟨y0, y1, _, _⟩ := hbb.two
              obtain ⟨y2, y3, _, _⟩ := hbb1.two
              clear hbb hbb1 hn1
              go_wp2_with (first | (go_at_call 36; ((with_reducible refine (Calls.kept_first (m3 _)).mono ?_); rintro e _ ⟨rfl, p, rfl⟩)) | fail)
              go_ret
              exact ⟨by simp, by first | exact ((((((nw_alloc _ _).alloc _).alloc _).tr HN1.out).tr HNP.out).tr HM3.out).tr p.since | exact (((((nw_alloc _ _).alloc _).alloc _).tr HN1.out).tr HNP.out).tr HM3.out⟩
          · have l1 : decide (c ≤ 0) = true := decide_eq_true hl1
            have l2 : decide (c' ≤ 0) = false := decide_eq_false hl2
            clear hl1 hl2
            by_cases hd0 : d0 = 1
            · by_cases hd1 : d1 = 1
              · skip
                have m1 : ∀ w1, Calls Try.prog 58 #[pV x0 y0 d0] w1 fun e w' => e = .returned (.tuple #[vV x0 y0, .bool true]) ∧ Nw w1 w' := fun w1 => by have h := m1 w1; rw [if_pos (by simp [hd0])] at h; exact h
                have m2 : ∀ w1, Calls Try.prog 58 #[pV x1 y1 d1] w1 fun e w' => e = .returned (.tuple #[vV x1 y1, .bool true]) ∧ Nw w1 w' := fun w1 => by have h := m2 w1; rw [if_pos (by simp [hd1])] at h; exact h
                have m3 : ∀ w1, Calls Try.prog 36 #[vV x0 y0, vV x1 y1] w1 fun e w' => e = .returned (.int .i64 c) ∧ Nw w1 w' := fun w1 => by have h := m3 w1; rw [← HWH.out hd0 hd1] at h; exact h
                clear hd0 hd1
                go_upto_region 13 with (first | (go_at_call 68; ((with_reducible refine (Calls.kept_first (k3 _)).mono ?_); rintro e _ ⟨rfl, p, rfl⟩)) | (go_at_call 68; ((with_reducible refine (Calls.kept_of (k4 _)).mono ?_); rintro e _ ⟨rfl, p, rfl⟩)) | (go_at_call 58; ((with_reducible refine (Calls.kept_of (m1 _)).mono ?_); rintro e _ ⟨rfl, p, rfl⟩)) | fail)
                obtain ⟨g11, hg1⟩ : ∃ g, p.wd.heap.size = g := ⟨_, rfl⟩
                have hbb := Blk.new_at p.wd 23 #[.int .i64 x0, .int .i64 y0] hg1
                have hn1 := p.since.alloc (.cells #[.int .i64 x0, .int .i64 y0] 23)
                rw [hg1]
                generalize p.wd.alloc (.cells #[.int .i64 x0, .int .i64 y0] 23) = w11 at hbb hn1 ⊢
                clear hg1
                have HM := Lib.hid hn1
                have HB11 := Lib.hid hbb
                have qq0 := fun p : KeptW w11 => (HF2.out p.wd (HM.out.tr p.since)).2.1.cell 0
                have qq1 := fun p : KeptW w11 => (HF2.out p.wd (HM.out.tr p.since)).2.1.cell 1
                have qq2 := fun p : KeptW w11 => (HF2.out p.wd (HM.out.tr p.since)).2.1.cell 2
                have zz0 := qq0 ⟨w11, Kp.refl _ _⟩
                have zz1 := qq1 ⟨w11, Kp.refl _ _⟩
                have zz2 := qq2 ⟨w11, Kp.refl _ _⟩
                clear hbb hn1 q0 z0 q1 z1 q2 z2 q3 z3 q4 z4 q5 z5 q6 z6 q7 z7 q8 z8
                go_upto_region 14 with (first | (go_at_call 58; ((with_reducible refine (Calls.kept_first (m2 _)).mono ?_); rintro e _ ⟨rfl, p, rfl⟩)) | fail)
                have hbb1 := (HB11.out.kept p).alloc (.cells #[.int .i64 x1, .int .i64 y1] 23)
                obtain ⟨g13, hg1⟩ : ∃ g, p.wd.heap.size = g := ⟨_, rfl⟩
                have hbb := Blk.new_at p.wd 23 #[.int .i64 x1, .int .i64 y1] hg1
                have hn1 := p.since.alloc (.cells #[.int .i64 x1, .int .i64 y1] 23)
                rw [hg1]
                generalize p.wd.alloc (.cells #[.int .i64 x1, .int .i64 y1] 23) = w13 at hbb hn1 hbb1 ⊢
                clear hg1
                have HM3 := Lib.hid (HM.out.tr hn1)
                obtain ⟨y0, y1, _, _⟩ := hbb.two
                obtain ⟨y2, y3, _, _⟩ := hbb1.two
                clear hbb hbb1 hn1
                go_wp2_with (first | (go_at_call 36; ((with_reducible refine (Calls.kept_first (m3 _)).mono ?_); rintro e _ ⟨rfl, p, rfl⟩)) | fail)
                go_ret
                exact ⟨by simp, by first | exact ((((((nw_alloc _ _).alloc _).alloc _).tr HN1.out).tr HNP.out).tr HM3.out).tr p.since | exact (((((nw_alloc _ _).alloc _).alloc _).tr HN1.out).tr HNP.out).tr HM3.out⟩
              · have m1 : ∀ w1, Calls Try.prog 58 #[pV x0 y0 d0] w1 fun e w' => e = .returned (.tuple #[vV x0 y0, .bool true]) ∧ Nw w1 w' := fun w1 => by have h := m1 w1; rw [if_pos (by simp [hd0])] at h; exact h
                have m2 : ∀ w1, Calls Try.prog 58 #[pV x1 y1 d1] w1 fun e w' => e = .returned (.tuple #[vV 0 0, .bool false]) ∧ Nw w1 w' := fun w1 => by have h := m2 w1; rw [if_neg (by simp [hd1])] at h; exact h
                clear hd0 hd1
                go_upto_region 13 with (first | (go_at_call 68; ((with_reducible refine (Calls.kept_first (k3 _)).mono ?_); rintro e _ ⟨rfl, p, rfl⟩)) | (go_at_call 68; ((with_reducible refine (Calls.kept_of (k4 _)).mono ?_); rintro e _ ⟨rfl, p, rfl⟩)) | (go_at_call 58; ((with_reducible refine (Calls.kept_of (m1 _)).mono ?_); rintro e _ ⟨rfl, p, rfl⟩)) | fail)
                obtain ⟨g11, hg1⟩ : ∃ g, p.wd.heap.size = g := ⟨_, rfl⟩
                have hbb := Blk.new_at p.wd 23 #[.int .i64 x0, .int .i64 y0] hg1
                have hn1 := p.since.alloc (.cells #[.int .i64 x0, .int .i64 y0] 23)
                rw [hg1]
                generalize p.wd.alloc (.cells #[.int .i64 x0, .int .i64 y0] 23) = w11 at hbb hn1 ⊢
                clear hg1
                have HM := Lib.hid hn1
                have HB11 := Lib.hid hbb
                have qq0 := fun p : KeptW w11 => (HF2.out p.wd (HM.out.tr p.since)).2.1.cell 0
                have qq1 := fun p : KeptW w11 => (HF2.out p.wd (HM.out.tr p.since)).2.1.cell 1
                have qq2 := fun p : KeptW w11 => (HF2.out p.wd (HM.out.tr p.since)).2.1.cell 2
                have zz0 := qq0 ⟨w11, Kp.refl _ _⟩
                have zz1 := qq1 ⟨w11, Kp.refl _ _⟩
                have zz2 := qq2 ⟨w11, Kp.refl _ _⟩
                clear hbb hn1 q0 z0 q1 z1 q2 z2 q3 z3 q4 z4 q5 z5 q6 z6 q7 z7 q8 z8
                go_upto_region 14 with (first | (go_at_call 58; ((with_reducible refine (Calls.kept_first (m2 _)).mono ?_); rintro e _ ⟨rfl, p, rfl⟩)) | fail)
                have hbb1 := (HB11.out.kept p).alloc (.cells #[.int .i64 0, .int .i64 0] 23)
                obtain ⟨g13, hg1⟩ : ∃ g, p.wd.heap.size = g := ⟨_, rfl⟩
                have hbb := Blk.new_at p.wd 23 #[.int .i64 0, .int .i64 0] hg1
                have hn1 := p.since.alloc (.cells #[.int .i64 0, .int .i64 0] 23)
                rw [hg1]
                generalize p.wd.alloc (.cells #[.int .i64 0, .int .i64 0] 23) = w13 at hbb hn1 hbb1 ⊢
                clear hg1
                have HM3 := Lib.hid (HM.out.tr hn1)
                obtain ⟨y0, y1, _, _⟩ := hbb.two
                obtain ⟨y2, y3, _, _⟩ := hbb1.two
                clear hbb hbb1 hn1
                go_wp2_with (first | (go_at_call 36; ((with_reducible refine (Calls.kept_first (m3 _)).mono ?_); rintro e _ ⟨rfl, p, rfl⟩)) | fail)
                go_ret
                exact ⟨by simp, by first | exact ((((((nw_alloc _ _).alloc _).alloc _).tr HN1.out).tr HNP.out).tr HM3.out).tr p.since | exact (((((nw_alloc _ _).alloc _).alloc _).tr HN1.out).tr HNP.out).tr HM3.out⟩
            · have m1 : ∀ w1, Calls Try.prog 58 #[pV x0 y0 d0] w1 fun e w' => e = .returned (.tuple #[vV 0 0, .bool false]) ∧ Nw w1 w' := fun w1 => by have h := m1 w1; rw [if_neg (by simp [hd0])] at h; exact h
              obtain ⟨wx, wy, ok, hwo⟩ : ∃ wx wy ok, (if (d1 == 1) = true then Value.tuple #[vV x1 y1, .bool true] else .tuple #[vV 0 0, .bool false]) = .tuple #[vV wx wy, .bool ok] := by
                split
                · exact ⟨_, _, _, rfl⟩
                · exact ⟨_, _, _, rfl⟩
              rw [hwo] at m2
              clear hd0 hwo
              go_upto_region 13 with (first | (go_at_call 68; ((with_reducible refine (Calls.kept_first (k3 _)).mono ?_); rintro e _ ⟨rfl, p, rfl⟩)) | (go_at_call 68; ((with_reducible refine (Calls.kept_of (k4 _)).mono ?_); rintro e _ ⟨rfl, p, rfl⟩)) | (go_at_call 58; ((with_reducible refine (Calls.kept_of (m1 _)).mono ?_); rintro e _ ⟨rfl, p, rfl⟩)) | fail)
              obtain ⟨g11, hg1⟩ : ∃ g, p.wd.heap.size = g := ⟨_, rfl⟩
              have hbb := Blk.new_at p.wd 23 #[.int .i64 0, .int .i64 0] hg1
              have hn1 := p.since.alloc (.cells #[.int .i64 0, .int .i64 0] 23)
              rw [hg1]
              generalize p.wd.alloc (.cells #[.int .i64 0, .int .i64 0] 23) = w11 at hbb hn1 ⊢
              clear hg1
              have HM := Lib.hid hn1
              have HB11 := Lib.hid hbb
              have qq0 := fun p : KeptW w11 => (HF2.out p.wd (HM.out.tr p.since)).2.1.cell 0
              have qq1 := fun p : KeptW w11 => (HF2.out p.wd (HM.out.tr p.since)).2.1.cell 1
              have qq2 := fun p : KeptW w11 => (HF2.out p.wd (HM.out.tr p.since)).2.1.cell 2
              have zz0 := qq0 ⟨w11, Kp.refl _ _⟩
              have zz1 := qq1 ⟨w11, Kp.refl _ _⟩
              have zz2 := qq2 ⟨w11, Kp.refl _ _⟩
              clear hbb hn1 q0 z0 q1 z1 q2 z2 q3 z3 q4 z4 q5 z5 q6 z6 q7 z7 q8 z8
              go_upto_region 14 with (first | (go_at_call 58; ((with_reducible refine (Calls.kept_first (m2 _)).mono ?_); rintro e _ ⟨rfl, p, rfl⟩)) | fail)
              have hbb1 := (HB11.out.kept p).alloc (.cells #[.int .i64 wx, .int .i64 wy] 23)
              obtain ⟨g13, hg1⟩ : ∃ g, p.wd.heap.size = g := ⟨_, rfl⟩
              have hbb := Blk.new_at p.wd 23 #[.int .i64 wx, .int .i64 wy] hg1
              have hn1 := p.since.alloc (.cells #[.int .i64 wx, .int .i64 wy] 23)
              rw [hg1]
              generalize p.wd.alloc (.cells #[.int .i64 wx, .int .i64 wy] 23) = w13 at hbb hn1 hbb1 ⊢
              clear hg1
              have HM3 := Lib.hid (HM.out.tr hn1)
              obtain ⟨y0, y1, _, _⟩ := hbb.two
              obtain ⟨y2, y3, _, _⟩ := hbb1.two
              clear hbb hbb1 hn1
              go_wp2_with (first | (go_at_call 36; ((with_reducible refine (Calls.kept_first (m3 _)).mono ?_); rintro e _ ⟨rfl, p, rfl⟩)) | fail)
              go_ret
              exact ⟨by simp, by first | exact ((((((nw_alloc _ _).alloc _).alloc _).tr HN1.out).tr HNP.out).tr HM3.out).tr p.since | exact (((((nw_alloc _ _).alloc _).alloc _).tr HN1.out).tr HNP.out).tr HM3.out⟩
        · have l1 : decide (c ≤ 0) = false := decide_eq_false hl1
          clear hl1
          by_cases hd0 : d0 = 1
          · by_cases hd1 : d1 = 1
            · skip
              have m1 : ∀ w1, Calls Try.prog 58 #[pV x0 y0 d0] w1 fun e w' => e = .returned (.tuple #[vV x0 y0, .bool true]) ∧ Nw w1 w' := fun w1 => by have h := m1 w1; rw [if_pos (by simp [hd0])] at h; exact h
              have m2 : ∀ w1, Calls Try.prog 58 #[pV x1 y1 d1] w1 fun e w' => e = .returned (.tuple #[vV x1 y1, .bool true]) ∧ Nw w1 w' := fun w1 => by have h := m2 w1; rw [if_pos (by simp [hd1])] at h; exact h
              have m3 : ∀ w1, Calls Try.prog 36 #[vV x0 y0, vV x1 y1] w1 fun e w' => e = .returned (.int .i64 c) ∧ Nw w1 w' := fun w1 => by have h := m3 w1; rw [← HWH.out hd0 hd1] at h; exact h
              clear hd0 hd1
              go_upto_region 13 with (first | (go_at_call 68; ((with_reducible refine (Calls.kept_first (k3 _)).mono ?_); rintro e _ ⟨rfl, p, rfl⟩)) | (go_at_call 68; ((with_reducible refine (Calls.kept_of (k4 _)).mono ?_); rintro e _ ⟨rfl, p, rfl⟩)) | (go_at_call 58; ((with_reducible refine (Calls.kept_of (m1 _)).mono ?_); rintro e _ ⟨rfl, p, rfl⟩)) | fail)
              obtain ⟨g11, hg1⟩ : ∃ g, p.wd.heap.size = g := ⟨_, rfl⟩
              have hbb := Blk.new_at p.wd 23 #[.int .i64 x0, .int .i64 y0] hg1
              have hn1 := p.since.alloc (.cells #[.int .i64 x0, .int .i64 y0] 23)
              rw [hg1]
              generalize p.wd.alloc (.cells #[.int .i64 x0, .int .i64 y0] 23) = w11 at hbb hn1 ⊢
              clear hg1
              have HM := Lib.hid hn1
              have HB11 := Lib.hid hbb
              have qq0 := fun p : KeptW w11 => (HF2.out p.wd (HM.out.tr p.since)).2.1.cell 0
              have qq1 := fun p : KeptW w11 => (HF2.out p.wd (HM.out.tr p.since)).2.1.cell 1
              have qq2 := fun p : KeptW w11 => (HF2.out p.wd (HM.out.tr p.since)).2.1.cell 2
              have zz0 := qq0 ⟨w11, Kp.refl _ _⟩
              have zz1 := qq1 ⟨w11, Kp.refl _ _⟩
              have zz2 := qq2 ⟨w11, Kp.refl _ _⟩
              clear hbb hn1 q0 z0 q1 z1 q2 z2 q3 z3 q4 z4 q5 z5 q6 z6 q7 z7 q8 z8
              go_upto_region 14 with (first | (go_at_call 58; ((with_reducible refine (Calls.kept_first (m2 _)).mono ?_); rintro e _ ⟨rfl, p, rfl⟩)) | fail)
              have hbb1 := (HB11.out.kept p).alloc (.cells #[.int .i64 x1, .int .i64 y1] 23)
              obtain ⟨g13, hg1⟩ : ∃ g, p.wd.heap.size = g := ⟨_, rfl⟩
              have hbb := Blk.new_at p.wd 23 #[.int .i64 x1, .int .i64 y1] hg1
              have hn1 := p.since.alloc (.cells #[.int .i64 x1, .int .i64 y1] 23)
              rw [hg1]
              generalize p.wd.alloc (.cells #[.int .i64 x1, .int .i64 y1] 23) = w13 at hbb hn1 hbb1 ⊢
              clear hg1
              have HM3 := Lib.hid (HM.out.tr hn1)
              obtain ⟨y0, y1, _, _⟩ := hbb.two
              obtain ⟨y2, y3, _, _⟩ := hbb1.two
              clear hbb hbb1 hn1
              go_wp2_with (first | (go_at_call 36; ((with_reducible refine (Calls.kept_first (m3 _)).mono ?_); rintro e _ ⟨rfl, p, rfl⟩)) | fail)
              go_ret
              exact ⟨by simp, by first | exact ((((((nw_alloc _ _).alloc _).alloc _).tr HN1.out).tr HNP.out).tr HM3.out).tr p.since | exact (((((nw_alloc _ _).alloc _).alloc _).tr HN1.out).tr HNP.out).tr HM3.out⟩
            · have m1 : ∀ w1, Calls Try.prog 58 #[pV x0 y0 d0] w1 fun e w' => e = .returned (.tuple #[vV x0 y0, .bool true]) ∧ Nw w1 w' := fun w1 => by have h := m1 w1; rw [if_pos (by simp [hd0])] at h; exact h
              have m2 : ∀ w1, Calls Try.prog 58 #[pV x1 y1 d1] w1 fun e w' => e = .returned (.tuple #[vV 0 0, .bool false]) ∧ Nw w1 w' := fun w1 => by have h := m2 w1; rw [if_neg (by simp [hd1])] at h; exact h
              clear hd0 hd1
              go_upto_region 13 with (first | (go_at_call 68; ((with_reducible refine (Calls.kept_first (k3 _)).mono ?_); rintro e _ ⟨rfl, p, rfl⟩)) | (go_at_call 68; ((with_reducible refine (Calls.kept_of (k4 _)).mono ?_); rintro e _ ⟨rfl, p, rfl⟩)) | (go_at_call 58; ((with_reducible refine (Calls.kept_of (m1 _)).mono ?_); rintro e _ ⟨rfl, p, rfl⟩)) | fail)
              obtain ⟨g11, hg1⟩ : ∃ g, p.wd.heap.size = g := ⟨_, rfl⟩
              have hbb := Blk.new_at p.wd 23 #[.int .i64 x0, .int .i64 y0] hg1
              have hn1 := p.since.alloc (.cells #[.int .i64 x0, .int .i64 y0] 23)
              rw [hg1]
              generalize p.wd.alloc (.cells #[.int .i64 x0, .int .i64 y0] 23) = w11 at hbb hn1 ⊢
              clear hg1
              have HM := Lib.hid hn1
              have HB11 := Lib.hid hbb
              have qq0 := fun p : KeptW w11 => (HF2.out p.wd (HM.out.tr p.since)).2.1.cell 0
              have qq1 := fun p : KeptW w11 => (HF2.out p.wd (HM.out.tr p.since)).2.1.cell 1
              have qq2 := fun p : KeptW w11 => (HF2.out p.wd (HM.out.tr p.since)).2.1.cell 2
              have zz0 := qq0 ⟨w11, Kp.refl _ _⟩
              have zz1 := qq1 ⟨w11, Kp.refl _ _⟩
              have zz2 := qq2 ⟨w11, Kp.refl _ _⟩
              clear hbb hn1 q0 z0 q1 z1 q2 z2 q3 z3 q4 z4 q5 z5 q6 z6 q7 z7 q8 z8
              go_upto_region 14 with (first | (go_at_call 58; ((with_reducible refine (Calls.kept_first (m2 _)).mono ?_); rintro e _ ⟨rfl, p, rfl⟩)) | fail)
              have hbb1 := (HB11.out.kept p).alloc (.cells #[.int .i64 0, .int .i64 0] 23)
              obtain ⟨g13, hg1⟩ : ∃ g, p.wd.heap.size = g := ⟨_, rfl⟩
              have hbb := Blk.new_at p.wd 23 #[.int .i64 0, .int .i64 0] hg1
              have hn1 := p.since.alloc (.cells #[.int .i64 0, .int .i64 0] 23)
              rw [hg1]
              generalize p.wd.alloc (.cells #[.int .i64 0, .int .i64 0] 23) = w13 at hbb hn1 hbb1 ⊢
              clear hg1
              have HM3 := Lib.hid (HM.out.tr hn1)
              obtain ⟨y0, y1, _, _⟩ := hbb.two
              obtain ⟨y2, y3, _, _⟩ := hbb1.two
              clear hbb hbb1 hn1
              go_wp2_with (first | (go_at_call 36; ((with_reducible refine (Calls.kept_first (m3 _)).mono ?_); rintro e _ ⟨rfl, p, rfl⟩)) | fail)
              go_ret
              exact ⟨by simp, by first | exact ((((((nw_alloc _ _).alloc _).alloc _).tr HN1.out).tr HNP.out).tr HM3.out).tr p.since | exact (((((nw_alloc _ _).alloc _).alloc _).tr HN1.out).tr HNP.out).tr HM3.out⟩
          · have m1 : ∀ w1, Calls Try.prog 58 #[pV x0 y0 d0] w1 fun e w' => e = .returned (.tuple #[vV 0 0, .bool false]) ∧ Nw w1 w' := fun w1 => by have h := m1 w1; rw [if_neg (by simp [hd0])] at h; exact h
            obtain ⟨wx, wy, ok, hwo⟩ : ∃ wx wy ok, (if (d1 == 1) = true then Value.tuple #[vV x1 y1, .bool true] else .tuple #[vV 0 0, .bool false]) = .tuple #[vV wx wy, .bool ok] := by
              split
              · exact ⟨_, _, _, rfl⟩
              · exact ⟨_, _, _, rfl⟩
            rw [hwo] at m2
            clear hd0 hwo
            go_upto_region 13 with (first | (go_at_call 68; ((with_reducible refine (Calls.kept_first (k3 _)).mono ?_); rintro e _ ⟨rfl, p, rfl⟩)) | (go_at_call 68; ((with_reducible refine (Calls.kept_of (k4 _)).mono ?_); rintro e _ ⟨rfl, p, rfl⟩)) | (go_at_call 58; ((with_reducible refine (Calls.kept_of (m1 _)).mono ?_); rintro e _ ⟨rfl, p, rfl⟩)) | fail)
            obtain ⟨g11, hg1⟩ : ∃ g, p.wd.heap.size = g := ⟨_, rfl⟩
            have hbb := Blk.new_at p.wd 23 #[.int .i64 0, .int .i64 0] hg1
            have hn1 := p.since.alloc (.cells #[.int .i64 0, .int .i64 0] 23)
            rw [hg1]
            generalize p.wd.alloc (.cells #[.int .i64 0, .int .i64 0] 23) = w11 at hbb hn1 ⊢
            clear hg1
            have HM := Lib.hid hn1
            have HB11 := Lib.hid hbb
            have qq0 := fun p : KeptW w11 => (HF2.out p.wd (HM.out.tr p.since)).2.1.cell 0
            have qq1 := fun p : KeptW w11 => (HF2.out p.wd (HM.out.tr p.since)).2.1.cell 1
            have qq2 := fun p : KeptW w11 => (HF2.out p.wd (HM.out.tr p.since)).2.1.cell 2
            have zz0 := qq0 ⟨w11, Kp.refl _ _⟩
            have zz1 := qq1 ⟨w11, Kp.refl _ _⟩
            have zz2 := qq2 ⟨w11, Kp.refl _ _⟩
            clear hbb hn1 q0 z0 q1 z1 q2 z2 q3 z3 q4 z4 q5 z5 q6 z6 q7 z7 q8 z8
            go_upto_region 14 with (first | (go_at_call 58; ((with_reducible refine (Calls.kept_first (m2 _)).mono ?_); rintro e _ ⟨rfl, p, rfl⟩)) | fail)
            have hbb1 := (HB11.out.kept p).alloc (.cells #[.int .i64 wx, .int .i64 wy] 23)
            obtain ⟨g13, hg1⟩ : ∃ g, p.wd.heap.size = g := ⟨_, rfl⟩
            have hbb := Blk.new_at p.wd 23 #[.int .i64 wx, .int .i64 wy] hg1
            have hn1 := p.since.alloc (.cells #[.int .i64 wx, .int .i64 wy] 23)
            rw [hg1]
            generalize p.wd.alloc (.cells #[.int .i64 wx, .int .i64 wy] 23) = w13 at hbb hn1 hbb1 ⊢
            clear hg1
            have HM3 := Lib.hid (HM.out.tr hn1)
            obtain ⟨y0, y1, _, _⟩ := hbb.two
            obtain ⟨y2, y3, _, _⟩ := hbb1.two
            clear hbb hbb1 hn1
            go_wp2_with (first | (go_at_call 36; ((with_reducible refine (Calls.kept_first (m3 _)).mono ?_); rintro e _ ⟨rfl, p, rfl⟩)) | fail)
            go_ret
            exact ⟨by simp, by first | exact ((((((nw_alloc _ _).alloc _).alloc _).tr HN1.out).tr HNP.out).tr HM3.out).tr p.since | exact (((((nw_alloc _ _).alloc _).alloc _).tr HN1.out).tr HNP.out).tr HM3.out⟩

end Go.Proofs.Ytgmojgeclljajaa.W
