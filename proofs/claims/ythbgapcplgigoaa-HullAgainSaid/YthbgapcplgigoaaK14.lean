/-
  hull: Farthest and Width: what they return. Condition: the list is not longer than 2^40.
-/
import Derived.Test.YthbgapcplgigoaaK12
import Derived.Test.YthbgapcplgigoaaK13
namespace Go.Proofs.Ythbgapcplgigoaa.W
open Go.RowKit Go.Proofs.Ythbgapcplgigoaa.V Go.Proofs.Ythbgapcplgigoaa.G


def farC (dx dy ax ay bx bz : Int) : Int := if sgn (dotV ax ay dx dy - dotV bx bz dx dy) ≠ 0 then sgn (dotV ax ay dx dy - dotV bx bz dx dy) else cmpV bx bz ax ay
theorem farC_pos {d x m : Pt} (hd : Mid d) (hx : Mid x) (hm : Mid m) : 0 < farC d.1 d.2 x.1 x.2 m.1 m.2 ↔ dtP m d < dtP x d ∨ dtP x d = dtP m d ∧ LtP x m := by
  unfold farC
  rw [dot_mid hx hd, dot_mid hm hd]
  have hl : cmpV m.1 m.2 x.1 x.2 > 0 ↔ LtP x m := by
    unfold LtP
    rcases cmpV_cases m.1 m.2 x.1 x.2 with ⟨h, e⟩ | ⟨h, h', e⟩ | ⟨h, e⟩ <;> rw [e] <;> omega
  have s := sgn_cases (dtP x d - dtP m d)
  split <;> rename_i h
  · constructor
    · intro g; omega
    · rintro (g | ⟨g, _⟩) <;> omega
  · rw [show (0 < cmpV m.1 m.2 x.1 x.2) = (cmpV m.1 m.2 x.1 x.2 > 0) from rfl, hl]
    have : sgn (dtP x d - dtP m d) = 0 := Classical.byContradiction fun k => h k
    constructor
    · intro g; exact .inr ⟨by omega, g⟩
    · rintro (g | ⟨_, g⟩)
      · omega
      · exact g
theorem best_ok {d : Pt} {l : List Pt} (hs : allS l = true) (h0 : 0 < l.length) : ∀ k, k ≤ l.length → sOk (bestTo d l k) = true
  | 0, _ => allS_at hs h0
  | k + 1, hk => by
    show sOk (bestP d (bestTo d l k) (at_ l k)) = true
    unfold bestP
    split
    · exact allS_at hs (by omega)
    · exact best_ok hs h0 k (by omega)
def farQ (l : List Pt) (d : Pt) : Pt := if convB l && sOk d then farH d l else (0, 0)
def widQ (l : List Pt) (d : Pt) : Int := if convB l && sOk d then widH d l else 0
def errW (l : List Pt) (d : Pt) : Int := if convB l then (if sOk d then 0 else 2) else 11

set_option maxRecDepth 100000 in
set_option maxHeartbeats 12800000 in
theorem byDist_any (D : Nat) (dx dy ax ay bx bz : Int) (w : World) (hD : Blk w D 32 #[.int .i64 dx, .int .i64 dy]) : Calls Try.prog 43 #[vV ax ay, vV bx bz, .pointer (some ⟨D, 0, none⟩)] w fun e w' => e = .returned (.int .i64 (farC dx dy ax ay bx bz)) ∧ Nw w w' := by
  have hmix := mixed7
  have c1 := fun w1 => dot_any ax ay dx dy w1
  have c2 := fun w1 => dot_any bx bz dx dy w1
  have c4 := fun w1 => compare_nw bx bz ax ay w1
  unfold farC
  generalize dotV ax ay dx dy = d1 at *
  generalize dotV bx bz dx dy = d2 at *
  have c3 := fun w1 => compareInt_any d1 d2 w1
  generalize sgn (d1 - d2) = s at *
  generalize cmpV bx bz ax ay = t at *
  have hO := fun g w3 h0 h1 => or_any g s t w3 h0 h1
  generalize (if s ≠ 0 then s else t) = r at *
  obtain ⟨w3, hw3⟩ : ∃ W, (w.alloc (.cells #[.int .i64 ax, .int .i64 ay] 32)).alloc (.cells #[.int .i64 bx, .int .i64 bz] 32) = W := ⟨_, rfl⟩
  have HW3 := Lib.hid (show Nw w w3 by rw [← hw3]; exact (nw_alloc _ _).alloc _)
  have h3 : Blk w3 w.heap.size 32 #[.int .i64 ax, .int .i64 ay] := by rw [← hw3]; exact (Blk.new _ _ _).alloc _
  have h4 : Blk w3 (w.heap.size + 1) 32 #[.int .i64 bx, .int .i64 bz] := by rw [← hw3]; exact Blk.new_at _ _ _ (by simp)
  have h5 := hD.kp HW3.out id
  go_enter Try.func43, Try.ntmps43
  go_wp2_with fail
  obtain ⟨B3, hB3⟩ : ∃ x, w.heap.size = x := ⟨_, rfl⟩
  rw [hB3] at h3 h4 ⊢
  obtain ⟨B4, hB4⟩ : ∃ x, B3 + 1 = x := ⟨_, rfl⟩
  rw [hB4] at h4 ⊢
  have HP := Lib.hid (show ∀ w', Nw w3 w' → w'.cell? (⟨D, 0, none⟩ : Addr) = some (.int .i64 dx) ∧ w'.cell? (⟨D, 1, none⟩ : Addr) = some (.int .i64 dy) ∧ w'.cell? (⟨B3, 0, none⟩ : Addr) = some (.int .i64 ax) ∧ w'.cell? (⟨B3, 1, none⟩ : Addr) = some (.int .i64 ay) ∧ w'.cell? (⟨B4, 0, none⟩ : Addr) = some (.int .i64 bx) ∧ w'.cell? (⟨B4, 1, none⟩ : Addr) = some (.int .i64 bz) from fun w' h => by
    have a := h5.kp h id
    have b := h3.kp h id
    have c := h4.kp h id
    exact ⟨a.cell 0, a.cell 1, b.cell 0, b.cell 1, c.cell 0, c.cell 1⟩)
  clear hw3 h3 h4 h5 hD hB3 hB4
  go_region_held3 (fun w' : World => w'.cell? (⟨D, 0, none⟩ : Addr) = some (.int .i64 dx) ∧ w'.cell? (⟨D, 1, none⟩ : Addr) = some (.int .i64 dy) ∧ w'.cell? (⟨B3, 0, none⟩ : Addr) = some (.int .i64 ax) ∧ w'.cell? (⟨B3, 1, none⟩ : Addr) = some (.int .i64 ay) ∧ w'.cell? (⟨B4, 0, none⟩ : Addr) = some (.int .i64 bx) ∧ w'.cell? (⟨B4, 1, none⟩ : Addr) = some (.int .i64 bz))
    (first | ((refine HP.out _ ?_); (repeat (first | exact hb4 | exact hb2 | exact hb1 | exact Kp.refl _ _ | refine Kp.alloc ?_ _ | refine Kp.drew ?_))) | fail)
    (first
      | (go_at_call 46; ((with_reducible refine (c1 _).mono ?_); rintro e u1 ⟨rfl, hk1⟩; have hb1 : Nw w3 u1 := Kp.tr (by repeat (first | exact hb4 | exact hb2 | exact hb1 | exact Kp.refl _ _ | refine Kp.alloc ?_ _ | refine Kp.drew ?_)) hk1))
      | (go_at_call 46; ((with_reducible refine (c2 _).mono ?_); rintro e u2 ⟨rfl, hk2⟩; have hb2 : Nw w3 u2 := Kp.tr (by repeat (first | exact hb4 | exact hb2 | exact hb1 | exact Kp.refl _ _ | refine Kp.alloc ?_ _ | refine Kp.drew ?_)) hk2))
      | (go_at_call 45; ((with_reducible refine (c3 _).mono ?_); rintro e w5 ⟨rfl, rfl⟩))
      | (go_at_call 38; ((with_reducible refine (c4 _).mono ?_); rintro e u4 ⟨rfl, hk4⟩; have hb4 : Nw w3 u4 := Kp.tr (by repeat (first | exact hb4 | exact hb2 | exact hb1 | exact Kp.refl _ _ | refine Kp.alloc ?_ _ | refine Kp.drew ?_)) hk4))
      | (go_at_call 44; ((refine (hO _ _ ?_ ?_).mono ?_); (first | exact (Blk.new _ _ _).cell 0 | exact (Blk.new _ _ _).drew.cell 0); (first | exact (Blk.new _ _ _).cell 1 | exact (Blk.new _ _ _).drew.cell 1); rintro e w6 ⟨rfl, rfl⟩)))
  all_goals (go_wp2_with fail; go_ret; exact ⟨rfl, HW3.out.tr (by repeat (first | exact hb4 | exact hb2 | exact hb1 | exact Kp.refl _ _ | refine Kp.alloc ?_ _ | refine Kp.drew ?_))⟩)

set_option maxRecDepth 100000 in
set_option maxHeartbeats 6400000 in
theorem sMax_any (l : List (Int × Int)) (D : Nat) (dx dy : Int) (v : Value) (w : World) (hv : SrcV w v l) (hD : Blk w D 32 #[.int .i64 dx, .int .i64 dy]) (h0 : 0 < l.length) (hl : l.length ≤ 1099511627776) (hs : allS l = true) (hd : sOk (dx, dy) = true) :
    Calls Try.prog 47 #[v, .func (.func 43) #[] #[.pointer (some ⟨D, 0, none⟩)]] w fun e w' => e = .returned (vV (farH (dx, dy) l).1 (farH (dx, dy) l).2) ∧ Nw w w' := by
  have hmix := mixed7
  obtain ⟨A, c, rfl⟩ := hv.shape
  obtain ⟨n, hn⟩ : ∃ n, l.length = n := ⟨_, rfl⟩
  replace hv := src_n hv hn
  have HOK := Lib.hid (show ∀ k, k ≤ n → sOk (bestTo (dx, dy) l k) = true from fun k hk => best_ok hs h0 k (by rw [hn]; exact hk))
  rw [hn] at hl h0 ⊢
  have HV := Lib.hid hv
  have HN := Lib.hid hn
  have HSS := Lib.hid hs
  have HDD := Lib.hid hd
  have HDB := Lib.hid hD
  have hmx := src_max hv
  clear hv hn hs hd hD
  obtain ⟨⟨rx, ry⟩, hrx⟩ : ∃ x, farH (dx, dy) l = x := ⟨_, rfl⟩
  rw [hrx]
  have HR := Lib.hid (show bestTo (dx, dy) l n = (rx, ry) by rw [← hrx]; unfold farH; rw [HN.out])
  clear hrx
  have f1 : ¬ ((n : Int) < 1) := by omega
  have f2 : ((0 : Int) < (n : Int)) := by omega
  obtain ⟨g, o, rfl, hg, hc⟩ := src_at HV.out h0
  have HC := Lib.hid hc
  obtain ⟨y0, y1⟩ := (hc (w.alloc (.cells #[.int .i64 0, .int .i64 0] 32)) (nw_alloc _ _) 0 h0)
  rw [Nat.zero_mul, Nat.add_zero] at y0 y1
  obtain ⟨⟨ax, ay⟩, ha⟩ : ∃ p, at_ l 0 = p := ⟨_, rfl⟩
  rw [ha] at y0 y1
  have H0 := Lib.hid ha
  clear hc hg ha
  go_enter Try.func47, Try.ntmps47
  go_wp2_with fail
  obtain ⟨W0, hW0⟩ : ∃ W, (w.alloc (.cells #[.int .i64 0, .int .i64 0] 32)).alloc (.cells #[.int .i64 ax, .int .i64 ay] 32) = W := ⟨_, rfl⟩
  rw [hW0]
  have HW0 := Lib.hid (show Nw w W0 by rw [← hW0]; exact (nw_alloc _ _).alloc _)
  have HM0 := Lib.hid (show Blk W0 (w.heap.size + 1) 32 #[.int .i64 ax, .int .i64 ay] by rw [← hW0]; exact Blk.new_at _ _ _ (by simp))
  have HZ0 := Lib.hid (show Blk W0 w.heap.size 32 #[.int .i64 0, .int .i64 0] by rw [← hW0]; exact (Blk.new _ _ _).alloc _)
  obtain ⟨M, hM⟩ : ∃ M, w.heap.size + 1 = M := ⟨_, rfl⟩
  obtain ⟨R, hR⟩ : ∃ M, w.heap.size = M := ⟨_, rfl⟩
  rw [hM] at HM0 ⊢
  rw [hR] at HZ0 ⊢
  have HMR := Lib.hid (show w.heap.size ≤ R ∧ w.heap.size ≤ M ∧ R ≠ M by omega)
  clear hW0 hM hR y0 y1 f1
  go_loopw [6] (fun i wr => ∃ k : Nat, i = .int .i64 k ∧ 1 ≤ k ∧ k ≤ n ∧ Blk wr M 32 #[.int .i64 (bestTo (dx, dy) l k).1, .int .i64 (bestTo (dx, dy) l k).2] ∧ Blk wr R 32 #[.int .i64 0, .int .i64 0] ∧ Nw w wr) (fun i _ => n - (intOf i).toNat)
  case atStart =>
    refine ⟨1, rfl, Nat.le_refl _, h0, ?_, HZ0.out, HW0.out⟩
    rw [best_one, H0.out]
    exact HM0.out
  case round =>
    obtain ⟨k, rfl, hk1, hk, hm, hz, hnw⟩ := hrel
    obtain ⟨⟨mx, my⟩, hmm⟩ : ∃ p, bestTo (dx, dy) l k = p := ⟨_, rfl⟩
    rw [hmm] at hm
    have HM := Lib.hid hm
    have HZ := Lib.hid hz
    have HMM := Lib.hid hmm
    clear hm hz hmm
    have HK := Lib.hid hnw
    clear hnw
    by_cases hkn : k < n
    · have i0 : (0 : Int) ≤ (k : Int) := by omega
      have i1 : (k : Int) < (n : Int) := by omega
      obtain ⟨s4, hs4⟩ : ∃ s : Nat, k + 1 = s := ⟨_, rfl⟩
      have a4 : IntKind.i64.wrap ((k : Int) + 1) = (s4 : Int) := by rw [IntKind.wrap_i64]; omega
      have H4 := Lib.hid hs4
      obtain ⟨⟨bx, bz⟩, hb⟩ : ∃ p, at_ l k = p := ⟨_, rfl⟩
      have q0 := fun p : KeptW wr => (HC.out p.wd (HK.out.tr p.since) k hkn).1
      have q1 := fun p : KeptW wr => (HC.out p.wd (HK.out.tr p.since) k hkn).2
      have q2 := fun p : KeptW wr => (HM.out.kept p).cell 0
      have q3 := fun p : KeptW wr => (HM.out.kept p).cell 1
      rw [hb] at q0 q1
      have HB := Lib.hid hb
      have cc := fun (p : KeptW wr) => byDist_any D dx dy bx bz mx my p.wd (HDB.out.kp (HK.out.tr p.since) id)
      have hls := farC_pos (d := (dx, dy)) (x := (bx, bz)) (m := (mx, my)) (sOk_mid HDD.out) (sOk_mid (by rw [← hb]; exact allS_at HSS.out (by rw [HN.out]; exact hkn))) (sOk_mid (by rw [← HMM.out]; exact HOK.out k hk))
      simp only at hls
      obtain ⟨r, hr⟩ : ∃ r, farC dx dy bx bz mx my = r := ⟨_, rfl⟩
      rw [hr] at cc hls
      have hst : bestTo (dx, dy) l (k + 1) = if 0 < r then (bx, bz) else (mx, my) := by
        show bestP (dx, dy) (bestTo (dx, dy) l k) (at_ l k) = _
        rw [hb, HMM.out]
        unfold bestP
        by_cases h : 0 < r
        · rw [if_pos h, if_pos (hls.1 h)]
        · rw [if_neg h, if_neg (fun e => h (hls.2 e))]
      have HST := Lib.hid hst
      clear hs4 hb hr hls hst
      by_cases g0 : 0 < r
      · have f0 : decide (r > 0) = true := decide_eq_true g0
        have HF := Lib.hid g0
        clear g0
        go_wp2_with fail
        refine wp_region_kept (Kp.refl _ _) (by assumption) (by kernel_rfl) ?_
        repeat (with_reducible refine wpQuiet_step (fun K hK => ?_); go_simp; first | ((with_reducible refine hK _ ?_); clear hK K) | (with_reducible apply Exists.intro; (with_reducible refine ⟨fun _ => ?_, hK _ ?_⟩); ((first | (go_at_call 43; with_reducible exact Calls.kept_of (cc _)) | fail)); clear hK K) | (simp only [undef, reduceCtorEq, if_false]; (with_reducible refine hK _ ?_); clear hK K))
        with_reducible refine wpQuiet_nil ?_
        rintro _ ⟨p, rfl⟩
        have z0 := q0 p
        have z1 := q1 p
        have HMP := Lib.hid (HM.out.kept p)
        have HZP := Lib.hid (HZ.out.kept p)
        have HKP := Lib.hid (HK.out.tr p.since)
        obtain ⟨m0, m1, fz0, fz1⟩ := HMP.out.two
        generalize p.wd = wp at z0 z1 HMP HZP HKP m0 m1 fz0 fz1 ⊢
        clear q0 q1 q2 q3
        go_wp2_with fail
        go_roundw
        case rel =>
          refine ⟨k + 1, by rw [← H4.out], by omega, by omega, ?_, ?_, ?_⟩
          · rw [HST.out, if_pos HF.out]
            exact HMP.out.lay2 _ _
          · exact HZP.out.far2 HMR.out.2.2 _ _
          · exact HKP.out.new2 HMR.out.2.1 _ _
        case measure => (have := H4.out; simp [intOf]; try omega)
      · have f0 : decide (r > 0) = false := decide_eq_false g0
        have HF := Lib.hid g0
        clear g0
        go_wp2_with fail
        refine wp_region_kept (Kp.refl _ _) (by assumption) (by kernel_rfl) ?_
        repeat (with_reducible refine wpQuiet_step (fun K hK => ?_); go_simp; first | ((with_reducible refine hK _ ?_); clear hK K) | (with_reducible apply Exists.intro; (with_reducible refine ⟨fun _ => ?_, hK _ ?_⟩); ((first | (go_at_call 43; with_reducible exact Calls.kept_of (cc _)) | fail)); clear hK K) | (simp only [undef, reduceCtorEq, if_false]; (with_reducible refine hK _ ?_); clear hK K))
        with_reducible refine wpQuiet_nil ?_
        rintro _ ⟨p, rfl⟩
        go_wp2_with fail
        go_roundw
        case rel =>
          refine ⟨k + 1, by rw [← H4.out], by omega, by omega, ?_, HZ.out.kept p, HK.out.tr p.since⟩
          rw [HST.out, if_neg (Int.not_lt.2 HF.out)]
          exact HM.out.kept p
        case measure => (have := H4.out; simp [intOf]; try omega)
    · obtain rfl : k = n := by omega
      have i5 : ¬ ((k : Int) < (k : Int)) := by omega
      obtain ⟨z0, z1, fz0, fz1⟩ := HM.out.two
      obtain ⟨y0, y1, gz0, gz1⟩ := HZ.out.two
      go_wp2_with fail
      have hl2 := HZ.out.lay2 (.int .i64 mx) (.int .i64 my)
      have x0 := hl2.cell 0
      have x1 := hl2.cell 1
      have hrr : mx = rx ∧ my = ry := by
        have h := HMM.out
        rw [HR.out] at h
        injection h with e1 e2
        exact ⟨e1.symm, e2.symm⟩
      exact bodyPost_ret (v := vV mx my) (by simp [results, Try.results47, go_sem, x0, x1]) rfl ⟨by rw [hrr.1, hrr.2], HK.out.new2 HMR.out.1 _ _⟩

set_option maxRecDepth 100000 in
set_option maxHeartbeats 6400000 in
theorem far_any (l : List (Int × Int)) (dx dy : Int) (v : Value) (w : World) (hv : SrcV w v l) (hl : l.length ≤ 1099511627776)  : Calls Try.prog 15 #[v, vV dx dy] w fun e w' => e = .returned (.tuple #[vV (farQ l (dx, dy)).1 (farQ l (dx, dy)).2, .int .i64 (errW l (dx, dy))]) ∧ Nw w w' := by
  obtain ⟨A, c, rfl⟩ := hv.shape
  obtain ⟨n, hn⟩ : ∃ n, l.length = n := ⟨_, rfl⟩
  replace hv := src_n hv hn
  rw [hn] at hl ⊢
  have HV := Lib.hid hv
  have HN := Lib.hid hn
  have hmx := src_max hv
  clear hv hn
  have hmix := mixed7
  have cv := fun w1 (h : SrcV w1 (.slice A n c) l) => conv_any l (.slice A n c) w1 h (by rw [HN.out]; exact hl)
  have cw := fun w1 => within_any dx dy 8000 w1
  obtain ⟨cb, hcb⟩ : ∃ b, convB l = b := ⟨_, rfl⟩
  obtain ⟨wb, hwb⟩ : ∃ b, sOk (dx, dy) = b := ⟨_, rfl⟩
  have hwb2 : withinV dx dy 8000 = wb := hwb
  rw [hcb] at cv
  rw [hwb2] at cw
  have HCB := Lib.hid hcb
  have HWI := Lib.hid hwb
  have HSV := Lib.hid (src_v HV.out HN.out)
  obtain ⟨⟨rx, ry⟩, hres⟩ : ∃ r, farQ l (dx, dy) = r := ⟨_, rfl⟩
  obtain ⟨er, her⟩ : ∃ r, errW l (dx, dy) = r := ⟨_, rfl⟩
  rw [hres, her]
  unfold farQ at hres
  unfold errW at her
  rw [hcb, hwb] at hres her
  clear hcb hwb hwb2
  obtain ⟨W0, hW0⟩ : ∃ W, (w.alloc (.cells #[.int .i64 dx, .int .i64 dy] 32)).alloc (.cells #[.int .i64 0, .int .i64 0] 32) = W := ⟨_, rfl⟩
  have HW0 := Lib.hid (show Nw w W0 by rw [← hW0]; exact (nw_alloc _ _).alloc _)
  have HD0 := Lib.hid (show Blk W0 w.heap.size 32 #[.int .i64 dx, .int .i64 dy] by rw [← hW0]; exact (Blk.new _ _ _).alloc _)
  have HR0 := Lib.hid (show Blk W0 (w.heap.size + 1) 32 #[.int .i64 0, .int .i64 0] by rw [← hW0]; exact Blk.new_at _ _ _ (by simp))
  go_enter Try.func15, Try.ntmps15
  go_wp2_with fail
  refine (cv _ (HSV.out.nw HW0.out)).mono ?_
  rintro e w5 ⟨rfl, hk5⟩
  obtain ⟨D, hD⟩ : ∃ x, w.heap.size = x := ⟨_, rfl⟩
  rw [hD] at HD0 HR0 ⊢
  obtain ⟨R, hR⟩ : ∃ x, D + 1 = x := ⟨_, rfl⟩
  rw [hR] at HR0 ⊢
  have HSZ := Lib.hid (show w.heap.size = D ∧ D + 1 = R from ⟨hD, hR⟩)
  have HD5 := Lib.hid (HD0.out.kp hk5 id)
  have HR5 := Lib.hid (HR0.out.kp hk5 id)
  have HK5 := Lib.hid (HW0.out.tr hk5)
  clear hk5 hW0 hD hR cv
  obtain ⟨r0, r1, g0, g1⟩ := HR5.out.two
  obtain ⟨z0, z1, _, _⟩ := HD5.out.two
  cases cb
  · obtain rfl : er = 11 := her.symm
    obtain ⟨rfl, rfl⟩ : rx = 0 ∧ ry = 0 := by injection hres with e1 e2; exact ⟨e1.symm, e2.symm⟩
    go_wp2_with fail
    have hb := HR5.out.lay2 (.int .i64 0) (.int .i64 0)
    have x0 := hb.cell 0
    have x1 := hb.cell 1
    exact bodyPost_ret (v := .tuple #[vV 0 0, .int .i64 11]) (by simp [results, Try.results15, go_sem, x0, x1]) rfl ⟨rfl, HK5.out.new2 (by have := HSZ.out; omega) _ _⟩
  go_wp2_with fail
  refine (cw _).mono ?_
  rintro e w6 ⟨rfl, hk6⟩
  have HD6 := Lib.hid (HD5.out.kp hk6 id)
  have HR6 := Lib.hid (HR5.out.kp hk6 id)
  have HK6 := Lib.hid (HK5.out.tr hk6)
  clear r0 r1 g0 g1 z0 z1 hk6
  obtain ⟨r0, r1, g0, g1⟩ := HR6.out.two
  cases wb
  · obtain rfl : er = 2 := her.symm
    obtain ⟨rfl, rfl⟩ : rx = 0 ∧ ry = 0 := by injection hres with e1 e2; exact ⟨e1.symm, e2.symm⟩
    go_wp2_with fail
    have hb := HR6.out.lay2 (.int .i64 0) (.int .i64 0)
    have x0 := hb.cell 0
    have x1 := hb.cell 1
    exact bodyPost_ret (v := .tuple #[vV 0 0, .int .i64 2]) (by simp [results, Try.results15, go_sem, x0, x1]) rfl ⟨rfl, HK6.out.new2 (by have := HSZ.out; omega) _ _⟩
  obtain rfl : er = 0 := her.symm
  have hcv := convB_iff.1 HCB.out
  have cm := sMax_any l D dx dy (.slice A n c) w6 (HSV.out.nw HK6.out) HD6.out (by have := hcv.2.1; omega) (by rw [HN.out]; exact hl) hcv.1.2 HWI.out
  have hres2 : farH (dx, dy) l = (rx, ry) := hres
  rw [hres2] at cm
  clear hres hres2 hcv
  go_wp2_with fail
  refine cm.mono ?_
  rintro e w7 ⟨rfl, hk7⟩
  clear r0 r1 g0 g1
  have HR7 := Lib.hid (HR6.out.kp hk7 id)
  obtain ⟨r0, r1, g0, g1⟩ := HR7.out.two
  go_wp2_with fail
  have hb := HR7.out.lay2 (.int .i64 rx) (.int .i64 ry)
  have x0 := hb.cell 0
  have x1 := hb.cell 1
  exact bodyPost_ret (v := .tuple #[vV rx ry, .int .i64 0]) (by simp [results, Try.results15, go_sem, x0, x1]) rfl ⟨rfl, (HK6.out.tr hk7).new2 (by have := HSZ.out; omega) _ _⟩

set_option maxRecDepth 100000 in
set_option maxHeartbeats 6400000 in
theorem wid_any (l : List (Int × Int)) (dx dy : Int) (v : Value) (w : World) (hv : SrcV w v l) (hl : l.length ≤ 1099511627776)  : Calls Try.prog 17 #[v, vV dx dy] w fun e w' => e = .returned (.tuple #[.int .i64 (widQ l (dx, dy)), .int .i64 (errW l (dx, dy))]) ∧ Nw w w' := by
  obtain ⟨A, c, rfl⟩ := hv.shape
  obtain ⟨n, hn⟩ : ∃ n, l.length = n := ⟨_, rfl⟩
  replace hv := src_n hv hn
  rw [hn] at hl ⊢
  have HV := Lib.hid hv
  have HN := Lib.hid hn
  have hmx := src_max hv
  clear hv hn
  have hmix := mixed7
  have HSV := Lib.hid (src_v HV.out HN.out)
  have cf := fun w1 (h : SrcV w1 (.slice A n c) l) => far_any l dx dy (.slice A n c) w1 h (by rw [HN.out]; exact hl)
  have cg := fun w1 (h : SrcV w1 (.slice A n c) l) => far_any l (w64 (-dx)) (w64 (-dy)) (.slice A n c) w1 h (by rw [HN.out]; exact hl)
  have cn := fun w1 => neg_any dx dy w1
  obtain ⟨er, her⟩ : ∃ r, errW l (dx, dy) = r := ⟨_, rfl⟩
  obtain ⟨res, hres⟩ : ∃ r, widQ l (dx, dy) = r := ⟨_, rfl⟩
  obtain ⟨⟨lx, ly⟩, hlx⟩ : ∃ r, farQ l (dx, dy) = r := ⟨_, rfl⟩
  rw [her, hlx] at cf
  rw [her, hres]
  obtain ⟨W0, hW0⟩ : ∃ W, w.alloc (.cells #[.int .i64 dx, .int .i64 dy] 32) = W := ⟨_, rfl⟩
  have HW0 := Lib.hid (show Nw w W0 by rw [← hW0]; exact nw_alloc _ _)
  have HD0 := Lib.hid (show Blk W0 w.heap.size 32 #[.int .i64 dx, .int .i64 dy] by rw [← hW0]; exact Blk.new _ _ _)
  obtain ⟨y0, y1, _, _⟩ := HD0.out.two
  by_cases h0 : er = 0
  · obtain ⟨hcb, hwb⟩ : convB l = true ∧ sOk (dx, dy) = true := by
      unfold errW at her
      cases h1 : convB l
      · rw [h1] at her; simp at her; omega
      · cases h2 : sOk (dx, dy)
        · rw [h1, h2] at her; simp at her; omega
        · exact ⟨rfl, rfl⟩
    have hdm := sOk_iff.1 hwb
    have hn2 : w64 (-dx) = -dx ∧ w64 (-dy) = -dy := ⟨w64_id ⟨by omega, by omega⟩, w64_id ⟨by omega, by omega⟩⟩
    rw [hn2.1, hn2.2] at cn cg
    have hng : sOk (-dx, -dy) = true := sOk_iff.2 ⟨by omega, by omega, by omega, by omega⟩
    have heg : errW l (-dx, -dy) = 0 := by unfold errW; rw [hcb, hng]; rfl
    rw [heg] at cg
    have h3 := (convB_iff.1 hcb).2.1
    have hs := (convB_iff.1 hcb).1.2
    have hwf := widH_far (d := (dx, dy)) (l := l) (by omega)
    have e1 : farQ l (dx, dy) = farH (dx, dy) l := by unfold farQ; rw [hcb, hwb]; rfl
    have e2 : farQ l (-dx, -dy) = farH (ngP (dx, dy)) l := by unfold farQ; rw [hcb, hng]; rfl
    have e3 : widQ l (dx, dy) = widH (dx, dy) l := by unfold widQ; rw [hcb, hwb]; rfl
    rw [← e1, ← e2, ← e3] at hwf
    have o1 : sOk (farQ l (dx, dy)) = true := by rw [e1]; exact allS_iff.1 hs _ (farH_far (by omega)).mem
    have o2 : sOk (farQ l (-dx, -dy)) = true := by rw [e2]; exact allS_iff.1 hs _ (farH_far (by omega)).mem
    obtain ⟨⟨fx, fy⟩, hfx⟩ : ∃ r, farQ l (-dx, -dy) = r := ⟨_, rfl⟩
    rw [hfx] at cg hwf o2
    rw [hlx] at hwf o1
    rw [hres] at hwf
    have c1 := fun w1 => sub_any lx ly fx fy w1
    have hss := sub_small o1 o2
    simp only at hss
    rw [hss.1, hss.2] at c1
    have c2 := fun w1 => dot_any dx dy (lx - fx) (ly - fy) w1
    have hdt : dotV dx dy (lx - fx) (ly - fy) = res := by
      have m1 : Mid (dx, dy) := sOk_mid hwb
      have m2 : Mid (lx - fx, ly - fy) := by
        rw [sOk_iff] at o1 o2
        unfold Mid
        simp only at o1 o2 ⊢
        omega
      have := dot_mid m1 m2
      simp only at this
      rw [this]
      exact hwf.1.symm
    rw [hdt] at c2
    subst h0
    generalize lx - fx = x1 at *
    generalize ly - fy = x2 at *
    clear her hres hlx hcb hwb hdm hn2 hng heg h3 hs hwf e1 e2 e3 o1 o2 hfx hss hdt
    go_enter Try.func17, Try.ntmps17
    go_wp2_with fail
    refine (cf _ (HSV.out.nw HW0.out)).mono ?_
    rintro e w5 ⟨rfl, hk5⟩
    clear y0 y1
    obtain ⟨D, hD⟩ : ∃ x, w.heap.size = x := ⟨_, rfl⟩
    rw [hD] at HD0 ⊢
    clear hD hW0
    have HK5 := Lib.hid (HW0.out.tr hk5)
    have HD5 := Lib.hid (HD0.out.kp hk5 id)
    clear hk5
    go_upto_region 2 with fail
    generalize hwb : World.alloc _ (.cells #[.int .i64 lx, .int .i64 ly] _) = w6
    have HK6 := Lib.hid (show Nw w5 w6 by rw [← hwb]; exact nw_alloc _ _)
    have HL6 := Lib.hid (show Blk w6 w5.heap.size 32 #[.int .i64 lx, .int .i64 ly] by rw [← hwb]; exact Blk.new _ _ _)
    obtain ⟨z0, z1, _, _⟩ := (HD5.out.kp HK6.out id).two
    clear hwb
    go_wp2_with fail
    refine (cn _).mono ?_
    rintro e w7 ⟨rfl, hk7⟩
    clear z0 z1
    have HK7 := Lib.hid (HK6.out.tr hk7)
    have HL7 := Lib.hid (HL6.out.kp hk7 id)
    clear hk7
    go_wp2_with fail
    refine (cg _ (HSV.out.nw (HK5.out.tr HK7.out))).mono ?_
    rintro e w8 ⟨rfl, hk8⟩
    have HK8 := Lib.hid (HK7.out.tr hk8)
    have HL8 := Lib.hid (HL7.out.kp hk8 id)
    clear hk8
    go_upto_region 5 with fail
    generalize hwb : World.alloc _ (.cells #[.int .i64 fx, .int .i64 fy] _) = w9
    have HK9 := Lib.hid (show Nw w8 w9 by rw [← hwb]; exact nw_alloc _ _)
    have HF9 := Lib.hid (show Blk w9 w8.heap.size 32 #[.int .i64 fx, .int .i64 fy] by rw [← hwb]; exact Blk.new _ _ _)
    clear hwb
    have q0 := fun p : KeptW w9 => (HD5.out.kp (HK8.out.tr (HK9.out.tr p.since)) id).cell 0
    have q1 := fun p : KeptW w9 => (HD5.out.kp (HK8.out.tr (HK9.out.tr p.since)) id).cell 1
    have q2 := fun p : KeptW w9 => (HL8.out.kp (HK9.out.tr p.since) id).cell 0
    have q3 := fun p : KeptW w9 => (HL8.out.kp (HK9.out.tr p.since) id).cell 1
    have q4 := fun p : KeptW w9 => (HF9.out.kept p).cell 0
    have q5 := fun p : KeptW w9 => (HF9.out.kept p).cell 1
    refine wp_region_kept (Kp.refl _ _) (by assumption) (by kernel_rfl) ?_
    repeat (with_reducible refine wpQuiet_step (fun K hK => ?_); go_simp; first | ((with_reducible refine hK _ ?_); clear hK K) | (with_reducible apply Exists.intro; (with_reducible refine ⟨fun _ => ?_, hK _ ?_⟩); ((first | (go_at_call 50; with_reducible exact Calls.kept_of (c1 _)) | (go_at_call 46; with_reducible exact Calls.kept_of (c2 _)) | fail)); clear hK K) | (simp only [undef, reduceCtorEq, if_false]; (with_reducible refine hK _ ?_); clear hK K))
    with_reducible refine wpQuiet_nil ?_
    rintro _ ⟨p, rfl⟩
    go_wp2_with fail
    go_ret2
    exact ⟨rfl, HK5.out.tr (HK8.out.tr (HK9.out.tr p.since))⟩
  · obtain rfl : res = 0 := by
      rw [← hres]
      unfold widQ
      rw [if_neg]
      intro h
      rw [Bool.and_eq_true] at h
      unfold errW at her
      rw [h.1, h.2] at her
      exact h0 her.symm
    have e0 : (er != 0) = true := by simp [h0]
    clear hres hlx her h0
    go_enter Try.func17, Try.ntmps17
    go_wp2_with fail
    refine (cf _ (HSV.out.nw HW0.out)).mono ?_
    rintro e w5 ⟨rfl, hk5⟩
    go_wp2_with fail
    go_ret2
    exact ⟨rfl, (HW0.out.tr hk5).alloc _⟩

end Go.Proofs.Ythbgapcplgigoaa.W
