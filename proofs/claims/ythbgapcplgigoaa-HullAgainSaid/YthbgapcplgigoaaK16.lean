/-
  hull: the document's example holds: awake returns true. No condition.
  hull: has of the statements, collinear of the reference. Condition: the list is not longer than 2^40.
  hull, plain: what Hull returns for lists of few points. No condition but those that stand.
-/
import Derived.Test.YthbgapcplgigoaaK14
import Derived.Test.YthbgapcplgigoaaK15
import Derived.Test.YthbgapcplgigoaaK09
import Derived.Test.YthbgapcplgigoaaK05
import Derived.Test.YthbgapcplgigoaaK10
namespace Go.Proofs.Ythbgapcplgigoaa.W
open Go.RowKit Go.Proofs.Ythbgapcplgigoaa.V Go.Proofs.Ythbgapcplgigoaa.G


def awL : List Pt := [(0, 0), (2, 0), (1, 1), (2, 2), (0, 2), (1, 0)]
def sqA : List Pt := [(0, 0), (2, 0), (2, 2), (0, 2)]
theorem aw_hull : hullH awL = (sqA, 0) := by decide +kernel
theorem aw_conv : convB sqA = true := by decide +kernel
theorem aw_wid : widQ sqA (1, 1) = 4 := by decide +kernel
theorem aw_errW : errW sqA (1, 1) = 0 := by decide +kernel
theorem aw_dia : diaQ sqA = 8 := by decide +kernel
theorem aw_errQ : errQ sqA = 0 := by decide +kernel

set_option maxRecDepth 100000 in
set_option maxHeartbeats 6400000 in
theorem awakeH_any (w : World) : Calls Try.prog 10 #[] w fun e w' => e = .returned (.bool true) ∧ Nw w w' := by
  have hmix := mixed7
  have hb := Blk.new w 32 #[.int .i64 0, .int .i64 0, .int .i64 2, .int .i64 0, .int .i64 1, .int .i64 1, .int .i64 2, .int .i64 2, .int .i64 0, .int .i64 2, .int .i64 1, .int .i64 0]
  have hs : SrcV _ (.slice (some ⟨w.heap.size, 0, none⟩) 6 6) awL := src_blk (l := awL) hb (by simp [awL])
  have ch := hull_any awL _ _ hs
  rw [aw_hull] at ch
  simp only at ch
  have HN1 := Lib.hid (nw_alloc w (.cells #[.int .i64 0, .int .i64 0, .int .i64 2, .int .i64 0, .int .i64 1, .int .i64 1, .int .i64 2, .int .i64 2, .int .i64 0, .int .i64 2, .int .i64 1, .int .i64 0] 32))
  clear hs hb
  go_enter Try.func10, Try.ntmps10
  go_wp2_with fail
  with_reducible refine ch.mono ?_
  rintro e w2 ⟨v2, rfl, s2, k2⟩
  obtain ⟨A2, c2, rfl⟩ := s2.shape
  have s3 := src_n s2 (show sqA.length = 4 from rfl)
  have HS2 := Lib.hid (src_v s3 rfl)
  have HM := src_max s3
  rw [show sqA.length = 4 from rfl]
  obtain ⟨g, o, rfl, hg, hc⟩ := src_at s3 (by omega)
  have HC := Lib.hid (show ∀ w', Nw w2 w' → w'.cell? ⟨g, o + 2, none⟩ = some (.int .i64 2) ∧ w'.cell? ⟨g, o + 2 + 1, none⟩ = some (.int .i64 0) from fun w' h => hc w' h 1 (by omega))
  have cw := fun w1 (h : Nw w2 w1) => wid_any sqA 1 1 _ w1 (HS2.out.nw h) (by decide)
  have cd := fun w1 (h : Nw w2 w1) => dia_any sqA _ w1 (HS2.out.nw h) (by decide)
  have cc := fun w1 (h : Nw w2 w1) => conv_any sqA _ w1 (HS2.out.nw h) (by decide)
  rw [aw_wid, aw_errW] at cw
  rw [aw_dia, aw_errQ] at cd
  rw [aw_conv] at cc
  have HK2 := Lib.hid (HN1.out.tr k2)
  clear ch s2 s3 k2 hc hg HN1
  go_wp2_with fail
  with_reducible refine (cw _ (Kp.refl _ _)).mono ?_
  rintro e w3 ⟨rfl, k3⟩
  go_wp2_with fail
  with_reducible refine (cd _ k3).mono ?_
  rintro e w4 ⟨rfl, k4⟩
  have HK4 := Lib.hid (k3.tr k4)
  clear k3 k4
  obtain ⟨x0, x1⟩ := HC.out w4 HK4.out
  have hq := fun w1 => eql_vecg 2 0 2 0 w1
  have hqt : ((2 : Int) == 2 && (0 : Int) == 0) = true := by decide
  rw [hqt] at hq
  go_wp2_with fail
  with_reducible refine (cc _ HK4.out).mono ?_
  rintro e w5 ⟨rfl, k5⟩
  go_wp2_with fail
  go_ret
  exact ⟨rfl, HK2.out.tr (HK4.out.tr k5)⟩

end Go.Proofs.Ythbgapcplgigoaa.W

namespace Go.Proofs.Ythbgapcplgigoaa.W
open Go.RowKit Go.Proofs.Ythbgapcplgigoaa.V Go.Proofs.Ythbgapcplgigoaa.G


def hasB (l : List Pt) (p : Pt) : Bool := !(allTo l.length fun i => !(at_ l i == p))
theorem hasB_iff {l : List Pt} {p : Pt} : hasB l p = true ↔ p ∈ l := by
  unfold hasB
  rw [Bool.not_eq_true', ← Bool.not_eq_true, allTo_iff]
  constructor
  · intro h
    refine Classical.byContradiction fun k => h fun i hi => ?_
    have : at_ l i ≠ p := fun e => k (e ▸ at_mem hi)
    simpa using this
  · intro h k
    obtain ⟨i, hi, e⟩ := vx_at h
    have := k i hi
    rw [e] at this
    simp at this
theorem eq_two (ax ay bx bz : Int) : (((ax, ay) : Pt) == (bx, bz)) = (ax == bx && ay == bz) := rfl

set_option maxRecDepth 100000 in
set_option maxHeartbeats 3200000 in
theorem has_any (l : List (Int × Int)) (px py : Int) (v : Value) (w : World) (hv : SrcV w v l) (hl : l.length ≤ 1099511627776)  : Calls Try.prog 27 #[v, vV px py] w fun e w' => e = .returned (.bool (hasB l (px, py))) ∧ Nw w w' := by
  obtain ⟨A, c, rfl⟩ := hv.shape
  obtain ⟨n, hn⟩ : ∃ n, l.length = n := ⟨_, rfl⟩
  replace hv := src_n hv hn
  rw [hn] at hl ⊢
  have HV := Lib.hid hv
  have HN := Lib.hid hn
  have hmx := src_max hv
  clear hv hn
  have hmix := mixed7
  obtain ⟨W0, hW0⟩ : ∃ W, w.alloc (.cells #[.int .i64 px, .int .i64 py] 32) = W := ⟨_, rfl⟩
  have HW0 := Lib.hid (show Nw w W0 by rw [← hW0]; exact nw_alloc _ _)
  have HB0 := Lib.hid (show Blk W0 w.heap.size 32 #[.int .i64 px, .int .i64 py] by rw [← hW0]; exact Blk.new _ _ _)
  go_enter Try.func27, Try.ntmps27
  go_wp2_with fail
  obtain ⟨B, hB⟩ : ∃ B, w.heap.size = B := ⟨_, rfl⟩
  rw [hB] at HB0 ⊢
  clear hW0 hB
  go_loopw [5] (fun i wr => ∃ k : Nat, i = .int .i64 k ∧ k ≤ n ∧ (∀ j, j < k → (!(at_ l j == (px, py))) = true) ∧ Nw W0 wr) (fun i _ => n - (intOf i).toNat)
  case atStart => exact ⟨0, rfl, Nat.zero_le _, fun j h => absurd h (Nat.not_lt_zero _), (by repeat (first | exact Kp.refl _ _ | refine Kp.alloc ?_ _ | refine Kp.drew ?_))⟩
  case round =>
    obtain ⟨k, rfl, hk, hall, hnw⟩ := hrel
    have HA := Lib.hid hall
    clear hall
    have HK := Lib.hid hnw
    clear hnw
    by_cases hkn : k < n
    · have i0 : (0 : Int) ≤ (k : Int) := by omega
      have i1 : (k : Int) < (n : Int) := by omega
      obtain ⟨s4, hs4⟩ : ∃ s : Nat, k + 1 = s := ⟨_, rfl⟩
      have a4 : IntKind.i64.wrap ((k : Int) + 1) = (s4 : Int) := by rw [IntKind.wrap_i64]; omega
      have H4 := Lib.hid hs4
      obtain ⟨g, o, rfl, hg, hc⟩ := src_at HV.out (by omega)
      obtain ⟨⟨ax, ay⟩, ha⟩ : ∃ p, at_ l k = p := ⟨_, rfl⟩
      have q0 := fun p : KeptW wr => (hc p.wd (HW0.out.tr (HK.out.tr p.since)) k hkn).1
      have q1 := fun p : KeptW wr => (hc p.wd (HW0.out.tr (HK.out.tr p.since)) k hkn).2
      have q2 := fun p : KeptW wr => ((HB0.out.kp HK.out id).kept p).cell 0
      have q3 := fun p : KeptW wr => ((HB0.out.kp HK.out id).kept p).cell 1
      rw [ha] at q0 q1
      have hq := fun w1 => eql_vecg ax ay px py w1
      obtain ⟨q, hqq⟩ : ∃ q, (ax == px && ay == py) = q := ⟨_, rfl⟩
      rw [hqq] at hq
      have HQ := Lib.hid (show (!(at_ l k == (px, py))) = !q by rw [ha, eq_two, hqq])
      clear hc hg ha hqq hs4
      go_wp2_with fail
      refine wp_region_kept (Kp.refl _ _) (by assumption) (by kernel_rfl) ?_
      repeat (with_reducible refine wpQuiet_step (fun K hK => ?_); go_simp; first | ((with_reducible refine hK _ ?_); clear hK K) | (with_reducible apply Exists.intro; (with_reducible refine ⟨fun _ => ?_, hK _ ?_⟩); (fail); clear hK K) | (simp only [undef, reduceCtorEq, if_false]; (with_reducible refine hK _ ?_); clear hK K))
      with_reducible refine wpQuiet_nil ?_
      rintro _ ⟨p, rfl⟩
      cases q
      · go_wp2_with fail
        go_roundw
        case rel =>
          refine ⟨k + 1, by rw [← H4.out], by omega, fun j hj => ?_, HK.out.tr p.since⟩
          rcases Nat.lt_or_ge j k with h | h
          · exact HA.out j h
          · obtain rfl : j = k := by omega
            exact HQ.out
        case measure => (have := H4.out; simp [intOf]; try omega)
      · go_wp2_with fail
        go_ret
        refine ⟨?_, HW0.out.tr (HK.out.tr p.since)⟩
        show Ending.returned (.bool true) = _
        unfold hasB
        rw [allTo_not (i := k) (by rw [HN.out]; exact hkn) HQ.out]
        rfl
    · obtain rfl : k = n := by omega
      have i5 : ¬ ((k : Int) < (k : Int)) := by omega
      go_wp2_with fail
      go_ret
      refine ⟨?_, HW0.out.tr HK.out⟩
      show Ending.returned (.bool false) = _
      unfold hasB
      rw [allTo_iff.2 fun i hi => HA.out i (by rw [HN.out] at hi; exact hi)]
      rfl

end Go.Proofs.Ythbgapcplgigoaa.W

namespace Go.Proofs.Ythbgapcplgigoaa.G
open Go.RowKit Go.Proofs.Ythbgapcplgigoaa.V Go.Proofs.Ythbgapcplgigoaa.W

theorem conv_nodup {r : List Pt} (h : ConvP r) : r.Nodup := by
  unfold List.Nodup
  rw [List.pairwise_iff_getElem]
  intro i j hi hj hij e
  rw [← at_lt hi, ← at_lt hj] at e
  have := conv_distinct h hi hj e
  omega
theorem hull_sub {l r : List Pt} (h : HullP l r) {m : List Pt} (hm : ∀ x ∈ l, x ∈ m) : r.length ≤ m.length :=
  List.Nodup.length_le_of_subset (conv_nodup h.conv) fun x hx => hm x (h.sub hx)
/-- few different points: no points on a line only, or the hull -/
theorem hullH_few {l m : List Pt} (hs : allS l = true) (h4 : l.length ≤ 400) (hm : ∀ x ∈ l, x ∈ m) (h1 : m.length ≤ 160) :
    (FlatP l ∧ hullH l = ([], 11)) ∨ ∃ r, HullP l r ∧ hullH l = (r, 0) ∧ convB r = true ∧ allS r = true := by
  have hcol := colB_iff hs
  unfold hullH
  rw [if_neg (by omega), hs]
  by_cases f : FlatP l
  · exact .inl ⟨f, by rw [hcol.2 f]; rfl⟩
  · have hh := hull_exists f
    have hl := hull_sub hh hm
    have ha : allS (ringC (ascP l)) = true := allS_iff.2 fun p hp => allS_iff.1 hs p (hh.sub hp)
    refine .inr ⟨_, hh, ?_, convB_iff.2 ⟨⟨by omega, ha⟩, hh.conv⟩, ha⟩
    rw [show colB l = false by rw [← Bool.not_eq_true, hcol]; exact f]
    show (if 160 < (ringC (ascP l)).length then _ else _) = _
    rw [if_neg (by omega)]
theorem hullH_small {l : List Pt} (hs : allS l = true) (h1 : l.length ≤ 160) : (FlatP l ∧ hullH l = ([], 11)) ∨ ∃ r, HullP l r ∧ hullH l = (r, 0) ∧ convB r = true ∧ allS r = true :=
  hullH_few hs (by omega) (fun _ h => h) h1
theorem hull_where {l r : List Pt} (h : HullP l r) (hc : convB r = true) {p : Pt} (hp : p ∈ l) (hs : allS l = true) : whereH r p ≠ 0 :=
  (where_in hc (allS_iff.1 hs p hp)).2 (h.all p hp)
theorem hull_less {l r : List Pt} (h : HullP l r) {i : Nat} (hi : i < r.length) (h0 : 0 < i) : lessV (at_ r 0).1 (at_ r 0).2 (at_ r i).1 (at_ r i).2 = true := by
  rw [less_lt]
  have hl := h.low i hi
  rcases lt_tri (at_ r 0) (at_ r i) with c | c | c
  · exact c
  · have := conv_distinct h.conv (by omega) hi c
    omega
  · unfold LeP at hl
    unfold LtP at c ⊢
    omega
/-- HullLeast, for lists: if no point lies outside, no vertex does -/
theorem hull_least {l r s : List Pt} (h : HullP l r) : (∀ x ∈ l, InP s x) ↔ ∀ x ∈ r, InP s x := by
  constructor
  · exact fun g x hx => g x (h.sub hx)
  · intro g x hx
    exact in_sub h.conv (fun k hk => g _ (vx_mem hk)) (h.all x hx)
end Go.Proofs.Ythbgapcplgigoaa.G
