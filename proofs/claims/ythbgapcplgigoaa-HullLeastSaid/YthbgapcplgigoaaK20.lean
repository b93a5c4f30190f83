/-
  hull: HullLeast: the call returns true. No condition.
-/
import Derived.Test.YthbgapcplgigoaaK16
namespace Go.Proofs.Ythbgapcplgigoaa.W
open Go.RowKit Go.Proofs.Ythbgapcplgigoaa.V Go.Proofs.Ythbgapcplgigoaa.G


def inTo (s l : List Pt) : Nat → Bool
  | 0 => true
  | k + 1 => inTo s l k && (whereH s (at_ l k) != 0)
theorem inTo_iff (s l : List Pt) : ∀ k, inTo s l k = true ↔ ∀ i, i < k → whereH s (at_ l i) ≠ 0
  | 0 => ⟨fun _ i h => absurd h (Nat.not_lt_zero i), fun _ => rfl⟩
  | k + 1 => by
    unfold inTo
    rw [Bool.and_eq_true, inTo_iff s l k, bne_iff_ne]
    constructor
    · rintro ⟨a, b⟩ i hi
      by_cases e : i = k
      · subst e; exact b
      · exact a i (by omega)
    · exact fun h => ⟨fun i hi => h i (by omega), h k (by omega)⟩
theorem inTo_hull {l r s : List Pt} (h : HullP l r) (hc : convB s = true) (hl : allS l = true) (hr : allS r = true) : inTo s l l.length = inTo s r r.length := by
  apply Bool.eq_iff_iff.2
  rw [inTo_iff, inTo_iff]
  have a : (∀ i, i < l.length → whereH s (at_ l i) ≠ 0) ↔ ∀ x ∈ l, InP s x := ⟨fun g x hx => by
    obtain ⟨i, hi, rfl⟩ := vx_at hx
    exact (where_in hc (allS_at hl hi)).1 (g i hi), fun g i hi => (where_in hc (allS_at hl hi)).2 (g _ (at_mem hi))⟩
  have b : (∀ i, i < r.length → whereH s (at_ r i) ≠ 0) ↔ ∀ x ∈ r, InP s x := ⟨fun g x hx => by
    obtain ⟨i, hi, rfl⟩ := vx_at hx
    exact (where_in hc (allS_at hr hi)).1 (g i hi), fun g i hi => (where_in hc (allS_at hr hi)).2 (g _ (at_mem hi))⟩
  rw [a, b]
  exact hull_least h

set_option maxRecDepth 100000 in
set_option maxHeartbeats 12800000 in
theorem hullLeast_any (l m : List (Int × Int)) (v u : Value) (w : World) (hv : SrcV w v l) (hu : SrcV w u m) : Calls Try.prog 6 #[v, u] w fun e w' => e = .returned (.bool true) ∧ Nw w w' := by
  have hmix := mixed7
  obtain ⟨A, c, rfl⟩ := hv.shape
  obtain ⟨n, hn⟩ : ∃ n, l.length = n := ⟨_, rfl⟩
  replace hv := src_n hv hn
  have HV := Lib.hid hv
  have HN := Lib.hid hn
  have HSV := Lib.hid (src_v hv hn)
  have hmx := src_max hv
  rw [hn]
  clear hv hn
  obtain ⟨B, d, rfl⟩ := hu.shape
  obtain ⟨n2, hn2⟩ : ∃ n, m.length = n := ⟨_, rfl⟩
  replace hu := src_n hu hn2
  have HU := Lib.hid hu
  have HN2 := Lib.hid hn2
  have HSU := Lib.hid (src_v hu hn2)
  have hmx2 := src_max hu
  rw [hn2]
  clear hu hn2
  obtain ⟨sa, hsa⟩ : ∃ b, (allS l && decide (l.length ≤ 30)) = b := ⟨_, rfl⟩
  have csa := fun w1 (h : Nw w w1) => small_any l (.slice A n c) w1 (HSV.out.nw h)
  rw [hsa] at csa
  have Hsa := Lib.hid hsa
  clear hsa
  obtain ⟨sb, hsb⟩ : ∃ b, (allS m && decide (m.length ≤ 30)) = b := ⟨_, rfl⟩
  have csb := fun w1 (h : Nw w w1) => small_any m (.slice B n2 d) w1 (HSU.out.nw h)
  rw [hsb] at csb
  have Hsb := Lib.hid hsb
  clear hsb
  go_enter Try.func6, Try.ntmps6
  go_wp2_with fail
  refine (awakeH_any _).mono ?_
  rintro e w1 ⟨rfl, k1⟩
  go_wp2_with fail
  refine (csa _ k1).mono ?_
  rintro e w2 ⟨rfl, k2⟩
  have HK2 := Lib.hid (k1.tr k2)
  clear k1 k2 csa
  cases sa
  · go_wp2_with fail
    go_ret
    exact ⟨rfl, HK2.out⟩
  go_wp2_with fail
  refine (csb _ HK2.out).mono ?_
  rintro e w3 ⟨rfl, k3⟩
  have HK3 := Lib.hid (HK2.out.tr k3)
  clear k3 csb
  cases sb
  · go_wp2_with fail
    go_ret
    exact ⟨rfl, HK3.out⟩
  obtain ⟨hs_l, h30_l⟩ : allS l = true ∧ l.length ≤ 30 := by
    have := Hsa.out
    rw [Bool.and_eq_true, decide_eq_true_eq] at this
    exact this
  obtain ⟨hs_m, h30_m⟩ : allS m = true ∧ m.length ≤ 30 := by
    have := Hsb.out
    rw [Bool.and_eq_true, decide_eq_true_eq] at this
    exact this
  have hl30 : n ≤ 30 := by rw [← HN.out]; exact h30_l
  have chl := hull_any l (.slice A n c) w3 (HSV.out.nw HK3.out)
  have chm := fun w1 (h : Nw w w1) => hull_any m (.slice B n2 d) w1 (HSU.out.nw h)
  go_wp2_with fail
  refine chl.mono ?_
  rintro e w4 ⟨v4, rfl, s4', k4⟩
  have HK4 := Lib.hid (HK3.out.tr k4)
  have HS40 := Lib.hid s4'
  obtain ⟨A3, c3, e3⟩ := s4'.shape
  subst e3
  clear chl k4 s4'
  go_wp2_with fail
  refine (chm _ HK4.out).mono ?_
  rintro e w6 ⟨v6, rfl, s6, k6⟩
  have HK6 := Lib.hid (HK4.out.tr k6)
  have HS60 := Lib.hid s6
  have HS46 := Lib.hid (HS40.out.nw k6)
  obtain ⟨A4, c4, e4⟩ := s6.shape
  subst e4
  clear chm k6 s6
  rcases hullH_small hs_l (by omega) with ⟨hf, he⟩ | ⟨r, hh, he, hcv, hsr⟩
  · rw [he]
    clear hf he hs_l hs_m h30_l h30_m
    go_wp2_with fail
    go_ret
    exact ⟨rfl, HK6.out⟩
  rw [he] at HS46 ⊢
  rcases hullH_small hs_m (by omega) with ⟨hf2, he2⟩ | ⟨s, hh2, he2, hcv2, hsr2⟩
  · rw [he2]
    clear hf2 he2 hs_l hs_m h30_l h30_m he hh hcv hsr
    go_wp2_with fail
    go_ret
    exact ⟨rfl, HK6.out⟩
  rw [he2] at HS60 ⊢
  simp only at HS46 HS60
  obtain ⟨rn, hrn⟩ : ∃ x, r.length = x := ⟨_, rfl⟩
  obtain ⟨sn, hsn⟩ : ∃ x, s.length = x := ⟨_, rfl⟩
  have hr30 : rn ≤ 30 := by rw [← hrn]; exact Nat.le_trans (hull_sub hh (fun _ h => h)) h30_l
  have hs30 : sn ≤ 30 := by rw [← hsn]; exact Nat.le_trans (hull_sub hh2 (fun _ h => h)) h30_m
  have HEQ := Lib.hid (inTo_hull hh hcv2 hs_l hsr)
  have HRN := Lib.hid hrn
  have HSN := Lib.hid hsn
  have HS4 := Lib.hid (show SrcV w6 (.slice A4 sn c4) s from hsn ▸ HS60.out)
  have HR4 := Lib.hid (src_n (show SrcV w6 (.slice A3 r.length c3) r from HS46.out) hrn)
  rw [hrn, hsn]
  have hmx3 := src_max HR4.out
  clear hs_l hs_m h30_l h30_m he hh hcv hsr he2 hh2 hcv2 hsr2 hrn hsn HS46 HS60 HS40
  have W6K := Lib.hid HK6.out
  have W6S := Lib.hid (Kp.refl (fun _ => False) w6)
  go_wp2_with fail
  go_loopw [9, 10] (fun bb i wr => ∃ k : Nat, i = .int .i64 k ∧ k ≤ n ∧ bb = .bool (inTo s l k) ∧ Nw w6 wr) (fun bb i _ => n - (intOf i).toNat)
  case atStart => exact ⟨0, rfl, Nat.zero_le _, rfl, (by repeat (first | exact Kp.refl _ _ | refine Kp.alloc ?_ _ | refine Kp.drew ?_))⟩
  case round =>
    obtain ⟨k, rfl, hk, rfl, hnw⟩ := hrel
    have HK := Lib.hid hnw
    clear hnw
    obtain ⟨bb, hbb⟩ : ∃ x, inTo s l k = x := ⟨_, rfl⟩
    rw [hbb]
    have HBB := Lib.hid hbb
    clear hbb
    by_cases hkn : k < n
    · have i0 : (0 : Int) ≤ (k : Int) := by omega
      have i1 : (k : Int) < (n : Int) := by omega
      obtain ⟨s4, hs4⟩ : ∃ s : Nat, k + 1 = s := ⟨_, rfl⟩
      have a4 : IntKind.i64.wrap ((k : Int) + 1) = (s4 : Int) := by rw [IntKind.wrap_i64]; omega
      have H4 := Lib.hid hs4
      obtain ⟨g, o, e0, hg, hc⟩ := src_at HV.out (by omega)
      subst e0
      obtain ⟨⟨ax, ay⟩, ha⟩ : ∃ p, at_ l k = p := ⟨_, rfl⟩
      obtain ⟨y0, y1⟩ := hc wr (W6K.out.tr HK.out) k hkn
      rw [ha] at y0 y1
      have cwh := where_any s ax ay (.slice A4 sn c4) wr (HS4.out.nw (W6S.out.tr HK.out)) (by rw [HSN.out]; omega)
      obtain ⟨x, hxx⟩ : ∃ x, whereH s (ax, ay) = x := ⟨_, rfl⟩
      rw [hxx] at cwh
      obtain ⟨xb, hxb⟩ : ∃ b, (x != 0) = b := ⟨_, rfl⟩
      have HST := Lib.hid (show inTo s l (k + 1) = (bb && xb) by show (inTo s l k && (whereH s (at_ l k) != 0)) = _; rw [HBB.out, ha, hxx, hxb])
      clear hs4 hc hg ha hxx
      cases bb
      · clear cwh
        go_wp2_with fail
        go_roundw
        case rel => exact ⟨k + 1, by rw [← H4.out], by omega, by rw [HST.out]; rfl, HK.out⟩
        case measure => (have := H4.out; simp [intOf]; try omega)
      · go_wp2_with fail
        refine cwh.mono ?_
        rintro e w5 ⟨rfl, k5⟩
        have HK5 := Lib.hid (HK.out.tr k5)
        clear cwh k5 y0 y1
        go_wp2_with fail
        go_roundw
        case rel => exact ⟨k + 1, by rw [← H4.out], by omega, by rw [HST.out]; rfl, HK5.out⟩
        case measure => (have := H4.out; simp [intOf]; try omega)
    · obtain rfl : k = n := by omega
      have i5 : ¬ ((k : Int) < (k : Int)) := by omega
      have HALL := Lib.hid (show inTo s r rn = bb by rw [← HBB.out, ← HRN.out, ← HEQ.out, HN.out])
      obtain ⟨w7, hw7⟩ : ∃ x, x = wr := ⟨_, rfl⟩
      subst hw7
      have W7K := Lib.hid (Kp.refl (fun _ => False) w7)
      have W7S := Lib.hid HK.out
      have HR7 := Lib.hid (show SrcN w7 A3 rn c3 r from Src.nw HR4.out HK.out)
      have HK7 := Lib.hid (HK6.out.tr HK.out)
      obtain ⟨ball, hball⟩ : ∃ x, x = bb := ⟨_, rfl⟩
      subst hball
      clear HK HBB
      go_wp2_with fail
      clear i5 hkn hk
      go_loopw [11, 12] (fun bb i wr => ∃ k : Nat, i = .int .i64 k ∧ k ≤ rn ∧ bb = .bool (inTo s r k) ∧ Nw w7 wr) (fun bb i _ => rn - (intOf i).toNat)
      case atStart => exact ⟨0, rfl, Nat.zero_le _, rfl, (by repeat (first | exact Kp.refl _ _ | refine Kp.alloc ?_ _ | refine Kp.drew ?_))⟩
      case round =>
        obtain ⟨k, rfl, hk, rfl, hnw⟩ := hrel
        have HK := Lib.hid hnw
        clear hnw
        obtain ⟨bb, hbb⟩ : ∃ x, inTo s r k = x := ⟨_, rfl⟩
        rw [hbb]
        have HBB := Lib.hid hbb
        clear hbb
        by_cases hkn : k < rn
        · have i0 : (0 : Int) ≤ (k : Int) := by omega
          have i1 : (k : Int) < (rn : Int) := by omega
          obtain ⟨s4, hs4⟩ : ∃ s : Nat, k + 1 = s := ⟨_, rfl⟩
          have a4 : IntKind.i64.wrap ((k : Int) + 1) = (s4 : Int) := by rw [IntKind.wrap_i64]; omega
          have H4 := Lib.hid hs4
          obtain ⟨g, o, e0, hg, hc⟩ := src_at HR7.out (by omega)
          subst e0
          obtain ⟨⟨ax, ay⟩, ha⟩ : ∃ p, at_ r k = p := ⟨_, rfl⟩
          obtain ⟨y0, y1⟩ := hc wr (W7K.out.tr HK.out) k hkn
          rw [ha] at y0 y1
          have cwh := where_any s ax ay (.slice A4 sn c4) wr (HS4.out.nw (W7S.out.tr HK.out)) (by rw [HSN.out]; omega)
          obtain ⟨x, hxx⟩ : ∃ x, whereH s (ax, ay) = x := ⟨_, rfl⟩
          rw [hxx] at cwh
          obtain ⟨xb, hxb⟩ : ∃ b, (x != 0) = b := ⟨_, rfl⟩
          have HST := Lib.hid (show inTo s r (k + 1) = (bb && xb) by show (inTo s r k && (whereH s (at_ r k) != 0)) = _; rw [HBB.out, ha, hxx, hxb])
          clear hs4 hc hg ha hxx
          cases bb
          · clear cwh
            go_wp2_with fail
            go_roundw
            case rel => exact ⟨k + 1, by rw [← H4.out], by omega, by rw [HST.out]; rfl, HK.out⟩
            case measure => (have := H4.out; simp [intOf]; try omega)
          · go_wp2_with fail
            refine cwh.mono ?_
            rintro e w5 ⟨rfl, k5⟩
            have HK5 := Lib.hid (HK.out.tr k5)
            clear cwh k5 y0 y1
            go_wp2_with fail
            go_roundw
            case rel => exact ⟨k + 1, by rw [← H4.out], by omega, by rw [HST.out]; rfl, HK5.out⟩
            case measure => (have := H4.out; simp [intOf]; try omega)
        · obtain rfl : k = rn := by omega
          have i6 : ¬ ((k : Int) < (k : Int)) := by omega
          have e5 := HALL.out
          rw [HBB.out] at e5
          subst e5
          go_wp2_with fail
          go_ret
          exact ⟨by simp, HK7.out.tr HK.out⟩

end Go.Proofs.Ythbgapcplgigoaa.W
