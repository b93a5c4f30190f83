/-
  The reference's nat, natCmp: what they return. Condition: at most 100000 digits.
-/
import Derived.Test.YthefkomalakfeaaRNa
namespace Go.Proofs.Ythefkomalakfeaa.W
open Go.RowKit Go.Proofs.Ythefkomalakfeaa.Q

theorem infoI : (Try.prog.info? 3).map (fun i => (i.zero, i.size, i.bytes)) = some (some (.int .i64 0), 1, 8) := by kernel_rfl
/-- a row of digits of the call's own -/
abbrev OwnD (w : World) (B : Nat) (v : Value) (l : List Nat) : Prop := w.ownsRow B 3 1 v l.length (dgV l)
theorem OwnD.tyD {w : World} {B : Nat} {v : Value} {l : List Nat} (h : OwnD w B v l) : TyD w v := fun g hg => by
  rcases h.2 with ⟨rfl, h0⟩ | ⟨g', cap, cur, rfl, hb, hgg, rest⟩
  · cases hg
  · have e : g' = g := by simpa [Value.ownBlock] using hg
    exact ⟨cur, e ▸ hgg⟩
theorem OwnD.dgV {w : World} {B : Nat} {v : Value} {l : List Nat} (h : OwnD w B v l) : DgV w v l := own_src h
theorem OwnD.js {w : World} {B : Nat} {v : Value} {l : List Nat} (h : OwnD w B v l) (hd : Dgs l) (hc : Trm l) : Js w v (dnum l) := ⟨l, h.dgV, hd, hc, rfl, h.tyD⟩
theorem ownD_nil (w : World) (B : Nat) : OwnD w B (.slice none 0 0) [] := World.ownsRow_nil _ _ _ _
theorem dg_snoc (l : List Nat) (x : Nat) : dgV l ++ [.int .i64 (x : Int)] = dgV (l ++ [x]) := by unfold dgV; rw [List.map_append]; rfl

set_option maxRecDepth 100000 in
set_option maxHeartbeats 3200000 in
theorem nat_any (n : Nat) (hn : U64 n) (w : World) : Calls Try.prog 58 #[.int .u64 n] w fun e w' => ∃ v', e = .returned v' ∧ Js w' v' n ∧ Nw w w' := by
  have HU := Lib.hid hn
  clear hn
  go_enter Try.func58, Try.ntmps58
  go_wp2
  go_loopw [0, 3] (fun a v wr => ∃ (x : Nat) (m : List Nat), a = .int .u64 x ∧ x < 18446744073709551616 ∧ m.length ≤ 5 ∧ OwnD wr w.heap.size v m ∧ Dgs m ∧ (x = 0 → Trm m) ∧ dnum m + B15 ^ m.length * x = n ∧ Nw w wr) (fun a _ _ => (intOf a).toNat)
  case atStart => exact ⟨n, [], rfl, HU.out, by simp, ownD_nil _ _, dwds_nil, fun _ => dcut_nil, by simp [dnum], Kp.refl _ _⟩
  case round =>
    obtain ⟨x, m, rfl, hx, hml, hown, hd, ht, hs, hnw⟩ := hrel
    have HO := Lib.hid hown
    have HD := Lib.hid (And.intro hd (And.intro ht (And.intro hs hml)))
    have HK := Lib.hid hnw
    clear hown hd ht hs hnw hml
    rcases Nat.eq_zero_or_pos x with h0 | h0
    · subst h0
      go_wp2
      go_ret
      refine ⟨_, rfl, ?_, HK.out⟩
      have := HD.out.2.2.1
      rw [Nat.mul_zero, Nat.add_zero] at this
      rw [← this]
      exact HO.out.js HD.out.1 (HD.out.2.1 (by simp))
    · have e1 : decide ((x : Int) > 0) = true := decide_eq_true (by omega)
      obtain ⟨r, hr⟩ : ∃ r, x % 32768 = r := ⟨_, rfl⟩
      obtain ⟨q, hq⟩ : ∃ q, x / 32768 = q := ⟨_, rfl⟩
      have hrb : r < 32768 := by omega
      have e2 : IntKind.u64.wrap ((x : Int) % 32768) = r := by rw [IntKind.wrap_u64]; omega
      have e2' : (x : Int) % 32768 = r := by omega
      have e2a : IntKind.u64.wrap (r : Int) = r := by rw [IntKind.wrap_u64]; omega
      have e3 : IntKind.i64.wrap (r : Int) = r := by rw [IntKind.wrap_i64]; omega
      have e4 : IntKind.u64.wrap ((x : Int) / 32768) = q := by rw [IntKind.wrap_u64]; omega
      have e4' : (x : Int) / 32768 = q := by omega
      have e4a : IntKind.u64.wrap (q : Int) = q := by rw [IntKind.wrap_u64]; omega
      have HQ := Lib.hid (And.intro hr (And.intro hq hrb))
      clear hr hq hrb
      go_wp2_with (at_builtin; refine wp_pushG rfl (.tmp 6) (.tmp 10) 43 3 1 8 (.int .i64 0) rfl Try.underlying43 infoI rfl (by omega) w.heap.size m.length _ (dgV m) [.int .i64 (r : Int)] rfl HO.out rfl (by intro u hu; rw [List.mem_singleton.1 hu]; rfl) rfl (by have := HD.out.2.2.2; omega) (by have := HD.out.2.2.2; omega) HK.out.size ?_; intro v5 w5 own5 gr5)
      go_roundw
      case rel =>
        have hm4 : m.length ≤ 4 := by
          rcases Nat.lt_or_ge m.length 5 with h | h
          · omega
          · have h1 := Nat.pow_le_pow_right (n := B15) (by rw [b15_eq]; omega) h
            have h2 := Nat.mul_le_mul h1 (show 1 ≤ x from h0)
            have h3 := HD.out.2.2.1
            have h4 := HU.out
            unfold U64 at h4
            rw [show B15 ^ 5 * 1 = 37778931862957161709568 from rfl] at h2
            omega
        refine ⟨q, m ++ [r], rfl, by have := HQ.out.2.1; omega, by rw [List.length_append]; simp; omega, ?_, HD.out.1.append (Dgs.one (by rw [b15_eq]; exact HQ.out.2.2)), fun h => ?_, ?_, gr5.nw HK.out (own_from HO.out)⟩
        · rw [dg_snoc] at own5
          unfold OwnD
          rw [List.length_append]
          exact own5
        · unfold Trm
          rw [List.getLast?_append]
          have h1 := HQ.out.1
          have h2 := HQ.out.2.1
          have : r ≠ 0 := by omega
          simp [this]
        · rw [dnum_snoc, List.length_append, List.length_singleton, Nat.pow_succ, Nat.mul_assoc, Nat.add_assoc, ← Nat.mul_add, b15_eq]
          have h3 := HD.out.2.2.1
          rw [b15_eq] at h3
          rw [show r + 32768 * q = x by have h1 := HQ.out.1; have h2 := HQ.out.2.1; omega]
          exact h3
      case measure => have h2 := HQ.out.2.1; simp [intOf]; omega
theorem dnum_eq_top {l m : List Nat} (hd : l.drop 0 = m.drop 0) : dnum l = dnum m := by rw [List.drop_zero, List.drop_zero] at hd; rw [hd]

set_option maxRecDepth 100000 in
set_option maxHeartbeats 1600000 in
theorem natCmp_any (N M : Nat) (x y : Value) (w : World) (hx : Js w x N) (hy : Js w y M) (hN : FewD N) (hM : FewD M) :
    Calls Try.prog 55 #[x, y] w fun e w' => e = .returned (.int .i64 (sgn ((N : Int) - M))) ∧ Nw w w' := by
  obtain ⟨l, ⟨hl, A, c, rfl, hnc, hcm, hcell⟩, hw, hcut, rfl, _⟩ := hx
  obtain ⟨l2, ⟨hl2, A2, c2, rfl, hnc2, hcm2, hcell2⟩, hw2, hcut2, rfl, _⟩ := hy
  have hlen := dfew_len hcut hN
  have hlen2 := dfew_len hcut2 hM
  obtain ⟨n, hn⟩ : ∃ n, l.length = n := ⟨_, rfl⟩
  obtain ⟨n2, hn2⟩ : ∃ n, l2.length = n := ⟨_, rfl⟩
  by_cases hne : n = n2
  · subst hne
    rw [hn] at hlen hcell ⊢
    rw [hn2] at hcell2 ⊢
    have e0 : IntKind.i64.wrap ((n : Int) - 1) = (n : Int) - 1 := by rw [IntKind.wrap_i64]; omega
    have HN := Lib.hid hn
    have HN2 := Lib.hid hn2
    have HC := Lib.hid hcell
    have HC2 := Lib.hid hcell2
    have HW := Lib.hid hw
    have HW2 := Lib.hid hw2
    have HL := Lib.hid hlen
    clear hl hl2 hcell hcell2 hw hw2 hcut hcut2 hcm hcm2 hnc hnc2 hn hn2 hlen hlen2 hN hM
    go_enter Try.func55, Try.ntmps55
    go_wp2
    clear e0
    go_loopw [5] (fun s wr => ∃ k : Nat, s = .int .i64 ((k : Int) - 1) ∧ k ≤ n ∧ l.drop k = l2.drop k ∧ Nw w wr) (fun s _ => (intOf s + 1).toNat)
    case atStart => exact ⟨n, rfl, Nat.le_refl n, by rw [List.drop_eq_nil_of_le (by rw [HN.out]; exact Nat.le_refl _), List.drop_eq_nil_of_le (by rw [HN2.out]; exact Nat.le_refl _)], Kp.refl _ _⟩
    case round =>
      obtain ⟨k, rfl, hk, hd, hnw⟩ := hrel
      have HD := Lib.hid hd
      have HK := Lib.hid hnw
      clear hd hnw
      rcases Nat.eq_zero_or_pos k with h0 | h0
      · subst h0
        go_wp2
        go_ret
        refine ⟨?_, HK.out⟩
        rw [dnum_eq_top HD.out, Int.sub_self]
        rfl
      · obtain ⟨j, hj⟩ : ∃ j, k = j + 1 := ⟨k - 1, by omega⟩
        have hkj : (k : Int) - 1 = j := by omega
        rw [hkj]
        have e1 : decide ((j : Int) ≥ 0) = true := decide_eq_true (by omega)
        have i3 : (0 : Int) ≤ (j : Int) := by omega
        have i4 : (j : Int) < (n : Int) := by omega
        have e2 : IntKind.i64.wrap ((j : Int) - 1) = (j : Int) - 1 := by rw [IntKind.wrap_i64]; have := HL.out; omega
        obtain ⟨g, o, rfl, hb, hc⟩ := HC.out (by omega)
        obtain ⟨g2, o2, rfl, hb2, hc2⟩ := HC2.out (by omega)
        obtain ⟨x, hx⟩ : ∃ x, l[j]? = some x := ⟨l[j]'(by rw [HN.out]; omega), List.getElem?_eq_getElem _⟩
        obtain ⟨y, hy⟩ : ∃ x, l2[j]? = some x := ⟨l2[j]'(by rw [HN2.out]; omega), List.getElem?_eq_getElem _⟩
        have q0 := (HK.out.cell (p := ⟨g, o + j, none⟩) hb id).trans (hc j (.int .i64 x) (by rw [dgV_at, hx]; rfl))
        have r0 := (HK.out.cell (p := ⟨g2, o2 + j, none⟩) hb2 id).trans (hc2 j (.int .i64 y) (by rw [dgV_at, hy]; rfl))
        clear hc hc2
        have HX := Lib.hid hx
        have HY := Lib.hid hy
        have HJ := Lib.hid hj
        clear hx hy hj hkj
        rcases Nat.lt_trichotomy x y with hxy | hxy | hxy
        · have e3 : decide ((x : Int) < y) = true := decide_eq_true (by omega)
          have e3' : decide (x < y) = true := decide_eq_true hxy
          have hd := HD.out
          rw [HJ.out] at hd
          have hs : sgn ((dnum l : Int) - dnum l2) = -1 := by rw [sgn_of, if_pos (dless_at HW.out HX.out HY.out hd hxy)]
          have HS := Lib.hid hs
          clear hd hs hxy
          go_wp2_with fail
          go_quiet (fail)
          go_wp2
          go_ret
          exact ⟨by rw [HS.out]; rfl, HK.out.tr (nw_drewN _ _)⟩
        · subst hxy
          have e3 : decide ((x : Int) < x) = false := decide_eq_false (by omega)
          have e3' : decide (x < x) = false := decide_eq_false (by omega)
          have e4 : decide ((x : Int) > x) = false := decide_eq_false (by omega)
          go_wp2_with fail
          go_quiet (fail)
          go_wp2_with fail
          generalize hw3 : World.drewN wr _ = w3
          have hk3 : Nw wr w3 := by rw [← hw3]; exact nw_drewN _ _
          have HK3 := Lib.hid (HK.out.tr hk3)
          have q0 := (hk3.cell (p := ⟨g, o + j, none⟩) (Nat.lt_of_lt_of_le hb HK.out.size) id).trans q0
          have r0 := (hk3.cell (p := ⟨g2, o2 + j, none⟩) (Nat.lt_of_lt_of_le hb2 HK.out.size) id).trans r0
          clear hw3 hk3
          go_wp2_with fail
          go_quiet (fail)
          go_wp2_with fail
          go_roundw
          case rel =>
            refine ⟨j, rfl, by omega, ?_, HK3.out.tr (nw_drewN _ _)⟩
            rw [ddrop_cons HX.out, ddrop_cons HY.out, ← HJ.out, HD.out]
          case measure => simp [intOf]
        · have e3 : decide ((x : Int) < y) = false := decide_eq_false (by omega)
          have e3' : decide (x < y) = false := decide_eq_false (by omega)
          have e4 : decide ((x : Int) > y) = true := decide_eq_true (by omega)
          have e4' : decide (y < x) = true := decide_eq_true hxy
          have hd := HD.out
          rw [HJ.out] at hd
          have hlt := dless_at HW2.out HY.out HX.out hd.symm hxy
          have hs : sgn ((dnum l : Int) - dnum l2) = 1 := by rw [sgn_of, if_neg (by omega), if_neg (by omega)]
          have HS := Lib.hid hs
          clear hd hs hxy hlt
          go_wp2_with fail
          go_quiet (fail)
          go_wp2_with fail
          generalize hw3 : World.drewN wr _ = w3
          have hk3 : Nw wr w3 := by rw [← hw3]; exact nw_drewN _ _
          have HK3 := Lib.hid (HK.out.tr hk3)
          have q0 := (hk3.cell (p := ⟨g, o + j, none⟩) (Nat.lt_of_lt_of_le hb HK.out.size) id).trans q0
          have r0 := (hk3.cell (p := ⟨g2, o2 + j, none⟩) (Nat.lt_of_lt_of_le hb2 HK.out.size) id).trans r0
          clear hw3 hk3
          go_wp2_with fail
          go_quiet (fail)
          go_wp2
          go_ret
          exact ⟨by rw [HS.out]; rfl, HK3.out.tr (nw_drewN _ _)⟩
  · have e1 : ((n : Int) != n2) = true := by simp; omega
    rw [hn, hn2]
    by_cases h : n < n2
    · have e2 : decide ((n : Int) < n2) = true := decide_eq_true (by omega)
      have hs : sgn ((dnum l : Int) - dnum l2) = -1 := by rw [sgn_of, if_pos (dless_len hw hcut2 (by omega))]
      rw [hs]
      clear hl hl2 hcell hcell2 hw hw2 hcut hcut2 hcm hcm2 hnc hnc2 hn hn2 hlen hlen2 hN hM hne hs
      go_enter Try.func55, Try.ntmps55
      go_wp2
      go_ret
      exact ⟨rfl, Kp.refl _ _⟩
    · have e2 : decide ((n : Int) < n2) = false := decide_eq_false (by omega)
      have hlt := dless_len hw2 hcut (show l2.length < l.length by omega)
      have hs : sgn ((dnum l : Int) - dnum l2) = 1 := by rw [sgn_of, if_neg (by omega), if_neg (by omega)]
      rw [hs]
      clear hl hl2 hcell hcell2 hw hw2 hcut hcut2 hcm hcm2 hnc hnc2 hn hn2 hlen hlen2 hN hM hne hs hlt
      go_enter Try.func55, Try.ntmps55
      go_wp2
      go_ret
      exact ⟨rfl, Kp.refl _ _⟩
end Go.Proofs.Ythefkomalakfeaa.W
