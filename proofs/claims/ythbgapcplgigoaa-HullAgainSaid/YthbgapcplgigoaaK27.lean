/-
  hull: the reference's Hull: what it returns. Condition: the list is not longer than 2^40.
  vec, plain: where a vector is inserted. No condition.
  vec: an append of a slice of vectors as a step of a region that draws its order; what a vector's cells are. No condition.
-/
import Derived.Test.YthbgapcplgigoaaK13
import Derived.Test.YthbgapcplgigoaaK15
import Derived.Test.YthbgapcplgigoaaK16
import Derived.Test.YthbgapcplgigoaaK08
import Derived.Test.YthbgapcplgigoaaK09
namespace Go.Proofs.Ythbgapcplgigoaa.W
open Go.RowKit Go.Proofs.Ythbgapcplgigoaa.V Go.Proofs.Ythbgapcplgigoaa.G


def lenOf : Value → Nat
  | .slice _ n _ => n
  | _ => 0
def leastTo (l : List Pt) : Nat → Pt
  | 0 => at_ l 0
  | k + 1 => if lessV (at_ l k).1 (at_ l k).2 (leastTo l k).1 (leastTo l k).2 then at_ l k else leastTo l k
theorem least_spec {l : List Pt} (h0 : 0 < l.length) : ∀ k, k ≤ l.length → leastTo l k ∈ l ∧ ∀ j, j < k → LeP (leastTo l k) (at_ l j)
  | 0, _ => ⟨at_mem h0, fun j h => absurd h (Nat.not_lt_zero j)⟩
  | k + 1, hk => by
    obtain ⟨a, b⟩ := least_spec h0 k (by omega)
    unfold leastTo
    by_cases c : lessV (at_ l k).1 (at_ l k).2 (leastTo l k).1 (leastTo l k).2 = true
    · rw [if_pos c]
      refine ⟨at_mem (by omega), fun j hj => ?_⟩
      rw [less_lt] at c
      by_cases e : j = k
      · subst e; exact le_refl' _
      · have := b j (by omega)
        unfold LtP at c
        unfold LeP at *
        omega
    · rw [if_neg c]
      refine ⟨a, fun j hj => ?_⟩
      rw [less_lt] at c
      by_cases e : j = k
      · subst e
        unfold LtP at c
        unfold LeP
        omega
      · exact b j (by omega)
theorem least_hull {l r : List Pt} (h : HullP l r) : leastTo l l.length = at_ r 0 := by
  have h0 : 0 < l.length := List.length_pos_of_mem h.first.1
  obtain ⟨a, b⟩ := least_spec h0 l.length (Nat.le_refl _)
  refine le_antisymm' ?_ (h.first.2 _ a)
  obtain ⟨j, hj, e⟩ := vx_at h.first.1
  rw [← e]
  exact b j hj

set_option maxRecDepth 100000 in
set_option maxHeartbeats 12800000 in
theorem r10hull_any (l : List (Int × Int)) (v : Value) (w : World) (hv : SrcV w v l) (hl : l.length ≤ 1099511627776)  : Calls Try.prog 13 #[v] w fun e w' => ∃ v', e = .returned (.tuple #[v', .int .i64 (hullH l).2]) ∧ SrcV w' v' (hullH l).1 ∧ Nw w w' := by
  obtain ⟨A, c, rfl⟩ := hv.shape
  obtain ⟨n, hn⟩ : ∃ n, l.length = n := ⟨_, rfl⟩
  replace hv := src_n hv hn
  rw [hn] at hl ⊢
  have HV := Lib.hid hv
  have HN := Lib.hid hn
  have hmx := src_max hv
  clear hv hn
  have hmix := mixed7
  have HSV := Lib.hid (src_v HV.out HN.out)
  obtain ⟨r, hr⟩ : ∃ r, hullH l = r := ⟨_, rfl⟩
  obtain ⟨er, hre⟩ : ∃ e, r.2 = e := ⟨_, rfl⟩
  rw [hr, hre]
  have HRR := Lib.hid (And.intro hr hre)
  clear hr hre
  by_cases h4 : 400 < n
  · have f4 : ((n : Int) > 400) := by omega
    have h0 := hullH_big (l := l) (by rw [HN.out]; exact h4)
    rw [HRR.out.1] at h0
    have e0 := HRR.out.2
    rw [h0] at e0
    simp only at e0
    subst e0
    go_enter Try.func13, Try.ntmps13
    go_wp2_with fail
    go_ret2
    refine ⟨_, rfl, ?_, Kp.refl _ _⟩
    rw [h0]
    exact Src.nil _ _
  have f4 : ¬ ((n : Int) > 400) := by omega
  have H4L := Lib.hid (show ¬ 400 < l.length by rw [HN.out]; exact h4)
  have cs := fun w1 (h : Nw w w1) => r10within_any l (.slice A n c) w1 (HSV.out.nw h)
  have cc := fun w1 (h : Nw w w1) => col_any l (.slice A n c) w1 (HSV.out.nw h) (by rw [HN.out]; exact hl)
  obtain ⟨b, hb⟩ : ∃ b, allS l = b := ⟨_, rfl⟩
  rw [hb] at cs
  cases b
  · have h0 := hullH_out H4L.out hb
    rw [HRR.out.1] at h0
    have e0 := HRR.out.2
    rw [h0] at e0
    simp only at e0
    subst e0
    go_enter Try.func13, Try.ntmps13
    go_wp2_with fail
    refine (cs _ (Kp.refl _ _)).mono ?_
    rintro e w5 ⟨rfl, hk5⟩
    go_wp2_with fail
    go_ret2
    refine ⟨_, rfl, ?_, hk5⟩
    rw [h0]
    exact Src.nil _ _
  obtain ⟨b2, hb2⟩ : ∃ b, colB l = b := ⟨_, rfl⟩
  rw [hb2] at cc
  cases b2
  case true =>
    have h0 : hullH l = ([], 11) := by unfold hullH; rw [if_neg H4L.out, hb, hb2]; rfl
    rw [HRR.out.1] at h0
    have e0 := HRR.out.2
    rw [h0] at e0
    simp only at e0
    subst e0
    go_enter Try.func13, Try.ntmps13
    go_wp2_with fail
    refine (cs _ (Kp.refl _ _)).mono ?_
    rintro e w5 ⟨rfl, hk5⟩
    go_wp2_with fail
    refine (cc _ hk5).mono ?_
    rintro e w6 ⟨rfl, hk6⟩
    go_wp2_with fail
    go_ret2
    refine ⟨_, rfl, ?_, hk5.tr hk6⟩
    rw [h0]
    exact Src.nil _ _
  have hnf : ¬ FlatP l := fun h => by
    have := (colB_iff hb).2 h
    rw [hb2] at this
    cases this
  have hh := hull_exists hnf
  obtain ⟨s, hs⟩ : ∃ s, ringC (ascP l) = s := ⟨_, rfl⟩
  rw [hs] at hh
  have hr0 : r = if 160 < s.length then ([], 9) else (s, 0) := by
    rw [← HRR.out.1]
    unfold hullH
    rw [if_neg H4L.out, hb, hb2, hs]
    rfl
  obtain ⟨rn, hrn⟩ : ∃ x, s.length = x := ⟨_, rfl⟩
  rw [hrn] at hr0
  have hr3 : 3 ≤ rn := by rw [← hrn]; exact hh.conv.1
  have hr4 : rn ≤ n := by rw [← hrn, ← HN.out]; exact hull_sub hh (fun _ h => h)
  have hn0 : 0 < n := by omega
  have hn1 : (0 : Int) < (n : Int) := by omega
  have hn4 : n ≤ 400 := by omega
  have HRN := Lib.hid hrn
  have HR0 := Lib.hid hr0
  have HOKS := Lib.hid hb
  have HLH := Lib.hid (least_hull hh)
  have HNX := Lib.hid (show ∀ i, i < rn → nextTo l (at_ s i) = at_ s ((i + 1) % rn) from fun i hi => by
    have := hh.next (i := i) (by rw [hrn]; exact hi)
    rw [hrn] at this
    exact this)
  have HSM := Lib.hid (show ∀ i, i < rn → sOk (at_ s i) = true from fun i hi => allS_iff.1 hb _ (hh.mem i (by rw [hrn]; exact hi)))
  have HDI := Lib.hid (show ∀ i, 0 < i → i < rn → at_ s i ≠ at_ s 0 from fun i h0 hi e => by
    have := conv_distinct hh.conv (by rw [hrn]; exact hi) (by rw [hrn]; omega) e
    omega)
  clear hb hb2 hnf hh hs hrn hr0 h4
  go_enter Try.func13, Try.ntmps13
  go_wp2_with fail
  refine (cs _ (Kp.refl _ _)).mono ?_
  rintro e w5 ⟨rfl, hk5⟩
  go_wp2_with fail
  refine (cc _ hk5).mono ?_
  rintro e w6 ⟨rfl, hk6⟩
  have HK6 := Lib.hid (hk5.tr hk6)
  clear hk5 hk6 cs cc
  obtain ⟨g, o, e0, hg, hc⟩ := src_at HV.out hn0
  subst e0
  have HC := Lib.hid hc
  have HG := Lib.hid hg
  obtain ⟨⟨fx, fy⟩, ha⟩ : ∃ p, at_ l 0 = p := ⟨_, rfl⟩
  obtain ⟨y0, y1⟩ := hc w6 HK6.out 0 hn0
  rw [Nat.zero_mul, Nat.add_zero] at y0 y1
  rw [ha] at y0 y1
  have HA0 := Lib.hid ha
  clear hc hg ha
  go_upto_region 8 with fail
  generalize hwb : World.alloc _ (.cells #[.int .i64 fx, .int .i64 fy] _) = w7
  have HK7 := Lib.hid (HK6.out.tr (show Nw w6 w7 by rw [← hwb]; exact nw_alloc _ _))
  obtain ⟨B4, hB4⟩ : ∃ x, w6.heap.size = x := ⟨_, rfl⟩
  have HB47 := Lib.hid (show Blk w7 B4 32 #[.int .i64 fx, .int .i64 fy] by rw [← hwb, ← hB4]; exact Blk.new _ _ _)
  have HSZ := Lib.hid (show w.heap.size ≤ B4 by have := HK6.out.size; omega)
  rw [hB4]
  clear hwb y0 y1 hB4
  go_wp2_with fail
  go_loopw [5] (fun i wr => ∃ k : Nat, i = .int .i64 k ∧ k ≤ n ∧ Blk wr B4 32 #[.int .i64 (leastTo l k).1, .int .i64 (leastTo l k).2] ∧ Nw w wr) (fun i _ => n - (intOf i).toNat)
  case atStart => exact ⟨0, rfl, Nat.zero_le _, by rw [show leastTo l 0 = at_ l 0 from rfl, HA0.out]; exact HB47.out, HK7.out⟩
  case round =>
    obtain ⟨k, rfl, hk, hb4, hnw⟩ := hrel
    obtain ⟨⟨mx, my⟩, hm⟩ : ∃ p, leastTo l k = p := ⟨_, rfl⟩
    rw [hm] at hb4
    have HM := Lib.hid hm
    have HB4 := Lib.hid hb4
    clear hm hb4
    have HK := Lib.hid hnw
    clear hnw
    by_cases hkn : k < n
    · have i0 : (0 : Int) ≤ (k : Int) := by omega
      have i1 : (k : Int) < (n : Int) := by omega
      obtain ⟨s4, hs4⟩ : ∃ s : Nat, k + 1 = s := ⟨_, rfl⟩
      have a4 : IntKind.i64.wrap ((k : Int) + 1) = (s4 : Int) := by rw [IntKind.wrap_i64]; omega
      have H4 := Lib.hid hs4
      obtain ⟨⟨ax, ay⟩, ha⟩ : ∃ p, at_ l k = p := ⟨_, rfl⟩
      have q0 := fun p : KeptW wr => (HC.out p.wd (HK.out.tr p.since) k hkn).1
      have q1 := fun p : KeptW wr => (HC.out p.wd (HK.out.tr p.since) k hkn).2
      rw [ha] at q0 q1
      have q2 := fun p : KeptW wr => (HB4.out.kept p).cell 0
      have q3 := fun p : KeptW wr => (HB4.out.kept p).cell 1
      have cl := fun w1 => rless_any ax ay mx my w1
      obtain ⟨lb, hlb⟩ : ∃ b, lessV ax ay mx my = b := ⟨_, rfl⟩
      rw [hlb] at cl
      have HST := Lib.hid (show leastTo l (k + 1) = if lb then (ax, ay) else (mx, my) by
        show (if lessV (at_ l k).1 (at_ l k).2 (leastTo l k).1 (leastTo l k).2 then at_ l k else leastTo l k) = _
        rw [ha, HM.out, hlb])
      clear hs4 ha hlb
      go_upto_region 11 with fail
      refine wp_region_kept (Kp.refl _ _) (by assumption) (by kernel_rfl) ?_
      repeat (with_reducible refine wpQuiet_step (fun K hK => ?_); go_simp; first | ((with_reducible refine hK _ ?_); clear hK K) | (with_reducible apply Exists.intro; (with_reducible refine ⟨fun _ => ?_, hK _ ?_⟩); ((first | (go_at_call 28; with_reducible exact Calls.kept_of (cl _)) | fail)); clear hK K) | (simp only [undef, reduceCtorEq, if_false]; (with_reducible refine hK _ ?_); clear hK K))
      with_reducible refine wpQuiet_nil ?_
      rintro _ ⟨p, rfl⟩
      have z0 := q0 p
      have z1 := q1 p
      have HBP := Lib.hid (HB4.out.kept p)
      have HKP := Lib.hid (HK.out.tr p.since)
      obtain ⟨m0, m1, fz0, fz1⟩ := HBP.out.two
      generalize p.wd = wp at z0 z1 HBP HKP m0 m1 fz0 fz1 ⊢
      clear q0 q1 q2 q3 cl
      cases lb
      · go_wp2_with fail
        go_roundw
        case rel => exact ⟨k + 1, by rw [← H4.out], by omega, by rw [HST.out]; exact HBP.out, HKP.out⟩
        case measure => (have := H4.out; simp [intOf]; try omega)
      · go_wp2_with fail
        go_roundw
        case rel => exact ⟨k + 1, by rw [← H4.out], by omega, by rw [HST.out]; exact HBP.out.lay2 _ _, HKP.out.new2 HSZ.out _ _⟩
        case measure => (have := H4.out; simp [intOf]; try omega)
    · obtain rfl : k = n := by omega
      have i5 : ¬ ((k : Int) < (k : Int)) := by omega
      have hlh := HLH.out
      rw [HN.out, HM.out] at hlh
      have HF0 := Lib.hid hlh
      clear hlh
      have cn := next_any l mx my (.slice (some ⟨g, o, none⟩) k c)
      obtain ⟨y0, y1, _, _⟩ := HB4.out.two
      go_upto_region 14 with fail
      generalize hwb : World.alloc _ (.cells #[.int .i64 mx, .int .i64 my] _) = w8
      have HK8 := Lib.hid (HK.out.tr (show Nw wr w8 by rw [← hwb]; exact nw_alloc _ _))
      have HB48 := Lib.hid (HB4.out.kp (show Nw wr w8 by rw [← hwb]; exact nw_alloc _ _) id)
      have HO8 := Lib.hid (show w8.ownsRow (B4 + 1) 32 2 (.slice (some ⟨wr.heap.size, 0, none⟩) 1 1) 1 [.int .i64 mx, .int .i64 my] from by
        have hb := Blk.new wr 32 #[.int .i64 mx, .int .i64 my]
        rw [hwb] at hb
        have := HB4.out.lt
        exact ⟨rfl, .inr ⟨wr.heap.size, 1, _, rfl, by omega, hb, Nat.le_refl _, by unfold maxLen; omega, rfl, rfl⟩⟩)
      clear hwb y0 y1
      obtain ⟨y0, y1, _, _⟩ := HB48.out.two
      obtain ⟨GR, hGR⟩ : ∃ x, wr.heap.size = x := ⟨_, rfl⟩
      rw [hGR] at HO8 ⊢
      clear hGR
      go_wp2_with fail
      have hok0 : sOk (mx, my) = true := by rw [HF0.out]; exact HSM.out 0 (by omega)
      have hnx0 := HNX.out 0 (by omega)
      rw [← HF0.out] at hnx0
      refine (cn w8 (by have := HSV.out.nw HK8.out; exact this) (by rw [HN.out]; exact hl) HOKS.out hok0).mono ?_
      rintro e w9 ⟨rfl, hk9⟩
      rw [hnx0]
      obtain ⟨⟨px, py⟩, hp⟩ : ∃ p, at_ s ((0 + 1) % rn) = p := ⟨_, rfl⟩
      rw [hp]
      have HK9 := Lib.hid (HK8.out.tr hk9)
      have HB49 := Lib.hid (HB48.out.kp hk9 id)
      have HO9 := Lib.hid (own_nw HO8.out hk9)
      have HP1 := Lib.hid hp
      clear y0 y1 hk9 hp hok0 hnx0 cn
      go_upto_region 15 with fail
      generalize hwb : World.alloc _ (.cells #[.int .i64 px, .int .i64 py] _) = w10
      have HK10 := Lib.hid (HK9.out.tr (show Nw w9 w10 by rw [← hwb]; exact nw_alloc _ _))
      have HB410 := Lib.hid (HB49.out.kp (show Nw w9 w10 by rw [← hwb]; exact nw_alloc _ _) id)
      have HO10 := Lib.hid (own_nw HO9.out (show Nw w9 w10 by rw [← hwb]; exact nw_alloc _ _))
      have HG10 := Lib.hid (show Blk w10 w9.heap.size 32 #[.int .i64 px, .int .i64 py] by rw [← hwb]; exact Blk.new _ _ _)
      have HGN := Lib.hid (show GR ≠ w9.heap.size from fun e => by have := own_lt HO9.out GR rfl; omega)
      clear hwb
      go_loopw [6, 7] (fun ov p7 wr => ∃ (j G : Nat), 1 ≤ j ∧ j ≤ rn ∧ p7 = .pointer (some ⟨G, 0, none⟩) ∧ Blk wr G 32 #[.int .i64 (at_ s (j % rn)).1, .int .i64 (at_ s (j % rn)).2] ∧ wr.ownsRow (B4 + 1) 32 2 ov j ((s.take j).flatMap vC) ∧ (∀ g, ov.ownBlock = some g → g ≠ G) ∧ Blk wr B4 32 #[.int .i64 mx, .int .i64 my] ∧ Nw w wr) (fun ov p7 _ => rn - lenOf ov)
      case atStart =>
        refine ⟨1, w9.heap.size, Nat.le_refl _, by omega, rfl, ?_, ?_, fun g e => by have e1 : GR = g := by simpa [Value.ownBlock] using e
                                                                                     exact e1 ▸ HGN.out, HB410.out, HK10.out⟩
        · have := HP1.out
          rw [Nat.zero_add] at this
          rw [this]
          exact HG10.out
        · rw [show s.take 1 = [(mx, my)] by rw [take_at (k := 0) (by rw [HRN.out]; omega), ← HF0.out]; rfl]
          exact HO10.out
      case round =>
        obtain ⟨j, G, hj1, hj, rfl, hbg, hown, hne, hb4, hnw⟩ := hrel
        obtain ⟨A6, c6, rfl⟩ := (own_src hown).shape
        obtain ⟨⟨qx, qy⟩, hq⟩ : ∃ p, at_ s (j % rn) = p := ⟨_, rfl⟩
        rw [hq] at hbg
        have HQ := Lib.hid hq
        have HBG := Lib.hid hbg
        have HO := Lib.hid hown
        have HNE := Lib.hid hne
        have HB4J := Lib.hid hb4
        have HKJ := Lib.hid hnw
        have cq := fun w1 => neq_vecU qx qy mx my w1
        obtain ⟨z0, z1, _, _⟩ := HBG.out.two
        obtain ⟨z2, z3, _, _⟩ := HB4J.out.two
        clear hq hbg hown hne hb4 hnw
        have hmj : j % rn = if j < rn then j else 0 := by
          split
          · exact Nat.mod_eq_of_lt (by omega)
          · obtain rfl : j = rn := by omega
            exact Nat.mod_self _
        by_cases hjr : j < rn
        · have hnq : (!(qx == mx && qy == my)) = true := by
            rw [if_pos hjr] at hmj
            have hd := HDI.out j (by omega) hjr
            rw [← hmj, HQ.out, ← HF0.out] at hd
            by_cases e : qx = mx ∧ qy = my
            · exact absurd (by rw [e.1, e.2]) hd
            · simp only [Bool.not_eq_true', Bool.and_eq_false_iff, beq_eq_false_iff_ne]
              by_cases e1 : qx = mx
              · exact .inr fun e2 => e ⟨e1, e2⟩
              · exact .inl e1
          rw [hnq] at cq
          have hok : sOk (qx, qy) = true := by
            rw [if_pos hjr] at hmj
            rw [← HQ.out, hmj]
            exact HSM.out j hjr
          have hnx := HNX.out (j % rn) (by rw [hmj, if_pos hjr]; exact hjr)
          rw [HQ.out] at hnx
          have hmod : (j % rn + 1) % rn = (j + 1) % rn := Nat.mod_add_mod _ _ _
          rw [hmod] at hnx
          have htk : s.take (j + 1) = s.take j ++ [(qx, qy)] := by
            rw [take_at (by rw [HRN.out]; exact hjr)]
            rw [if_pos hjr] at hmj
            rw [← HQ.out, hmj]
          have HTK := Lib.hid htk
          have HNXJ := Lib.hid hnx
          have HOKJ := Lib.hid hok
          have hBz : B4 + 1 ≤ wr.heap.size := by have := HB4J.out.lt; omega
          clear hmj hnq hok hnx hmod htk
          go_upto_region 16 with (first
            | (at_builtin; refine wp_pushG rfl (.tmp 46) (.tmp 48) 25 32 2 16 (.agg #[.int .i64 0, .int .i64 0]) rfl Try.underlying25 infoP rfl (by omega) (B4 + 1) j _ ((s.take j).flatMap vC) [.int .i64 qx, .int .i64 qy] rfl HO.out rfl ?_ rfl ?_ ?_ hBz ?_; (intro u hu; simp at hu; rcases hu with rfl | rfl <;> rfl); omega; omega; intro v5 w5 own5 gr5; (have hbg5 := HBG.out.kp gr5.by_ (fun e => HNE.out G e rfl)); (obtain ⟨d0, d1, _, _⟩ := hbg5.two)))
          generalize hwb : World.alloc _ (.cells #[.int .i64 qx, .int .i64 qy] _) = w6
          have HK56 := Lib.hid (show Nw w5 w6 by rw [← hwb]; exact nw_alloc _ _)
          have HK6J := Lib.hid ((gr5.nw HKJ.out (fun g' e => by have := own_from HO.out g' e; have := HSZ.out; omega)).tr HK56.out)
          have HB46 := Lib.hid ((HB4J.out.kp gr5.by_ (fun e => by have := own_from HO.out B4 e; omega)).kp HK56.out id)
          have HO6 := Lib.hid (own_nw own5 HK56.out)
          have HG6 := Lib.hid (show Blk w6 w5.heap.size 32 #[.int .i64 qx, .int .i64 qy] by rw [← hwb]; exact Blk.new _ _ _)
          have HN6 := Lib.hid (show ∀ g', v5.ownBlock = some g' → g' ≠ w5.heap.size from fun g' e => by have := own_lt own5 g' e; omega)
          have HGB0 := Lib.hid (show w.heap.size ≤ w5.heap.size ∧ B4 ≠ w5.heap.size from by
            have a := HB4J.out.lt
            have b := gr5.by_.size
            have c := HSZ.out
            exact ⟨by omega, by omega⟩)
          obtain ⟨GN, hGN⟩ : ∃ x, w5.heap.size = x := ⟨_, rfl⟩
          rw [hGN] at HG6 HN6 HGB0 ⊢
          clear hwb own5 gr5 hbg5 d0 d1 z0 z1 z2 z3 hGN
          obtain ⟨z0, z1, _, _⟩ := HG6.out.two
          go_wp2_with fail
          have hvs := HSV.out.nw HK6J.out
          refine (next_any l qx qy _ w6 hvs (by rw [HN.out]; exact hl) HOKS.out HOKJ.out).mono ?_
          rintro e w7 ⟨rfl, hk7⟩
          rw [HNXJ.out]
          obtain ⟨⟨nx, ny⟩, hn'⟩ : ∃ p, at_ s ((j + 1) % rn) = p := ⟨_, rfl⟩
          rw [hn']
          have HNN := Lib.hid hn'
          have HG7 := Lib.hid (HG6.out.kp hk7 id)
          have HB47 := Lib.hid (HB46.out.kp hk7 id)
          have HO7 := Lib.hid (own_nw HO6.out hk7)
          have HK7J := Lib.hid (HK6J.out.tr hk7)
          clear hn' hk7 z0 z1 hvs
          obtain ⟨z0, z1, f0, f1⟩ := HG7.out.two
          obtain ⟨A7, c7, rfl⟩ := (own_src HO7.out).shape
          go_wp2_with fail
          go_roundw
          case rel =>
            refine ⟨j + 1, GN, by omega, by omega, rfl, ?_, ?_, HN6.out, HB47.out.far2 HGB0.out.2 _ _, HK7J.out.new2 HGB0.out.1 _ _⟩
            · rw [HNN.out]
              exact HG7.out.lay2 _ _
            · rw [HTK.out, List.flatMap_append]
              exact own_kp HO7.out (kp_two w7 GN _ _) (fun g' e e2 => HN6.out g' e e2)
          case measure => (simp [lenOf]; try omega)
        · obtain rfl : j = rn := by omega
          have hnq : (!(qx == mx && qy == my)) = false := by
            have h0 := HQ.out
            rw [Nat.mod_self, ← HF0.out] at h0
            injection h0 with e1 e2
            rw [e1, e2]
            simp
          rw [hnq] at cq
          have hsrc : SrcV wr (.slice A6 j c6) s := by
            have := own_src HO.out
            rw [List.take_of_length_le (by rw [HRN.out]; exact Nat.le_refl _)] at this
            show Src _ 2 _ s.length _
            rw [HRN.out]
            exact this
          have HSRC := Lib.hid hsrc
          have hr0 := HR0.out
          clear hsrc hnq hmj hjr
          by_cases h1 : 160 < j
          · have f1 : ((j : Int) > 160) := by omega
            rw [if_pos h1] at hr0
            have e0 := HRR.out.2
            rw [hr0] at e0
            simp only at e0
            subst e0
            have HR1 := Lib.hid hr0
            clear hr0 h1
            go_wp2_with fail
            go_ret2
            refine ⟨_, rfl, ?_, HKJ.out⟩
            rw [HR1.out]
            exact Src.nil _ _
          · have f1 : ¬ ((j : Int) > 160) := by omega
            rw [if_neg h1] at hr0
            have e0 := HRR.out.2
            rw [hr0] at e0
            simp only at e0
            subst e0
            have HR1 := Lib.hid hr0
            clear hr0 h1
            go_wp2_with fail
            go_ret2
            refine ⟨_, rfl, ?_, HKJ.out⟩
            rw [HR1.out]
            exact HSRC.out

end Go.Proofs.Ythbgapcplgigoaa.W

namespace Go.Proofs.Ythbgapcplgigoaa.W
open Go.RowKit Go.Proofs.Ythbgapcplgigoaa.V

theorem place_le (x : Int × Int) : ∀ l : List (Int × Int), place x l ≤ l.length
  | [] => Nat.le_refl 0
  | y :: r => by
    have := place_le x r
    rw [place]
    split
    · simp; omega
    · simp
theorem place_lt {x : Int × Int} : ∀ {l : List (Int × Int)} {q : Nat}, q < place x l → ∃ y, l[q]? = some y ∧ lessV y.1 y.2 x.1 x.2 = true
  | [], q, h => absurd h (Nat.not_lt_zero q)
  | y :: r, q, h => by
    rw [place] at h
    split at h
    · rename_i hy
      cases q with
      | zero => exact ⟨y, rfl, hy⟩
      | succ q =>
        obtain ⟨z, hz, hl⟩ := place_lt (x := x) (l := r) (q := q) (by omega)
        exact ⟨z, by simpa using hz, hl⟩
    · exact absurd h (Nat.not_lt_zero q)
theorem place_at {x : Int × Int} : ∀ {l : List (Int × Int)}, place x l < l.length → ∃ y, l[place x l]? = some y ∧ lessV y.1 y.2 x.1 x.2 = false
  | [], h => absurd h (Nat.not_lt_zero _)
  | y :: r, h => by
    by_cases hy : lessV y.1 y.2 x.1 x.2 = true
    · have hp : place x (y :: r) = place x r + 1 := if_pos hy
      rw [hp] at h ⊢
      obtain ⟨z, hz, hl⟩ := place_at (l := r) (x := x) (by simpa using h)
      exact ⟨z, by simpa using hz, hl⟩
    · have hp : place x (y :: r) = 0 := if_neg hy
      rw [hp]
      exact ⟨y, rfl, by simpa using hy⟩
theorem insU_len (out : List (Int × Int)) (x : Int × Int) : (insU out x).length ≤ out.length + 1 := by
  have := place_le x out
  unfold insU
  split
  · omega
  · simp
    omega
theorem ins_take {l : List (Int × Int)} {k : Nat} {x : Int × Int} (h : l[k]? = some x) : insAll (l.take (k + 1)) = insU (insAll (l.take k)) x := by
  unfold insAll
  rw [List.take_add_one, h, Option.toList_some, List.foldl_append]
  rfl
end Go.Proofs.Ythbgapcplgigoaa.W

namespace Go.Proofs.Ythbgapcplgigoaa.W
open Go.RowKit Go.Proofs.Ythbgapcplgigoaa.V

theorem elemVec : Try.prog.elem 22 = 32 := by kernel_rfl
theorem infoVec : (Try.prog.info? 32).map (fun i => (i.zero, i.size, i.bytes)) = some (some (.agg #[.int .i64 0, .int .i64 0]), 2, 16) := by kernel_rfl
section
variable {w : World} {ops : Array Oper} {o : Oper} {a : Act} {K : Act → World → Prop} {Q : Exit → Act → World → Prop} {E : Prop}
theorem step_appV (hgd : o.guard = none) (s x : Operand) (ho : o.op = .call { callee := .builtin .append, args := #[s, x], argTypes := #[22, 22] })
    (B n m : Nat) (v u : Value) (vs us : List Value) (hs : a.eval s = v) (hown : w.ownsRow B 32 2 v n vs) (hx : a.eval x = u) (hsrc : Src w 2 u m us) (hone : ∀ u ∈ us, u.oneCell' = true)
    (hlen : (n + m) * 16 ≤ 140737488355328) (hB : B ≤ w.heap.size)
    (h : ∀ v' w', w'.ownsRow B 32 2 v' (n + m) (vs ++ us) → Grew w w' v v' → K (a.put o.dst v') w') :
    if Region.wanted o (yielded ops a.tmps) = true then Oper.wp Try.prog o a w K Q else E := by
  have hw : Region.wanted o (yielded ops a.tmps) = true := by simp [Region.wanted, hgd]
  rw [if_pos hw]
  obtain ⟨v', w', hr, h1, h2⟩ := run_appG o.type 22 32 2 16 (.agg #[.int .i64 0, .int .i64 0]) Try.underlying22 infoVec rfl (by omega) B n m v u vs us hown hsrc hone hlen (by omega) hB
  unfold Oper.wp execOp
  simp only [ho, resolve, invoke, builtin, Sem.run_bind, Sem.run_pure, Result.andThen_ok, List.map_toArray, List.map_cons, List.map_nil, hs, hx, hr]
  exact h v' w' h1 h2
end
theorem take_one (l : List (Int × Int)) (k : Nat) : ∀ u ∈ (l.flatMap vC).take k, u.oneCell' = true := fun u hu => flatV_one l u (List.mem_of_mem_take hu)
theorem drop_one (l : List (Int × Int)) (k : Nat) : ∀ u ∈ (l.flatMap vC).drop k, u.oneCell' = true := fun u hu => flatV_one l u (List.mem_of_mem_drop hu)
theorem own_lit_at {base : Nat} (w : World) (n : Nat) (h : w.heap.size = n) (hb : base ≤ n) : (w.alloc (.cells #[] 32)).ownsRow base 32 2 (.slice (some ⟨n, 0, none⟩) 0 0) 0 [] := by
  subst h
  exact World.ownsRow_lit w #[] 0 hb (Nat.zero_le _) rfl
/-- a new slice of one vector -/
theorem src_one {w : World} {g : Nat} {x y : Int} (h : Blk w g 32 #[.int .i64 x, .int .i64 y]) : Src w 2 (.slice (some ⟨g, 0, none⟩) 1 1) 1 [.int .i64 x, .int .i64 y] := by
  refine ⟨rfl, _, _, rfl, Nat.le_refl _, by unfold maxLen; omega, fun _ => ⟨g, 0, rfl, h.lt, fun j u hu => ?_⟩⟩
  rw [Nat.zero_add, h.cell j, ← hu]
  exact List.getElem?_toArray
end Go.Proofs.Ythbgapcplgigoaa.W
