/-
  hull: Convex: what it returns. Condition: the list is not longer than 2^40.
-/
import Derived.Test.YthbgapcplgigoaaK06
namespace Go.Proofs.Ythbgapcplgigoaa.W
open Go.RowKit Go.Proofs.Ythbgapcplgigoaa.V Go.Proofs.Ythbgapcplgigoaa.G


theorem convQ_short {l : List Pt} (h : l.length < 3 ∨ 160 < l.length ∨ allS l = false) : convB l = false := convB_short h
theorem convQ_rows {l : List Pt} (h3 : 3 ≤ l.length) (h1 : l.length ≤ 160) (hs : allS l = true) : convB l = (allTo l.length (fun i => decide (0 < turnI l i)) && (lowN l l.length == 1)) := by
  rw [← convQ_eq]
  unfold convQ
  rw [decide_eq_true h3, decide_eq_true h1, hs]
  rfl
theorem two_new (w : World) (t : TypeId) (a b : Array Value) : Blk ((w.alloc (.cells a t)).alloc (.cells b t)).drew w.heap.size t a ∧ Blk ((w.alloc (.cells a t)).alloc (.cells b t)).drew (w.heap.size + 1) t b ∧ Nw w ((w.alloc (.cells a t)).alloc (.cells b t)).drew :=
  ⟨((Blk.new w t a).alloc _).drew, (Blk.new_at _ t b (by simp)).drew, ((nw_alloc w _).alloc _).drew⟩

set_option maxRecDepth 100000 in
set_option maxHeartbeats 6400000 in
theorem conv_any (l : List (Int × Int)) (v : Value) (w : World) (hv : SrcV w v l) (hl : l.length ≤ 1099511627776)  : Calls Try.prog 21 #[v] w fun e w' => e = .returned (.bool (convB l)) ∧ Nw w w' := by
  obtain ⟨A, c, rfl⟩ := hv.shape
  obtain ⟨n, hn⟩ : ∃ n, l.length = n := ⟨_, rfl⟩
  replace hv := src_n hv hn
  rw [hn] at hl ⊢
  have HV := Lib.hid hv
  have HN := Lib.hid hn
  have hmx := src_max hv
  clear hv hn
  have hmix := mixed7
  by_cases h3 : n < 3
  · have f3 : ((n : Int) < 3) := by omega
    go_enter Try.func21, Try.ntmps21
    go_wp2_with fail
    go_ret
    refine ⟨?_, (by repeat (first | exact Kp.refl _ _ | refine Kp.alloc ?_ _ | refine Kp.drew ?_))⟩
    show Ending.returned (.bool false) = _
    rw [convB_short (.inl (by rw [HN.out]; exact h3))]
  have f3 : ¬ ((n : Int) < 3) := by omega
  by_cases h1 : 160 < n
  · have f1 : ((n : Int) > 160) := by omega
    go_enter Try.func21, Try.ntmps21
    go_wp2_with fail
    go_ret
    refine ⟨?_, (by repeat (first | exact Kp.refl _ _ | refine Kp.alloc ?_ _ | refine Kp.drew ?_))⟩
    show Ending.returned (.bool false) = _
    rw [convB_short (.inr (.inl (by rw [HN.out]; exact h1)))]
  have f1 : ¬ ((n : Int) > 160) := by omega
  have cs := fun w1 (h : SrcV w1 (.slice A n c) l) => hWithin_any l (.slice A n c) w1 h
  obtain ⟨b, hb⟩ : ∃ b, allS l = b := ⟨_, rfl⟩
  rw [hb] at cs
  have HS := Lib.hid hb
  clear hb
  have hsv := Lib.hid (src_v HV.out HN.out)
  cases b
  · go_enter Try.func21, Try.ntmps21
    go_wp2_with (go_at_call 34; ((with_reducible refine (cs _ (hsv.out.nw (by repeat (first | exact Kp.refl _ _ | refine Kp.alloc ?_ _ | refine Kp.drew ?_)))).mono ?_); rintro e w5 ⟨rfl, hk5⟩))
    go_ret
    refine ⟨?_, hk5⟩
    show Ending.returned (.bool false) = _
    rw [convB_short (.inr (.inr HS.out))]
  rw [convQ_rows (l := l) (by rw [HN.out]; omega) (by rw [HN.out]; omega) HS.out, HN.out]
  go_enter Try.func21, Try.ntmps21
  go_wp2_with (go_at_call 34; ((with_reducible refine (cs _ (hsv.out.nw (by repeat (first | exact Kp.refl _ _ | refine Kp.alloc ?_ _ | refine Kp.drew ?_)))).mono ?_); rintro e w5 ⟨rfl, hk5⟩))
  have HK5 := Lib.hid hk5
  clear hk5 cs hsv f1 f3
  go_loopw [3, 23] (fun lo i wr => ∃ k : Nat, i = .int .i64 k ∧ k ≤ n ∧ lo = .int .i64 (lowN l k : Nat) ∧ (∀ a, a < k → decide (0 < turnI l a) = true) ∧ Nw w5 wr) (fun lo i _ => n - (intOf i).toNat)
  case atStart => exact ⟨0, rfl, Nat.zero_le _, rfl, fun a h => absurd h (Nat.not_lt_zero _), (by repeat (first | exact Kp.refl _ _ | refine Kp.alloc ?_ _ | refine Kp.drew ?_))⟩
  case round =>
    obtain ⟨k, rfl, hk, rfl, hall, hnw⟩ := hrel
    have HA := Lib.hid hall
    clear hall
    have HLO := Lib.hid (lowN_le l k)
    obtain ⟨lo, hlo⟩ : ∃ x, lowN l k = x := ⟨_, rfl⟩
    rw [hlo] at HLO ⊢
    have HLE := Lib.hid hlo
    clear hlo
    have HK := Lib.hid hnw
    clear hnw
    by_cases hkn : k < n
    · have i0 : (0 : Int) ≤ (k : Int) := by omega
      have i1 : (k : Int) < (n : Int) := by omega
      obtain ⟨s4, hs4⟩ : ∃ s : Nat, k + 1 = s := ⟨_, rfl⟩
      have a4 : IntKind.i64.wrap ((k : Int) + 1) = (s4 : Int) := by rw [IntKind.wrap_i64]; omega
      have H4 := Lib.hid hs4
      have hn0 : 0 < n := by omega
      obtain ⟨s5, hs5⟩ : ∃ s : Nat, (k + 1) % n = s := ⟨_, rfl⟩
      have l5 : s5 < n := by rw [← hs5]; exact Nat.mod_lt _ hn0
      have a5 : (s4 : Int).tmod (n : Int) = (s5 : Int) := by rw [tmod_nat, ← hs4, hs5]
      have z0 : ¬ (n = 0) := by omega
      have b4 : (0 : Int) ≤ (s5 : Int) := by omega
      have b5 : (s5 : Int) < (n : Int) := by omega
      obtain ⟨s1, hs1⟩ : ∃ s : Nat, k + n = s := ⟨_, rfl⟩
      obtain ⟨s2, hs2⟩ : ∃ s : Nat, k + n - 1 = s := ⟨_, rfl⟩
      obtain ⟨s3, hs3⟩ : ∃ s : Nat, (k + n - 1) % n = s := ⟨_, rfl⟩
      have l3 : s3 < n := by rw [← hs3]; exact Nat.mod_lt _ hn0
      have a1 : IntKind.i64.wrap ((k : Int) + (n : Int)) = (s1 : Int) := by rw [IntKind.wrap_i64]; omega
      have a2 : IntKind.i64.wrap ((s1 : Int) - 1) = (s2 : Int) := by rw [IntKind.wrap_i64]; omega
      have a3 : (s2 : Int).tmod (n : Int) = (s3 : Int) := by rw [tmod_nat, ← hs2, hs3]
      have b2 : (0 : Int) ≤ (s3 : Int) := by omega
      have b3 : (s3 : Int) < (n : Int) := by omega
      obtain ⟨x1, hx1⟩ : ∃ x, lo + 1 = x := ⟨_, rfl⟩
      have a6 : IntKind.i64.wrap ((lo : Int) + 1) = (x1 : Int) := by have := HLO.out; rw [IntKind.wrap_i64]; omega
      obtain ⟨g, o, rfl, hg, hc⟩ := src_at HV.out (by omega)
      obtain ⟨⟨ax, ay⟩, ha⟩ : ∃ p, at_ l s3 = p := ⟨_, rfl⟩
      obtain ⟨⟨bx, bz⟩, hb⟩ : ∃ p, at_ l k = p := ⟨_, rfl⟩
      obtain ⟨⟨cx, cy⟩, hcc⟩ : ∃ p, at_ l s5 = p := ⟨_, rfl⟩
      have hT : turnI l k = turnV ax ay bx bz cx cy := by unfold turnI; rw [HN.out, hs3, hs5, ha, hb, hcc]; rfl
      have hL : lowB l k = (lessV bx bz ax ay && lessV bx bz cx cy) := by unfold lowB; rw [HN.out, hs3, hs5, ha, hb, hcc]
      have HC := Lib.hid (show ∀ w', Nw wr w' → (w'.cell? ⟨g, o + s3 * 2, none⟩ = some (.int .i64 ax) ∧ w'.cell? ⟨g, o + s3 * 2 + 1, none⟩ = some (.int .i64 ay)) ∧ (w'.cell? ⟨g, o + s5 * 2, none⟩ = some (.int .i64 cx) ∧ w'.cell? ⟨g, o + s5 * 2 + 1, none⟩ = some (.int .i64 cy)) from fun w' h => by
        have y := hc w' (HK5.out.tr (HK.out.tr h))
        have y1 := y s3 l3
        have y2 := y s5 l5
        rw [ha] at y1
        rw [hcc] at y2
        exact ⟨y1, y2⟩)
      obtain ⟨y0, y1⟩ := hc wr (HK5.out.tr HK.out) k hkn
      rw [hb] at y0 y1
      have ct := fun w1 => turn_any ax ay bx bz cx cy w1
      have cl1 := fun w1 => less_any bx bz ax ay w1
      have cl2 := fun w1 => less_any bx bz cx cy w1
      obtain ⟨t, ht⟩ : ∃ t, turnV ax ay bx bz cx cy = t := ⟨_, rfl⟩
      obtain ⟨lb1, hl1⟩ : ∃ t, lessV bx bz ax ay = t := ⟨_, rfl⟩
      obtain ⟨lb2, hl2⟩ : ∃ t, lessV bx bz cx cy = t := ⟨_, rfl⟩
      rw [ht] at ct hT
      rw [hl1] at cl1 hL
      rw [hl2] at cl2 hL
      obtain ⟨b, hb0⟩ : ∃ b, decide (t ≤ 0) = b := ⟨_, rfl⟩
      have HT := Lib.hid (show decide (0 < turnI l k) = !b by rw [hT, ← hb0, ← decide_not]; exact decide_eq_decide.2 (by omega))
      have HL := Lib.hid hL
      have HX1 := Lib.hid hx1
      clear hc hg hs1 hs2 hs3 hs4 hs5 l3 l5 hT hL ha hb hcc ht hl1 hl2 hx1
      go_upto_region 7 with fail
      generalize hwb : World.alloc _ (.cells #[.int .i64 bx, .int .i64 bz] _) = wb
      have HKB := Lib.hid (show Nw wr wb by rw [← hwb]; exact nw_alloc _ _)
      have HBB := Lib.hid (show Blk wb wr.heap.size 32 #[.int .i64 bx, .int .i64 bz] by rw [← hwb]; exact Blk.new _ _ _)
      obtain ⟨G, hG⟩ : ∃ G, wr.heap.size = G := ⟨_, rfl⟩
      rw [hG] at HBB ⊢
      clear hwb y0 y1 hG
      go_cut [6, 7] from 28 to 46 (fun p6 p7 wx => ∃ g6 g7, p6 = .pointer (some ⟨g6, 0, none⟩) ∧ p7 = .pointer (some ⟨g7, 0, none⟩) ∧ Blk wx g6 32 #[.int .i64 ax, .int .i64 ay] ∧ Blk wx g7 32 #[.int .i64 cx, .int .i64 cy] ∧ Nw wb wx)
      case first =>
        have HP := Lib.hid (show ∀ w', Nw wb w' → w'.cell? (⟨g, o + s3 * 2, none⟩ : Addr) = some (.int .i64 ax) ∧ w'.cell? (⟨g, o + s3 * 2 + 1, none⟩ : Addr) = some (.int .i64 ay) ∧ w'.cell? (⟨g, o + s5 * 2, none⟩ : Addr) = some (.int .i64 cx) ∧ w'.cell? (⟨g, o + s5 * 2 + 1, none⟩ : Addr) = some (.int .i64 cy) from fun w' h => by
          obtain ⟨⟨p0, p1⟩, p2, p3⟩ := HC.out w' (HKB.out.tr h)
          exact ⟨p0, p1, p2, p3⟩)
        clear cl1 cl2 ct a6
        go_wp2_with fail
        go_region_held3 (fun w' : World => w'.cell? (⟨g, o + s3 * 2, none⟩ : Addr) = some (.int .i64 ax) ∧ w'.cell? (⟨g, o + s3 * 2 + 1, none⟩ : Addr) = some (.int .i64 ay) ∧ w'.cell? (⟨g, o + s5 * 2, none⟩ : Addr) = some (.int .i64 cx) ∧ w'.cell? (⟨g, o + s5 * 2 + 1, none⟩ : Addr) = some (.int .i64 cy))
          (first | ((refine HP.out _ ?_); (repeat (first | exact Kp.refl _ _ | refine Kp.alloc ?_ _ | refine Kp.drew ?_ | refine Kp.new ?_ (by simp; try omega) _ _))))
          (fail)
        all_goals (go_wp2_with fail; go_meet; case rel => (obtain ⟨k0, k1, k4⟩ := two_new wb 32 _ _; exact ⟨_, _, rfl, rfl, by first | exact k0 | exact k1, by first | exact k0 | exact k1, k4⟩))
      case rest =>
        obtain ⟨w3, hw3⟩ : ∃ w3, w3 = wc := ⟨_, rfl⟩
        subst hw3
        obtain ⟨g6, g7, rfl, rfl, b6, b7, hkc⟩ := hcut
        have HC2 := Lib.hid (show ∀ w', Nw w3 w' → (w'.cell? (⟨g6, 0, none⟩ : Addr) = some (.int .i64 ax) ∧ w'.cell? (⟨g6, 1, none⟩ : Addr) = some (.int .i64 ay)) ∧ (w'.cell? (⟨G, 0, none⟩ : Addr) = some (.int .i64 bx) ∧ w'.cell? (⟨G, 1, none⟩ : Addr) = some (.int .i64 bz)) ∧ (w'.cell? (⟨g7, 0, none⟩ : Addr) = some (.int .i64 cx) ∧ w'.cell? (⟨g7, 1, none⟩ : Addr) = some (.int .i64 cy)) from fun w' h => by
          have e6 := b6.kp h id
          have e7 := b7.kp h id
          have e5 := HBB.out.kp (hkc.tr h) id
          exact ⟨⟨e6.cell 0, e6.cell 1⟩, ⟨e5.cell 0, e5.cell 1⟩, ⟨e7.cell 0, e7.cell 1⟩⟩)
        have HK3 := Lib.hid (HK.out.tr (HKB.out.tr hkc))
        clear b6 b7 hkc a1 a2 a3 a5 HKB HBB HC
        obtain ⟨⟨y0, y1⟩, ⟨y2, y3⟩, ⟨y4, y5⟩⟩ := HC2.out w3 (Kp.refl _ _)
        go_wp2_with fail
        with_reducible refine (ct _).mono ?_
        rintro e w6 ⟨rfl, hk6⟩
        clear y0 y1 y2 y3 y4 y5
        obtain ⟨⟨y0, y1⟩, ⟨y2, y3⟩, ⟨y4, y5⟩⟩ := HC2.out w6 hk6
        have HK6 := Lib.hid (HK3.out.tr hk6)
        have HD6 := Lib.hid hk6
        clear hk6
        cases b
        · go_wp2_with fail
          with_reducible refine (cl1 _).mono ?_
          rintro e w7 ⟨rfl, hk7⟩
          clear y0 y1 y2 y3 y4 y5
          obtain ⟨⟨y0, y1⟩, ⟨y2, y3⟩, ⟨y4, y5⟩⟩ := HC2.out w7 (HD6.out.tr hk7)
          have HK7 := Lib.hid (HK6.out.tr hk7)
          have HD7 := Lib.hid (HD6.out.tr hk7)
          clear hk7
          cases lb1
          · go_wp2_with fail
            go_roundw
            case rel =>
              refine ⟨k + 1, by rw [← H4.out], by omega, ?_, fun j hj => ?_, HK7.out⟩
              · show _ = Value.int .i64 ((lowN l k + if lowB l k then 1 else 0 : Nat) : Int)
                rw [HL.out, HLE.out]; rfl
              · rcases Nat.lt_or_ge j k with h | h
                · exact HA.out j h
                · obtain rfl : j = k := by omega
                  exact HT.out
            case measure => (have := H4.out; simp [intOf]; try omega)
          · go_wp2_with fail
            with_reducible refine (cl2 _).mono ?_
            rintro e w8 ⟨rfl, hk8⟩
            clear y0 y1 y2 y3 y4 y5
            have HK8 := Lib.hid (HK7.out.tr hk8)
            clear hk8
            cases lb2 <;>
            · go_wp2_with fail
              go_roundw
              case rel =>
                refine ⟨k + 1, by rw [← H4.out], by omega, ?_, fun j hj => ?_, HK8.out⟩
                · show _ = Value.int .i64 ((lowN l k + if lowB l k then 1 else 0 : Nat) : Int)
                  rw [HL.out, HLE.out]
                  first | rfl | (have := HX1.out; show Value.int .i64 (x1 : Int) = Value.int .i64 ((lo + 1 : Nat) : Int); rw [this])
                · rcases Nat.lt_or_ge j k with h | h
                  · exact HA.out j h
                  · obtain rfl : j = k := by omega
                    exact HT.out
              case measure => (have := H4.out; simp [intOf]; try omega)
        · go_wp2_with fail
          go_ret
          refine ⟨?_, HK5.out.tr HK6.out⟩
          show Ending.returned (.bool false) = _
          rw [allTo_not (p := fun i => decide (0 < turnI l i)) hkn HT.out]
          rfl
    · obtain rfl : k = n := by omega
      have i5 : ¬ ((k : Int) < (k : Int)) := by omega
      obtain ⟨b, hb0⟩ : ∃ b, ((lo : Int) == 1) = b := ⟨_, rfl⟩
      go_wp2_with fail
      go_ret
      refine ⟨?_, HK5.out.tr HK.out⟩
      show Ending.returned (.bool b) = _
      rw [allTo_iff.2 HA.out, HLE.out, ← hb0, Bool.true_and]
      congr 2
      apply Bool.eq_iff_iff.2
      simp only [beq_iff_eq]
      omega

end Go.Proofs.Ythbgapcplgigoaa.W
