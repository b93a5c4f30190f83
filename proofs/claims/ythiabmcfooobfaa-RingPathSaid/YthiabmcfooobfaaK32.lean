/-
  ring: a row of vectors that the call has made, known whole. No condition.
  ring: Move: what it returns. Condition: the list is not longer than 2^40.
  ring: the reference's Move: it returns what the program's does. Conditions: the vector's coordinates are integers of 64 bits; the list is not longer than 2^40.
  ring, plain: around a ring a height is crossed an even number of times; a point beyond the limits is not inside; a moved ring has the same area, turns and places. Conditions: those of each sentence.
  ring, plain: a moved ring has the same area and turns, and moved points lie at the same places. Conditions: the moved ring is within the limits.
  RingMove: the law returns true, whatever its arguments. Condition: the vector's coordinates are integers of 64 bits.
-/
import Derived.Test.YthiabmcfooobfaaK15
import Derived.Test.YthiabmcfooobfaaK24
import Derived.Test.YthiabmcfooobfaaK19
import Derived.Test.YthiabmcfooobfaaK04
import Derived.Test.YthiabmcfooobfaaK30
import Derived.Test.YthiabmcfooobfaaK13
import Derived.Test.YthiabmcfooobfaaK26
namespace Go.Proofs.Ythiabmcfooobfaa.W
open Go.RowKit Go.Proofs.Ythiabmcfooobfaa.V Go.Proofs.Ythiabmcfooobfaa.G

abbrev RowB (w : World) (g : Nat) (l : List (Int × Int)) : Prop := Blk w g 23 (l.flatMap vC).toArray
theorem flatV_set : ∀ (l : List (Int × Int)) (k : Nat) (a b : Int), ((l.flatMap vC).set (k * 2) (.int .i64 a)).set (k * 2 + 1) (.int .i64 b) = (l.set k (a, b)).flatMap vC
  | [], k, a, b => rfl
  | q :: r, 0, a, b => rfl
  | q :: r, k + 1, a, b => by
    rw [List.set_cons_succ, List.flatMap_cons, List.flatMap_cons, ← flatV_set r k a b]
    show ((Value.int .i64 q.1 :: Value.int .i64 q.2 :: r.flatMap vC).set ((k + 1) * 2) _).set ((k + 1) * 2 + 1) _ = _
    rw [show (k + 1) * 2 = k * 2 + 1 + 1 by omega]
    rfl
theorem RowB.set_ {w : World} {g : Nat} {l : List (Int × Int)} (h : RowB w g l) (k : Nat) (a b : Int) : RowB ((w.setCell ⟨g, k * 2, none⟩ (.int .i64 a)).setCell ⟨g, k * 2 + 1, none⟩ (.int .i64 b)) g (l.set k (a, b)) := by
  have := Blk.set_ (Blk.set_ h (k * 2) (.int .i64 a)) (k * 2 + 1) (.int .i64 b)
  rw [List.setIfInBounds_toArray, List.setIfInBounds_toArray, flatV_set] at this
  exact this
theorem RowB.at_ {w : World} {g : Nat} {l : List (Int × Int)} (h : RowB w g l) {k : Nat} {e : Int × Int} (hk : l[k]? = some e) : (w.cell? ⟨g, k * 2, none⟩ = some (.int .i64 e.1) ∧ w.cell? ⟨g, k * 2 + 1, none⟩ = some (.int .i64 e.2)) ∧ w.frozen? ⟨g, k * 2, none⟩ = false ∧ w.frozen? ⟨g, k * 2 + 1, none⟩ = false := by
  obtain ⟨f1, f2⟩ := flatV_at l k e hk
  refine ⟨⟨?_, ?_⟩, h.frozen _, h.frozen _⟩
  · rw [h.cell]; simpa using f1
  · rw [h.cell]; simpa using f2
theorem RowB.src {w : World} {g : Nat} {l : List (Int × Int)} (h : RowB w g l) {n : Nat} (hn : l.length = n) (hm : n ≤ maxLen) : SrcV w (.slice (some ⟨g, 0, none⟩) n n) l := by
  subst hn
  refine ⟨flatV_len l, _, _, rfl, Nat.le_refl _, hm, fun _ => ⟨g, 0, rfl, h.lt, fun j u hu => ?_⟩⟩
  rw [Nat.zero_add, h.cell j, ← hu]
  exact List.getElem?_toArray
theorem made_vecs (n : Nat) : madeCells #[Value.int .i64 0, .int .i64 0] (n * 2) = ((List.replicate n ((0, 0) : Int × Int)).flatMap vC).toArray := by
  have hl : ((List.replicate n ((0, 0) : Int × Int)).flatMap vC) = List.replicate (n * 2) (.int .i64 0) := by
    induction n with
    | zero => rfl
    | succ n ih => rw [List.replicate_succ, List.flatMap_cons, ih, show (n + 1) * 2 = n * 2 + 1 + 1 by omega, List.replicate_succ, List.replicate_succ]; rfl
  rw [hl]
  apply Array.ext_getElem?
  intro j
  by_cases hj : j < n * 2
  · rcases Nat.mod_two_eq_zero_or_one j with h | h <;> simp [madeCells, hj, h]
  · simp [madeCells, hj]
theorem make_ring (n : Nat) (hn : n ≤ 1099511627776) (w : World) : (Instr.makeSlice 74 (.int .i64 (n : Int)) (.int .i64 (n : Int))).run Try.prog w = .ok (.slice (some ⟨w.heap.size, 0, none⟩) n n) (w.alloc (.cells ((List.replicate n ((0, 0) : Int × Int)).flatMap vC).toArray 23)) := by
  obtain ⟨i0, hi, hz, hs, hb⟩ := vec_info
  have hr := run_make (P := Try.prog) w 74 23 i0 (vV 0 0) Try.underlying74 hi hz .i64 .i64 n n (by omega) (Int.le_refl _) (by rw [hb]; omega) (by omega)
  simp only [Int.toNat_natCast, hs] at hr
  rw [← made_vecs]
  exact hr
end Go.Proofs.Ythiabmcfooobfaa.W

namespace Go.Proofs.Ythiabmcfooobfaa.W
open Go.RowKit Go.Proofs.Ythiabmcfooobfaa.V Go.Proofs.Ythiabmcfooobfaa.G


set_option maxRecDepth 100000 in
set_option maxHeartbeats 6400000 in
theorem move_any (l : List (Int × Int)) (v : Value) (vx vy : Int) (w : World) (hv : SrcV w v l) (hl : l.length ≤ 1099511627776) : Calls Try.prog 82 #[v, vV vx vy] w fun e w' => ∃ v', e = .returned (.tuple #[v', .int .i64 (moveR l (vx, vy)).2]) ∧ SrcV w' v' (moveR l (vx, vy)).1 ∧ Nw w w' := by
  have hmix := mixed7
  have cv := fun w1 (h : Nw w w1) => ringValid_any l v w1 (hv.nw h) hl
  obtain ⟨w0, hw0⟩ : ∃ w0, w.alloc (.cells #[.int .i64 vx, .int .i64 vy] 23) = w0 := ⟨_, rfl⟩
  have HW0 := Lib.hid (show Nw w w0 by rw [← hw0]; exact nw_alloc _ _)
  have HP0 := Lib.hid (show Blk w0 w.heap.size 23 #[.int .i64 vx, .int .i64 vy] by rw [← hw0]; exact Blk.new _ _ _)
  obtain ⟨PP, hPP⟩ : ∃ E, w.heap.size = E := ⟨_, rfl⟩
  rw [hPP] at HP0
  obtain ⟨b1, hb1⟩ : ∃ b, validR l = b := ⟨_, rfl⟩
  rw [hb1] at cv
  cases b1 with
  | false =>
    rw [show moveR l (vx, vy) = ([], 11) by unfold moveR; rw [hb1]; rfl]
    clear hv hb1
    go_enter Try.func82, Try.ntmps82
    go_wp2_with fail
    with_reducible refine (cv _ HW0.out).mono ?_
    rintro e w1 ⟨rfl, k1⟩
    go_wp2_with fail
    go_ret2
    exact ⟨_, rfl, src_none _ _ _ (Nat.zero_le _), HW0.out.tr k1⟩
  | true =>
    have hR : moveR l (vx, vy) = if !allW (l.map (fun p : Int × Int => (w64 (p.1 + vx), w64 (p.2 + vy)))) then ([], 2) else (l.map (fun p : Int × Int => (w64 (p.1 + vx), w64 (p.2 + vy))), 0) := by unfold moveR; rw [hb1]; rfl
    obtain ⟨g3, g40⟩ := valid_len hb1
    obtain ⟨A, c, rfl⟩ := hv.shape
    obtain ⟨n, hn⟩ : ∃ n, l.length = n := ⟨_, rfl⟩
    replace hv := src_n hv hn
    rw [hn] at hl g3 g40 cv ⊢
    have hmx := src_max hv
    have HV := Lib.hid hv
    have HN := Lib.hid hn
    have HR := Lib.hid hR
    have hmk := make_ring n hl
    clear hv hn hR hb1
    go_enter Try.func82, Try.ntmps82
    go_wp2_with fail
    with_reducible refine (cv _ HW0.out).mono ?_
    rintro e w1 ⟨rfl, k1⟩
    have HW1 := Lib.hid (HW0.out.tr k1)
    have HP1 := Lib.hid (HP0.out.kp k1 id)
    clear k1 cv
    go_wp2_with fail
    obtain ⟨w2, hw2⟩ : ∃ W, w1.alloc (.cells ((List.replicate n ((0, 0) : Int × Int)).flatMap vC).toArray 23) = W := ⟨_, rfl⟩
    rw [hw2]
    have HW2 := Lib.hid (show Nw w w2 by rw [← hw2]; exact HW1.out.alloc _)
    have HP2 := Lib.hid (show Blk w2 PP 23 #[.int .i64 vx, .int .i64 vy] by rw [← hw2]; exact HP1.out.alloc _)
    have HR2 := Lib.hid (show RowB w2 w1.heap.size (List.replicate n (0, 0)) by rw [← hw2]; exact Blk.new _ _ _)
    have HGP := Lib.hid (show PP < w1.heap.size ∧ w.heap.size ≤ w1.heap.size from ⟨HP1.out.lt, HW1.out.size⟩)
    obtain ⟨G, hG⟩ : ∃ G, w1.heap.size = G := ⟨_, rfl⟩
    rw [hG] at HR2 HGP ⊢
    clear hw2 hmk hG HW1 HP1 HP0 HW0 hw0 hPP
    go_loopw [17] (fun i wr => ∃ (k : Nat) (M : List (Int × Int)), i = .int .i64 k ∧ k ≤ n ∧ M.length = n ∧ (∀ j, j < k → M[j]? = some (w64 ((at_ l j).1 + vx), w64 ((at_ l j).2 + vy))) ∧ RowB wr G M ∧ Blk wr PP 23 #[.int .i64 vx, .int .i64 vy] ∧ Nw w wr) (fun i _ => n - (intOf i).toNat)
    case atStart => exact ⟨0, _, rfl, Nat.zero_le _, List.length_replicate, fun j h => absurd h (Nat.not_lt_zero _), HR2.out, HP2.out, HW2.out⟩
    case round =>
      obtain ⟨k, M, rfl, hk, hml, hall, hrow, hpp, hnw⟩ := hrel
      have HML := Lib.hid hml
      have HALL := Lib.hid hall
      have HROW := Lib.hid hrow
      have HPP := Lib.hid hpp
      clear hml hall hrow hpp
      have HK := Lib.hid hnw
      clear hnw
      by_cases hkn : k < n
      · have i0 : (0 : Int) ≤ (k : Int) := by omega
        have i1 : (k : Int) < (n : Int) := by omega
        obtain ⟨s4, hs4⟩ : ∃ s : Nat, k + 1 = s := ⟨_, rfl⟩
        have a4 : IntKind.i64.wrap ((k : Int) + 1) = (s4 : Int) := by rw [IntKind.wrap_i64]; omega
        have H4 := Lib.hid hs4
        obtain ⟨g, o, rfl, hg, hc⟩ := src_at HV.out (by omega)
        obtain ⟨⟨ax, ay⟩, ha⟩ : ∃ p, at_ l k = p := ⟨_, rfl⟩
        obtain ⟨y0, y1⟩ := hc wr HK.out k hkn
        rw [ha] at y0 y1
        have HA := Lib.hid ha
        have ca := fun w1 => add_any ax ay vx vy w1
        obtain ⟨sx, hsx⟩ : ∃ s, w64 (ax + vx) = s := ⟨_, rfl⟩
        obtain ⟨sy, hsy⟩ : ∃ s, w64 (ay + vy) = s := ⟨_, rfl⟩
        rw [hsx, hsy] at ca
        have HS := Lib.hid (And.intro hsx hsy)
        clear hc hg ha hs4 hsx hsy
        go_upto_region 7 with fail
        generalize hwb : World.alloc _ (.cells #[.int .i64 ax, .int .i64 ay] _) = wb
        have HKB := Lib.hid (show Nw w wb by rw [← hwb]; exact HK.out.alloc _)
        obtain ⟨c0, c1, -, -⟩ := Blk.two (show Blk wb wr.heap.size 23 #[.int .i64 ax, .int .i64 ay] by rw [← hwb]; exact Blk.new _ _ _)
        have HRB := Lib.hid (show RowB wb G M by rw [← hwb]; exact HROW.out.alloc _)
        have HPB := Lib.hid (show Blk wb PP 23 #[.int .i64 vx, .int .i64 vy] by rw [← hwb]; exact HPP.out.alloc _)
        obtain ⟨c2, c3, -, -⟩ := HPB.out.two
        clear hwb y0 y1
        go_wp2_with fail
        with_reducible refine (ca _).mono ?_
        rintro e w5 ⟨rfl, k5⟩
        have HK5 := Lib.hid (HKB.out.tr k5)
        have HR5 := Lib.hid (show RowB w5 G M from HRB.out.kp k5 id)
        have HP5 := Lib.hid (HPB.out.kp k5 id)
        have hKL : k < M.length := by rw [HML.out]; exact hkn
        obtain ⟨e0, he0⟩ : ∃ e, M[k]? = some e := ⟨_, List.getElem?_eq_getElem hKL⟩
        obtain ⟨⟨x0, x1⟩, y4, y5⟩ := HR5.out.at_ he0
        clear k5 c0 c1 c2 c3 ca he0 hKL
        have hne : PP ≠ G := by have := HGP.out.1; omega
        go_wp2_with fail
        go_roundw
        case rel =>
          refine ⟨k + 1, _, by rw [← H4.out], by omega, ?_, fun j hj => ?_, HR5.out.set_ k sx sy, (HP5.out.far (p := ⟨G, k * 2, none⟩) hne _).far (p := ⟨G, k * 2 + 1, none⟩) hne _, (HK5.out.new HGP.out.2 (k * 2) _).new HGP.out.2 (k * 2 + 1) _⟩
          · rw [List.length_set]; exact HML.out
          · rcases Nat.lt_or_ge j k with h | h
            · rw [List.getElem?_set_ne (by omega)]
              exact HALL.out j h
            · obtain rfl : j = k := by omega
              rw [List.getElem?_set_self (by rw [HML.out]; exact hkn), HA.out, HS.out.1, HS.out.2]
        case measure => (have := H4.out; simp [intOf]; try omega)
      · obtain rfl : k = n := by omega
        have i5 : ¬ ((k : Int) < (k : Int)) := by omega
        have hME : M = l.map (fun p : Int × Int => (w64 (p.1 + vx), w64 (p.2 + vy))) := by
          apply List.ext_getElem?
          intro j
          rw [List.getElem?_map]
          rcases Nat.lt_or_ge j k with hj | hj
          · rw [HALL.out j hj, at_some (by rw [HN.out]; exact hj)]
            rfl
          · rw [List.getElem?_eq_none (by rw [HML.out]; exact hj), List.getElem?_eq_none (by rw [HN.out]; exact hj)]
            rfl
        have hsrc : SrcV wr (.slice (some ⟨G, 0, none⟩) k k) M := HROW.out.src HML.out (by have := hmx.1; have := hmx.2.2; omega)
        rw [hME] at hsrc
        have cw := fun w1 (h : Nw wr w1) => isWithinL_any (l.map (fun p : Int × Int => (w64 (p.1 + vx), w64 (p.2 + vy)))) _ w1 (hsrc.nw h)
        obtain ⟨M2, hM2⟩ : ∃ M, l.map (fun p : Int × Int => (w64 (p.1 + vx), w64 (p.2 + vy))) = M := ⟨_, rfl⟩
        rw [hM2] at cw hsrc HR
        obtain ⟨b, hb⟩ : ∃ b, allW M2 = b := ⟨_, rfl⟩
        rw [hb] at cw HR
        have HSRC := Lib.hid hsrc
        clear hME hM2 hb hsrc
        cases b
        · go_wp2_with fail
          with_reducible refine (cw _ (Kp.refl _ _)).mono ?_
          rintro e w5 ⟨rfl, k5⟩
          go_wp2_with fail
          go_ret2
          rw [HR.out]
          exact ⟨_, rfl, src_none _ _ _ (Nat.zero_le _), HK.out.tr k5⟩
        · go_wp2_with fail
          with_reducible refine (cw _ (Kp.refl _ _)).mono ?_
          rintro e w5 ⟨rfl, k5⟩
          go_wp2_with fail
          go_ret2
          rw [HR.out]
          exact ⟨_, rfl, HSRC.out.nw k5, HK.out.tr k5⟩

end Go.Proofs.Ythiabmcfooobfaa.W

namespace Go.Proofs.Ythiabmcfooobfaa.W
open Go.RowKit Go.Proofs.Ythiabmcfooobfaa.V Go.Proofs.Ythiabmcfooobfaa.G


theorem small_sum {p v : Int} (hp : -2000 ≤ p ∧ p ≤ 2000) (hv : I64 v) (h : -2000 ≤ w64 (p + v) ∧ w64 (p + v) ≤ 2000) : -4000 ≤ v ∧ v ≤ 4000 := by
  obtain ⟨h1, h2⟩ := hv
  rw [w64_eq] at h
  omega
theorem move_far {l : List Pt} {vx vy : Int} (hx : I64 vx) (hy : I64 vy) (hl : 0 < l.length) (hw : allW l = true) (h : withinV vx vy 4000 = false) : allW (l.map (fun p : Int × Int => (w64 (p.1 + vx), w64 (p.2 + vy)))) = false := by
  rw [← Bool.not_eq_true] at h ⊢
  intro hc
  apply h
  have h0 := (w_lm (allTo_iff.1 hw 0 hl)).1
  have h1 := (w_lm (allTo_iff.1 hc 0 (by rw [List.length_map]; exact hl))).1
  have e : at_ (l.map (fun p : Int × Int => (w64 (p.1 + vx), w64 (p.2 + vy)))) 0 = (w64 ((at_ l 0).1 + vx), w64 ((at_ l 0).2 + vy)) := at_of (by rw [List.getElem?_map, at_some hl]; rfl)
  rw [e] at h1
  have a := small_sum ⟨h0.1, h0.2.1⟩ hx ⟨h1.1, h1.2.1⟩
  have b := small_sum ⟨h0.2.2.1, h0.2.2.2⟩ hy ⟨h1.2.2.1, h1.2.2.2⟩
  unfold withinV
  rw [show w64 (-4000) = -4000 from w64_id ⟨by omega, by omega⟩]
  simp
  omega

set_option maxRecDepth 100000 in
set_option maxHeartbeats 6400000 in
theorem rmove_any (l : List (Int × Int)) (v : Value) (vx vy : Int) (hx : I64 vx) (hy : I64 vy) (w : World) (hv : SrcV w v l) (hl : l.length ≤ 1099511627776) : Calls Try.prog 83 #[v, vV vx vy] w fun e w' => ∃ v', e = .returned (.tuple #[v', .int .i64 (moveR l (vx, vy)).2]) ∧ SrcV w' v' (moveR l (vx, vy)).1 ∧ Nw w w' := by
  have hmix := mixed7
  have cv := fun w1 (h : Nw w w1) => rvalid8_any l v w1 (hv.nw h) hl
  have cw := fun w1 => rwithin_any vx vy 4000 w1
  obtain ⟨w0, hw0⟩ : ∃ w0, w.alloc (.cells #[.int .i64 vx, .int .i64 vy] 23) = w0 := ⟨_, rfl⟩
  have HW0 := Lib.hid (show Nw w w0 by rw [← hw0]; exact nw_alloc _ _)
  have HP0 := Lib.hid (show Blk w0 w.heap.size 23 #[.int .i64 vx, .int .i64 vy] by rw [← hw0]; exact Blk.new _ _ _)
  obtain ⟨PP, hPP⟩ : ∃ E, w.heap.size = E := ⟨_, rfl⟩
  rw [hPP] at HP0
  have HLE := Lib.hid (show w.heap.size ≤ PP from Nat.le_of_eq hPP)
  obtain ⟨b1, hb1⟩ : ∃ b, validR l = b := ⟨_, rfl⟩
  rw [hb1] at cv
  cases b1 with
  | false =>
    rw [show moveR l (vx, vy) = ([], 11) by unfold moveR; rw [hb1]; rfl]
    clear hv hb1
    go_enter Try.func83, Try.ntmps83
    go_wp2_with fail
    with_reducible refine (cv _ HW0.out).mono ?_
    rintro e w1 ⟨rfl, k1⟩
    go_wp2_with fail
    go_ret2
    exact ⟨_, rfl, src_none _ _ _ (Nat.zero_le _), HW0.out.tr k1⟩
  | true =>
    have hR : moveR l (vx, vy) = if !allW (l.map (fun p : Int × Int => (w64 (p.1 + vx), w64 (p.2 + vy)))) then ([], 2) else (l.map (fun p : Int × Int => (w64 (p.1 + vx), w64 (p.2 + vy))), 0) := by unfold moveR; rw [hb1]; rfl
    obtain ⟨g3, g40⟩ := valid_len hb1
    have hwl : allW l = true := by
      unfold validR at hb1
      simp only [Bool.and_eq_true] at hb1
      exact hb1.1.1.1.2
    obtain ⟨b2, hb2⟩ : ∃ b, withinV vx vy 4000 = b := ⟨_, rfl⟩
    rw [hb2] at cw
    cases b2 with
    | false =>
      rw [hR, move_far hx hy (by omega) hwl hb2]
      clear hv hb1 hb2 hR hwl
      go_enter Try.func83, Try.ntmps83
      go_wp2_with fail
      with_reducible refine (cv _ HW0.out).mono ?_
      rintro e w1 ⟨rfl, k1⟩
      obtain ⟨y0, y1, -⟩ := (HP0.out.kp k1 id).two
      go_wp2_with fail
      with_reducible refine (cw _).mono ?_
      rintro e w2 ⟨rfl, k2⟩
      go_wp2_with fail
      go_ret2
      exact ⟨_, rfl, src_none _ _ _ (Nat.zero_le _), (HW0.out.tr k1).tr k2⟩
    | true =>
      obtain ⟨A, c, rfl⟩ := hv.shape
      obtain ⟨n, hn⟩ : ∃ n, l.length = n := ⟨_, rfl⟩
      replace hv := src_n hv hn
      rw [hn] at hl g3 g40 cv ⊢
      have hmx := src_max hv
      have HV := Lib.hid hv
      have HN := Lib.hid hn
      have HR := Lib.hid hR
      clear hv hn hR hb1 hb2 hwl hx hy
      go_enter Try.func83, Try.ntmps83
      go_wp2_with fail
      with_reducible refine (cv _ HW0.out).mono ?_
      rintro e w1 ⟨rfl, k1⟩
      obtain ⟨y0, y1, -⟩ := (HP0.out.kp k1 id).two
      go_wp2_with fail
      with_reducible refine (cw _).mono ?_
      rintro e w2 ⟨rfl, k2⟩
      have HW2 := Lib.hid ((HW0.out.tr k1).tr k2)
      have HP2 := Lib.hid ((HP0.out.kp k1 id).kp k2 id)
      clear k1 k2 cv cw HP0 HW0 hw0 hPP y0 y1
      go_wp2_with fail
      go_loopw [6, 7] (fun ov i wr => ∃ k : Nat, i = .int .i64 k ∧ k ≤ n ∧ wr.ownsRow w2.heap.size 23 2 ov k (((l.take k).map (fun p : Int × Int => (w64 (p.1 + vx), w64 (p.2 + vy)))).flatMap vC) ∧ Blk wr PP 23 #[.int .i64 vx, .int .i64 vy] ∧ Nw w2 wr) (fun ov i _ => n - (intOf i).toNat)
      case atStart => exact ⟨0, rfl, Nat.zero_le _, World.ownsRow_nil _ _ _ _, HP2.out, Kp.refl _ _⟩
      case round =>
        obtain ⟨k, rfl, hk, hown, hpp, hnw⟩ := hrel
        obtain ⟨A6, c6, rfl⟩ := (own_src hown).shape
        have HO := Lib.hid hown
        have HPP := Lib.hid hpp
        clear hown hpp
        have HK := Lib.hid hnw
        clear hnw
        by_cases hkn : k < n
        · have i0 : (0 : Int) ≤ (k : Int) := by omega
          have i1 : (k : Int) < (n : Int) := by omega
          obtain ⟨s4, hs4⟩ : ∃ s : Nat, k + 1 = s := ⟨_, rfl⟩
          have a4 : IntKind.i64.wrap ((k : Int) + 1) = (s4 : Int) := by rw [IntKind.wrap_i64]; omega
          have H4 := Lib.hid hs4
          obtain ⟨g, o, rfl, hg, hc⟩ := src_at HV.out (by omega)
          obtain ⟨⟨ax, ay⟩, ha⟩ : ∃ p, at_ l k = p := ⟨_, rfl⟩
          obtain ⟨y0, y1⟩ := hc wr (HW2.out.tr HK.out) k hkn
          rw [ha] at y0 y1
          obtain ⟨y2, y3, -⟩ := HPP.out.two
          have cadd := fun w1 => radd_any ax ay vx vy w1
          obtain ⟨sx, hsx⟩ : ∃ s, w64 (ax + vx) = s := ⟨_, rfl⟩
          obtain ⟨sy, hsy⟩ : ∃ s, w64 (ay + vy) = s := ⟨_, rfl⟩
          rw [hsx, hsy] at cadd
          have htk : (l.take (k + 1)).map (fun p : Int × Int => (w64 (p.1 + vx), w64 (p.2 + vy))) = (l.take k).map (fun p : Int × Int => (w64 (p.1 + vx), w64 (p.2 + vy))) ++ [(sx, sy)] := by
            rw [List.take_add_one, at_some (by rw [HN.out]; exact hkn), ha, List.map_append, ← hsx, ← hsy]
            rfl
          have HTK := Lib.hid htk
          clear hc hg ha hs4 hsx hsy htk
          go_wp2_with fail
          go_region_law (first
            | (refine step_appG (by rfl) (.tmp 20) (.tmp 27) 74 23 2 16 (.agg #[.int .i64 0, .int .i64 0]) (by rfl) Try.underlying74 infoVec rfl (by omega) w2.heap.size k 1 (.slice A6 k c6) (.slice (some ⟨w5.heap.size, 0, none⟩) 1 1) (((l.take k).map (fun p : Int × Int => (w64 (p.1 + vx), w64 (p.2 + vy)))).flatMap vC) [.int .i64 sx, .int .i64 sy] (by rfl) (own_nw HO.out (hk5.alloc _)) (by rfl) (src_new (Blk.new _ _ _)) (by intro u hu; simp at hu; rcases hu with rfl | rfl <;> rfl) (by omega) (by omega) (by have := HK.out.size; have := hk5.size; simp; omega) ?_; intro v6 w6 own6 gr6)
            | (go_simp; go_at_call 23; ((with_reducible refine (cadd _).mono ?_); rintro e w5 ⟨rfl, k5⟩; have hk5 : Nw wr w5 := Kp.tr (by repeat (first | exact Kp.refl _ _ | refine Kp.drew ?_)) k5)))
          all_goals (
            have HK6 := Lib.hid (gr6.nw (HK.out.tr (hk5.alloc _)) (own_from HO.out))
            have HP6 := Lib.hid ((HPP.out.kp (hk5.alloc _) id).kp gr6.by_ (fun e => by have := own_from HO.out _ e; have := HP2.out.lt; omega))
            have HO6 := Lib.hid own6
            clear own6 gr6 y0 y1 y2 y3 cadd
            go_wp2_with fail
            go_roundw
            case rel =>
              refine ⟨k + 1, by rw [← H4.out], by omega, ?_, HP6.out, HK6.out⟩
              rw [HTK.out, List.flatMap_append]
              exact HO6.out
            case measure => (have := H4.out; simp [intOf]; try omega))
        · obtain rfl : k = n := by omega
          have i5 : ¬ ((k : Int) < (k : Int)) := by omega
          have hsrc := own_src HO.out
          rw [List.take_of_length_le (by rw [HN.out]; exact Nat.le_refl _)] at hsrc
          have hsv : SrcV wr (.slice A6 k c6) (l.map (fun p : Int × Int => (w64 (p.1 + vx), w64 (p.2 + vy)))) := by
            show Src _ 2 _ (l.map (fun p : Int × Int => (w64 (p.1 + vx), w64 (p.2 + vy)))).length _
            rw [List.length_map, HN.out]
            exact hsrc
          have cw := fun w1 (h : Nw wr w1) => rwithinL_any (l.map (fun p : Int × Int => (w64 (p.1 + vx), w64 (p.2 + vy)))) _ w1 (hsv.nw h)
          obtain ⟨M2, hM2⟩ : ∃ M, l.map (fun p : Int × Int => (w64 (p.1 + vx), w64 (p.2 + vy))) = M := ⟨_, rfl⟩
          rw [hM2] at cw hsv HR
          obtain ⟨b, hb⟩ : ∃ b, allW M2 = b := ⟨_, rfl⟩
          rw [hb] at cw HR
          have HSRC := Lib.hid hsv
          have HF := Lib.hid (HW2.out.tr HK.out)
          clear hM2 hb hsrc hsv HO
          cases b
          · go_wp2_with fail
            with_reducible refine (cw _ (Kp.refl _ _)).mono ?_
            rintro e w5 ⟨rfl, k5⟩
            go_wp2_with fail
            go_ret2
            rw [HR.out]
            exact ⟨_, rfl, src_none _ _ _ (Nat.zero_le _), HF.out.tr k5⟩
          · go_wp2_with fail
            with_reducible refine (cw _ (Kp.refl _ _)).mono ?_
            rintro e w5 ⟨rfl, k5⟩
            go_wp2_with fail
            go_ret2
            rw [HR.out]
            exact ⟨_, rfl, HSRC.out.nw k5, HF.out.tr k5⟩

end Go.Proofs.Ythiabmcfooobfaa.W

namespace Go.Proofs.Ythiabmcfooobfaa.G
open Go.RowKit Go.Proofs.Ythiabmcfooobfaa.V Go.Proofs.Ythiabmcfooobfaa.W

theorem sum_add (f g : Nat → Int) : ∀ k, sumTo (fun i => f i + g i) k = sumTo f k + sumTo g k
  | 0 => rfl
  | k + 1 => by
    show sumTo (fun i => f i + g i) k + (f k + g k) = sumTo f k + f k + (sumTo g k + g k)
    rw [sum_add f g k]
    omega
theorem sum_mul (c : Int) (f : Nat → Int) : ∀ k, sumTo (fun i => c * f i) k = c * sumTo f k
  | 0 => (Int.mul_zero c).symm
  | k + 1 => by
    show sumTo (fun i => c * f i) k + c * f k = c * (sumTo f k + f k)
    rw [sum_mul c f k, Int.mul_add]
theorem sum_even (f g : Nat → Int) (h : ∀ i, ∃ c, f i = g i + 2 * c) : ∀ k, ∃ c, sumTo f k = sumTo g k + 2 * c
  | 0 => ⟨0, rfl⟩
  | k + 1 => by
    obtain ⟨a, ha⟩ := sum_even f g h k
    obtain ⟨b, hb⟩ := h k
    refine ⟨a + b, ?_⟩
    show sumTo f k + f k = sumTo g k + g k + 2 * (a + b)
    rw [ha, hb]
    omega
/-- 1 where it holds -/
def ind (b : Bool) : Int := if b then 1 else 0
theorem filter_sum (p : Nat → Bool) : ∀ n, (((List.range n).filter p).length : Int) = sumTo (fun i => ind (p i)) n
  | 0 => rfl
  | n + 1 => by
    rw [List.range_succ, List.filter_append, List.length_append]
    show _ = sumTo (fun i => ind (p i)) n + ind (p n)
    rw [← filter_sum p n]
    cases h : p n <;> simp [ind, h]
/-- around a ring, a mark changes an even number of times -/
theorem around_even (F : Nat → Bool) (n : Nat) : ∃ c, sumTo (fun i => ind (F i != F ((i + 1) % n))) n = 2 * c := by
  obtain ⟨c, hc⟩ := sum_even (fun i => ind (F i != F ((i + 1) % n))) (fun i => ind (F ((i + 1) % n)) + -1 * ind (F i)) (fun i => by
    cases F i <;> cases F ((i + 1) % n) <;> simp [ind]
    · exact ⟨0, rfl⟩
    · exact ⟨0, rfl⟩
    · exact ⟨1, rfl⟩
    · exact ⟨0, rfl⟩) n
  rw [sum_add, sum_mul, sum_one (fun i => ind (F i))] at hc
  exact ⟨c, by rw [hc]; omega⟩
theorem count_sum {l : List Pt} (h2 : ¬ l.length < 2) (x y d : Int) : (countP (edgesP l) x y d : Int) = sumTo (fun i => ind (crossesP (edgeP l i) x y d)) l.length := by
  unfold countP edgesP
  rw [if_neg h2, List.filter_map, List.length_map]
  exact filter_sum _ _
theorem any_iff {l : List Pt} (h2 : ¬ l.length < 2) (x y d : Int) : anyOn (edgesP l) x y d = true ↔ ∃ i, i < l.length ∧ onP (edgeP l i) x y d = true := by
  unfold anyOn edgesP
  rw [if_neg h2, List.any_eq_true]
  constructor
  · rintro ⟨e, he, h⟩
    obtain ⟨i, hi, rfl⟩ := List.mem_map.1 he
    exact ⟨i, List.mem_range.1 hi, h⟩
  · rintro ⟨i, hi, h⟩
    exact ⟨_, List.mem_map.2 ⟨i, List.mem_range.2 hi, rfl⟩, h⟩

theorem side_out {a b : Pt} {X Y : Int} (ha : a.1 < X) (hb : b.1 < X) (h : a.2 ≤ Y ∧ Y < b.2) : sideP (a, b) X Y 1 < 0 := by
  unfold sideP
  simp only [Int.mul_one]
  have h1 : (b.2 - a.2) * (X - a.1) > 0 := Int.mul_pos (by omega) (by omega)
  rcases Int.le_total b.1 a.1 with c | c
  · have := Int.mul_nonpos_of_nonpos_of_nonneg (show b.1 - a.1 ≤ 0 by omega) (show 0 ≤ Y - a.2 by omega)
    omega
  · have e1 : (b.1 - a.1) * (Y - a.2) ≤ (b.1 - a.1) * (b.2 - a.2) := Int.mul_le_mul_of_nonneg_left (by omega) (by omega)
    have e2 : (b.2 - a.2) * (b.1 - a.1) < (b.2 - a.2) * (X - a.1) := Int.mul_lt_mul_of_pos_left (by omega) (by omega)
    rw [Int.mul_comm (b.2 - a.2) (b.1 - a.1)] at e2
    omega
theorem side_in {a b : Pt} {X Y : Int} (ha : X < a.1) (hb : X < b.1) (h : a.2 ≤ Y ∧ Y < b.2) : 0 < sideP (a, b) X Y 1 := by
  have := side_out (a := (-a.1, a.2)) (b := (-b.1, b.2)) (X := -X) (Y := Y) (by simp; omega) (by simp; omega) h
  unfold sideP at this ⊢
  simp only [Int.mul_one] at this ⊢
  have e : (-b.1 - -a.1) * (Y - a.2) - (b.2 - a.2) * (-X - -a.1) = -((b.1 - a.1) * (Y - a.2) - (b.2 - a.2) * (X - a.1)) := by grind
  omega
/-- a point beyond the limits of a list lies on no edge, and the count is even -/
theorem beyond {l : List Pt} (h3 : 3 ≤ l.length) (hw : allW l = true) {X Y : Int} (h : X < -2000 ∨ 2000 < X ∨ Y < -2000 ∨ 2000 < Y) : anyOn (edgesP l) X Y 1 = false ∧ countP (edgesP l) X Y 1 % 2 = 0 := by
  have hb : ∀ i, i < l.length → (-2000 ≤ (at_ l i).1 ∧ (at_ l i).1 ≤ 2000 ∧ -2000 ≤ (at_ l i).2 ∧ (at_ l i).2 ≤ 2000) := fun i hi => (w_lm (allTo_iff.1 hw i hi)).1
  have hn : 0 < l.length := by omega
  constructor
  · rw [← Bool.not_eq_true, any_iff (by omega)]
    rintro ⟨i, hi, ho⟩
    have a := hb i hi
    have b := hb ((i + 1) % l.length) (Nat.mod_lt _ hn)
    unfold onP edgeP at ho
    simp only [Bool.and_eq_true, decide_eq_true_eq, Int.mul_one] at ho
    omega
  · have hs := count_sum (l := l) (by omega) X Y 1
    have hz : ∀ (c : Int), sumTo (fun i => ind (crossesP (edgeP l i) X Y 1)) l.length = 2 * c → countP (edgesP l) X Y 1 % 2 = 0 := fun c hc => by
      rw [hc] at hs
      omega
    have hno : (∀ i, i < l.length → crossesP (edgeP l i) X Y 1 = false) → countP (edgesP l) X Y 1 % 2 = 0 := fun hc => hz 0 (by
      rw [sum_ext (g := fun _ => 0) fun i hi => by rw [hc i hi]; rfl]
      have := sum_mul 0 (fun _ => 0) l.length
      simpa using this)
    by_cases hx : X < -2000
    · obtain ⟨c, hc⟩ := around_even (fun i => decide ((at_ l i).2 ≤ Y)) l.length
      refine hz c ?_
      rw [← hc]
      refine sum_ext fun i hi => ?_
      have a := hb i hi
      have b := hb ((i + 1) % l.length) (Nat.mod_lt _ hn)
      congr 1
      unfold crossesP upP downP edgeP
      simp only [Int.mul_one]
      generalize at_ l i = p at *
      generalize at_ l ((i + 1) % l.length) = q at *
      by_cases c1 : p.2 ≤ Y <;> by_cases c2 : q.2 ≤ Y
      · have n1 : ¬ Y < p.2 := by omega
        have n2 : ¬ Y < q.2 := by omega
        simp [c1, c2, n1, n2]
      · have n1 : ¬ Y < p.2 := by omega
        have n2 : Y < q.2 := by omega
        have := side_in (a := p) (b := q) (X := X) (Y := Y) (by omega) (by omega) ⟨c1, n2⟩
        simp [c1, c2, n1, n2, this]
      · have n1 : Y < p.2 := by omega
        have n2 : ¬ Y < q.2 := by omega
        have := side_in (a := q) (b := p) (X := X) (Y := Y) (by omega) (by omega) ⟨c2, n1⟩
        rw [show (q, p) = ((q, p) : Ed) from rfl, side_turn] at this
        simp [c1, c2, n1, n2]
        omega
      · have n1 : Y < p.2 := by omega
        have n2 : Y < q.2 := by omega
        simp [c1, c2, n1, n2]
    · refine hno fun i hi => ?_
      have a := hb i hi
      have b := hb ((i + 1) % l.length) (Nat.mod_lt _ hn)
      rw [Bool.eq_false_iff]
      intro hc
      unfold crossesP upP downP edgeP at hc
      simp only [Int.mul_one, Bool.or_eq_true, Bool.and_eq_true, decide_eq_true_eq] at hc
      generalize at_ l i = p at *
      generalize at_ l ((i + 1) % l.length) = q at *
      rcases hc with ⟨⟨c1, c2⟩, c3⟩ | ⟨⟨c1, c2⟩, c3⟩
      · have := side_out (a := p) (b := q) (X := X) (Y := Y) (by omega) (by omega) ⟨c1, c2⟩
        omega
      · have := side_out (a := q) (b := p) (X := X) (Y := Y) (by omega) (by omega) ⟨c1, c2⟩
        rw [side_turn] at this
        omega
end Go.Proofs.Ythiabmcfooobfaa.G

namespace Go.Proofs.Ythiabmcfooobfaa.G
open Go.RowKit Go.Proofs.Ythiabmcfooobfaa.V Go.Proofs.Ythiabmcfooobfaa.W

def mvP (vx vy : Int) (p : Pt) : Pt := (p.1 + vx, p.2 + vy)
def mvE (vx vy : Int) (e : Ed) : Ed := (mvP vx vy e.1, mvP vx vy e.2)
def movL (vx vy : Int) (l : List Pt) : List Pt := l.map (mvP vx vy)
theorem mov_len (vx vy : Int) (l : List Pt) : (movL vx vy l).length = l.length := List.length_map _
theorem mov_at {vx vy : Int} {l : List Pt} {i : Nat} (hi : i < l.length) : at_ (movL vx vy l) i = mvP vx vy (at_ l i) := at_of (by unfold movL; rw [List.getElem?_map, at_some hi]; rfl)
/-- what Move returns is the moved list, without wrapping -/
theorem mov_is {l : List Pt} {vx vy : Int} (hx : I64 vx) (hy : I64 vy) (hv : validR l = true) (hw : allW (l.map fun p : Int × Int => (w64 (p.1 + vx), w64 (p.2 + vy))) = true) : (l.map fun p : Int × Int => (w64 (p.1 + vx), w64 (p.2 + vy))) = movL vx vy l ∧ (-4000 ≤ vx ∧ vx ≤ 4000 ∧ -4000 ≤ vy ∧ vy ≤ 4000) := by
  obtain ⟨h3, h40, hwl, ht, ha⟩ := valid_parts hv
  have h0 := (w_lm (allTo_iff.1 hwl 0 (by omega))).1
  have h1 := (w_lm (allTo_iff.1 hw 0 (by rw [List.length_map]; omega))).1
  have e : at_ (l.map fun p : Int × Int => (w64 (p.1 + vx), w64 (p.2 + vy))) 0 = (w64 ((at_ l 0).1 + vx), w64 ((at_ l 0).2 + vy)) := at_of (by rw [List.getElem?_map, at_some (by omega)]; rfl)
  rw [e] at h1
  have a := small_sum ⟨h0.1, h0.2.1⟩ hx ⟨h1.1, h1.2.1⟩
  have b := small_sum ⟨h0.2.2.1, h0.2.2.2⟩ hy ⟨h1.2.2.1, h1.2.2.2⟩
  refine ⟨?_, a.1, a.2, b.1, b.2⟩
  unfold movL
  apply List.ext_getElem?
  intro i
  rw [List.getElem?_map, List.getElem?_map]
  rcases Nat.lt_or_ge i l.length with hi | hi
  · have hp := (w_lm (allTo_iff.1 hwl i hi)).1
    rw [at_some hi]
    show some (w64 ((at_ l i).1 + vx), w64 ((at_ l i).2 + vy)) = some ((at_ l i).1 + vx, (at_ l i).2 + vy)
    rw [w64_id ⟨by omega, by omega⟩, w64_id ⟨by omega, by omega⟩]
  · rw [List.getElem?_eq_none hi]
    rfl
section
variable {l : List Pt} {vx vy : Int} (hv : validR l = true) (hw : allW (movL vx vy l) = true)
include hv hw
omit hv hw in
theorem mov_turn {i : Nat} (hi : i < l.length) : turnI (movL vx vy l) i = turnI l i := by
  have hn : 0 < l.length := by omega
  unfold turnI
  rw [mov_len, mov_at (Nat.mod_lt _ hn), mov_at hi, mov_at (Nat.mod_lt _ hn)]
  unfold turnP turnV mvP
  simp only
  congr 2
  grind
omit hv hw in
theorem mov_edge {i : Nat} (hi : i < l.length) : edgeP (movL vx vy l) i = mvE vx vy (edgeP l i) := by
  have hn : 0 < l.length := by omega
  unfold edgeP mvE
  rw [mov_len, mov_at (Nat.mod_lt _ hn), mov_at hi]
omit hw in
theorem mov_area : areaP (movL vx vy l) = areaP l := by
  have hn : 0 < l.length := by have := (valid_parts hv).1; omega
  unfold areaP
  rw [area_sum, area_sum, mov_len]
  have hx : ∀ i, crossAt (movL vx vy l) i = crossAt (movL vx vy l) i := fun _ => rfl
  have e1 : ∀ (m : List Pt), w64 (sumTo (crossAt m) m.length) = w64 (sumTo (fun i => (at_ m i).1 * (at_ m ((i + 1) % m.length)).2 - (at_ m i).2 * (at_ m ((i + 1) % m.length)).1) m.length) := fun m => by
    have : ∀ k, w64 (sumTo (crossAt m) k) = w64 (sumTo (fun i => (at_ m i).1 * (at_ m ((i + 1) % m.length)).2 - (at_ m i).2 * (at_ m ((i + 1) % m.length)).1) k) := fun k => by
      induction k with
      | zero => rfl
      | succ k ih =>
        show w64 (sumTo (crossAt m) k + w64 ((at_ m k).1 * (at_ m ((k + 1) % m.length)).2 - (at_ m k).2 * (at_ m ((k + 1) % m.length)).1)) = w64 (sumTo _ k + _)
        rw [w64_addr, ← w64_addl, ih, w64_addl]
    exact this _
  have e2 := e1 (movL vx vy l)
  rw [mov_len] at e2
  rw [e2, e1 l]
  congr 1
  rw [sum_ext (g := fun i => ((at_ l i).1 * (at_ l ((i + 1) % l.length)).2 - (at_ l i).2 * (at_ l ((i + 1) % l.length)).1) + (vx * ((at_ l ((i + 1) % l.length)).2 + -1 * (at_ l i).2) + (-vy) * ((at_ l ((i + 1) % l.length)).1 + -1 * (at_ l i).1))) fun i hi => by
    rw [mov_at hi, mov_at (Nat.mod_lt _ hn)]
    unfold mvP
    simp only
    grind]
  rw [sum_add, sum_add, sum_mul, sum_mul, sum_add, sum_add, sum_mul, sum_mul, sum_one (fun i => (at_ l i).2), sum_one (fun i => (at_ l i).1)]
  have z : ∀ s : Int, s + -1 * s = 0 := fun s => by omega
  rw [z, z, Int.mul_zero, Int.mul_zero]
  omega
omit hv hw in
theorem mov_apart (e f : Ed) : apartE (mvE vx vy e) (mvE vx vy f) = apartE e f := by
  apply Bool.eq_iff_iff.2
  unfold apartE mvE mvP
  simp only [Bool.or_eq_true, decide_eq_true_eq]
  omega
theorem mov_valid : validR (movL vx vy l) = true := by
  obtain ⟨h3, h40, hwl, ht, ha⟩ := valid_parts hv
  have hs : Simple l := (simple_iff l).1 (by unfold validR at hv; simp only [Bool.and_eq_true] at hv; exact hv.2)
  have ht2 : turnsP (movL vx vy l) = true := allTo_iff.2 fun i hi => by
    rw [mov_len] at hi
    rw [mov_turn hi]
    exact allTo_iff.1 ht i hi
  have hs2 : simpleP (movL vx vy l) = true := (simple_iff _).2 fun i j hi hj hne h1 h2 => by
    rw [mov_len] at hi hj h1 h2
    have v1 := edge_valid hwl hi
    have v2 := edge_valid hwl hj
    have v3 := edge_valid hw (i := i) (by rw [mov_len]; exact hi)
    have v4 := edge_valid hw (i := j) (by rw [mov_len]; exact hj)
    rw [mov_edge hi] at v3 ⊢
    rw [mov_edge hj] at v4 ⊢
    rw [mov_apart]
    rcases hs i j hi hj hne h1 h2 with h | h
    · exact .inl h
    · exact .inr ((way_moved vx vy v1 v2 v3 v4).1.trans h)
  unfold validR
  rw [mov_len, hw, ht2, hs2, mov_area hv]
  simp [h3, h40, ha]
theorem mov_convex : convexR (movL vx vy l) = convexR l := by
  unfold convexR
  rw [mov_valid hv hw, hv, mov_len]
  congr 1
  apply Bool.eq_iff_iff.2
  rw [allTo_iff, allTo_iff]
  exact ⟨fun h i hi => by rw [← mov_turn hi]; exact h i hi, fun h i hi => by rw [mov_turn hi]; exact h i hi⟩
omit hv hw in
theorem mov_side (e : Ed) (x y : Int) : sideP (mvE vx vy e) (x + vx) (y + vy) 1 = sideP e x y 1 := by
  unfold sideP mvE mvP
  simp only [Int.mul_one]
  grind
omit hv hw in
theorem mov_on (e : Ed) (x y : Int) : onP (mvE vx vy e) (x + vx) (y + vy) 1 = onP e x y 1 := by
  unfold onP
  rw [mov_side]
  congr 1
  apply Bool.eq_iff_iff.2
  unfold mvE mvP
  simp only [Bool.and_eq_true, decide_eq_true_eq, Int.mul_one]
  omega
omit hv hw in
theorem mov_up (e : Ed) (y : Int) : upP (mvE vx vy e) (y + vy) 1 = upP e y 1 := by
  apply Bool.eq_iff_iff.2
  unfold upP mvE mvP
  simp only [Bool.and_eq_true, decide_eq_true_eq, Int.mul_one]
  omega
omit hv hw in
theorem mov_down (e : Ed) (y : Int) : downP (mvE vx vy e) (y + vy) 1 = downP e y 1 := by
  apply Bool.eq_iff_iff.2
  unfold downP mvE mvP
  simp only [Bool.and_eq_true, decide_eq_true_eq, Int.mul_one]
  omega
omit hv hw in
theorem mov_crosses (e : Ed) (x y : Int) : crossesP (mvE vx vy e) (x + vx) (y + vy) 1 = crossesP e x y 1 := by
  unfold crossesP
  rw [mov_side, mov_up, mov_down]
omit hw in
theorem mov_edges : edgesP (movL vx vy l) = (edgesP l).map (mvE vx vy) := by
  have h3 := (valid_parts hv).1
  unfold edgesP
  rw [if_neg (by rw [mov_len]; omega), if_neg (by omega), mov_len, List.map_map]
  apply List.map_congr_left
  intro i hi
  exact mov_edge (List.mem_range.1 hi)
theorem mov_where {x y : Int} (hp : Lm x y) (hx : -4000 ≤ vx ∧ vx ≤ 4000 ∧ -4000 ≤ vy ∧ vy ≤ 4000) : whereR (movL vx vy l) (w64 (x + vx)) (w64 (y + vy)) 1 = whereR l x y 1 := by
  have hp2 := hp
  unfold Lm at hp2
  rw [w64_id ⟨by omega, by omega⟩, w64_id ⟨by omega, by omega⟩]
  have hany : anyOn (edgesP (movL vx vy l)) (x + vx) (y + vy) 1 = anyOn (edgesP l) x y 1 := by
    unfold anyOn
    rw [mov_edges hv, List.any_map]
    congr 1
    funext e
    exact mov_on e x y
  have hcount : countP (edgesP (movL vx vy l)) (x + vx) (y + vy) 1 = countP (edgesP l) x y 1 := by
    unfold countP
    rw [mov_edges hv, List.filter_map, List.length_map]
    congr 2
    funext e
    exact mov_crosses e x y
  have h3 := (valid_parts hv).1
  have hvm := mov_valid hv hw
  by_cases hq : Lm (x + vx) (y + vy)
  · unfold whereR
    rw [hvm, hv, valid_int hp, valid_int hq, hany, hcount]
  · have hno : validP (x + vx) (y + vy) 1 = false := by
      rw [Bool.eq_false_iff]
      intro hc
      apply hq
      have := pt_ok hc
      unfold validP at hc
      rw [Bool.and_eq_true] at hc
      obtain ⟨-, ⟨a1, a2, a3, a4⟩, -⟩ := in_mid (m := 4000) (by omega) hc.1
      unfold Lm
      omega
    have hb := beyond (l := movL vx vy l) (by rw [mov_len]; exact h3) hw (X := x + vx) (Y := y + vy) (by unfold Lm at hq; omega)
    rw [hany, hcount] at hb
    unfold whereR
    rw [hno, hv, valid_int hp, hb.1, Bool.and_false, if_neg (by simp), Bool.and_self, if_pos rfl, if_neg (by simp), if_neg (by omega)]
end
end Go.Proofs.Ythiabmcfooobfaa.G

namespace Go.Proofs.Ythiabmcfooobfaa.W
open Go.RowKit Go.Proofs.Ythiabmcfooobfaa.V Go.Proofs.Ythiabmcfooobfaa.G


theorem move_result {l : List Pt} {vx vy : Int} (hx : I64 vx) (hy : I64 vy) (h : (moveR l (vx, vy)).2 = 0) : validR l = true ∧ (moveR l (vx, vy)).1 = movL vx vy l ∧ allW (movL vx vy l) = true ∧ (-4000 ≤ vx ∧ vx ≤ 4000 ∧ -4000 ≤ vy ∧ vy ≤ 4000) := by
  unfold moveR at h ⊢
  cases hv : validR l with
  | false => rw [hv] at h; cases h
  | true =>
    rw [hv] at h
    cases hw : allW (l.map fun p : Int × Int => (w64 (p.1 + vx), w64 (p.2 + vy))) with
    | false =>
      have h : (if (!allW (l.map fun p : Int × Int => (w64 (p.1 + vx), w64 (p.2 + vy)))) = true then (([], 2) : List Pt × Int) else (_, 0)).2 = 0 := h
      rw [hw] at h
      cases h
    | true =>
      obtain ⟨e, hb⟩ := mov_is hx hy hv hw
      rw [e] at hw
      refine ⟨rfl, ?_, hw, hb⟩
      exact e
theorem lm_1000 {x y : Int} (h : withinV x y 1000 = true) : Lm x y := by
  unfold withinV at h
  rw [show w64 (-1000) = -1000 from w64_id ⟨by omega, by omega⟩] at h
  simp only [Bool.and_eq_true, decide_eq_true_eq] at h
  unfold Lm
  omega

set_option maxRecDepth 100000 in
set_option maxHeartbeats 12800000 in
theorem ringMove_walk (l : List (Int × Int)) (v : Value) (vx vy px py : Int) (hx : I64 vx) (hy : I64 vy) (w : World) (hv : SrcV w v l) (hl : l.length ≤ 1099511627776) : Calls Try.prog 15 #[v, vV vx vy, vV px py] w fun e w' => e = .returned (.bool true) ∧ Nw w w' := by
  have hmix := mixed7
  obtain ⟨w0, hw0⟩ : ∃ w0, ((w.alloc (.cells #[.int .i64 vx, .int .i64 vy] 23)).alloc (.cells #[.int .i64 px, .int .i64 py] 23)) = w0 := ⟨_, rfl⟩
  have HW0 := Lib.hid (show Nw w w0 by rw [← hw0]; exact (nw_alloc _ _).alloc _)
  have HB := Lib.hid (show ∀ w', Nw w0 w' → Blk w' w.heap.size 23 #[.int .i64 vx, .int .i64 vy] ∧ Blk w' (w.heap.size + 1) 23 #[.int .i64 px, .int .i64 py] from fun w' h => by
    rw [← hw0] at h
    exact ⟨((Blk.new _ _ _).alloc _).kp h id, (Blk.new_at _ _ _ (by simp)).kp h id⟩)
  have cf := fun w1 (h : Nw w w1) => few_any l v w1 (hv.nw h)
  have c1 := fun w1 (h : Nw w w1) => move_any l v vx vy w1 (hv.nw h) hl
  have c2 := fun w1 (h : Nw w w1) => rmove_any l v vx vy hx hy w1 (hv.nw h) hl
  have HV := Lib.hid hv
  clear hv
  obtain ⟨PV, hPV⟩ : ∃ s, w.heap.size = s := ⟨_, rfl⟩
  rw [hPV] at HB
  obtain ⟨PQ, hPQ⟩ : ∃ s, PV + 1 = s := ⟨_, rfl⟩
  rw [hPQ] at HB
  obtain ⟨b0, hb0⟩ : ∃ b, decide (l.length ≤ 60) = b := ⟨_, rfl⟩
  rw [hb0] at cf
  obtain ⟨a, ha⟩ : ∃ a, (moveR l (vx, vy)).1 = a := ⟨_, rfl⟩
  obtain ⟨q, hq⟩ : ∃ a, (moveR l (vx, vy)).2 = a := ⟨_, rfl⟩
  have HOK := Lib.hid (show q = 0 → validR l = true ∧ a = movL vx vy l ∧ allW (movL vx vy l) = true ∧ (-4000 ≤ vx ∧ vx ≤ 4000 ∧ -4000 ≤ vy ∧ vy ≤ 4000) from fun h => by rw [← ha]; exact move_result hx hy (by rw [hq]; exact h))
  rw [ha, hq] at c1 c2
  clear ha hq hb0 hx hy
  go_enter Try.func15, Try.ntmps15
  go_wp2_with fail
  with_reducible refine (awake8_any _).mono ?_
  rintro e w1 ⟨rfl, k1⟩
  have n1 := HW0.out.tr k1
  clear hw0 hPV hPQ
  go_wp2_with fail
  with_reducible refine (cf _ n1).mono ?_
  rintro e w2 ⟨rfl, k2⟩
  have n2 := k1.tr k2
  clear k1 k2 n1
  cases b0
  · go_wp2_with fail
    go_ret
    exact ⟨rfl, HW0.out.tr n2⟩
  obtain ⟨y0, y1, -, -⟩ := (HB.out _ n2).1.two
  go_wp2_with fail
  with_reducible refine (c1 _ (HW0.out.tr n2)).mono ?_
  rintro e w3 ⟨v3, rfl, s3, k3⟩
  have n3 := n2.tr k3
  clear k3 n2 y0 y1 c1
  obtain ⟨y0, y1, -, -⟩ := (HB.out _ n3).1.two
  go_wp2_with fail
  with_reducible refine (c2 _ (HW0.out.tr n3)).mono ?_
  rintro e w4 ⟨v4, rfl, s4, k4⟩
  have n4 := n3.tr k4
  have cs := rringSame_any a a v3 v4 w4 (s3.nw k4) s4
  rw [decide_eq_true rfl] at cs
  have s3b := s3.nw k4
  clear k4 n3 y0 y1 c2 s3 s4
  go_wp2_with fail
  with_reducible refine cs.mono ?_
  rintro e w5 ⟨rfl, k5⟩
  have n5 := n4.tr k5
  have S5 := Lib.hid (s3b.nw k5)
  clear cs k5 n4 s3b
  have eqq : (q != q) = false := by simp
  by_cases h0 : q = 0
  case neg =>
    have e0 : (q != 0) = true := by simp [h0]
    go_wp2_with fail
    go_ret
    exact ⟨rfl, HW0.out.tr n5⟩
  subst h0
  obtain ⟨p1, rfl, p3, p4⟩ := HOK.out rfl
  have ci := fun w1 => rwithin_any px py 1000 w1
  obtain ⟨b2, hb2⟩ : ∃ b, withinV px py 1000 = b := ⟨_, rfl⟩
  rw [hb2] at ci
  obtain ⟨y0, y1, -, -⟩ := (HB.out _ n5).2.two
  have N5 := Lib.hid n5
  clear n5
  cases b2
  · go_wp2_with fail
    with_reducible refine (ci _).mono ?_
    rintro e w6 ⟨rfl, k6⟩
    go_wp2_with fail
    go_ret
    exact ⟨rfl, (HW0.out.tr N5.out).tr k6⟩
  have hp := lm_1000 hb2
  have hl2 : (movL vx vy l).length ≤ 1099511627776 := by rw [mov_len]; exact hl
  go_wp2_with fail
  with_reducible refine (ci _).mono ?_
  rintro e w6 ⟨rfl, k6⟩
  have N6 := Lib.hid (N5.out.tr k6)
  have S6 := Lib.hid (S5.out.nw k6)
  clear k6 ci y0 y1
  have g0 := fun w1 => radd_any px py vx vy w1
  have g1 := fun p : KeptW w6 => area2_any (movL vx vy l) v3 p.wd (S6.out.nw p.since) hl2
  have g2 := fun p : KeptW w6 => area2_any l v p.wd (HV.out.nw (HW0.out.tr (N6.out.tr p.since))) hl
  have g3 := fun p : KeptW w6 => where_any (movL vx vy l) v3 (w64 (px + vx)) (w64 (py + vy)) p.wd (S6.out.nw p.since) hl2
  have g4 := fun p : KeptW w6 => where_any l v px py p.wd (HV.out.nw (HW0.out.tr (N6.out.tr p.since))) hl
  have g5 := fun p : KeptW w6 => convex_any (movL vx vy l) v3 p.wd (S6.out.nw p.since) hl2
  have g6 := fun p : KeptW w6 => convex_any l v p.wd (HV.out.nw (HW0.out.tr (N6.out.tr p.since))) hl
  rw [show area2R (movL vx vy l) = area2R l by unfold area2R; rw [mov_valid p1 p3, p1, mov_area p1]] at g1
  rw [mov_where p1 p3 hp p4] at g3
  rw [mov_convex p1 p3] at g5
  generalize area2R l = r1 at *
  generalize whereR l px py 1 = r2 at *
  generalize convexR l = r3 at *
  generalize w64 (px + vx) = sx at *
  generalize w64 (py + vy) = sy at *
  have f1 : (r1 == r1) = true := by simp
  have f2 : (r2 == r2) = true := by simp
  have f3 : ∀ w : World, (binOp .eql 4 (.bool r3) (.bool r3)).run Try.prog w = .ok (.bool true) w := fun w => by cases r3 <;> rfl
  have q0 := fun p : KeptW w6 => (HB.out p.wd (N6.out.tr p.since)).1.cell 0
  have q1 := fun p : KeptW w6 => (HB.out p.wd (N6.out.tr p.since)).1.cell 1
  have q2 := fun p : KeptW w6 => (HB.out p.wd (N6.out.tr p.since)).2.cell 0
  have q3 := fun p : KeptW w6 => (HB.out p.wd (N6.out.tr p.since)).2.cell 1
  clear p1 p3 p4 hp hl2 hb2 hl
  go_wp2_with fail
  refine wp_region_kept (Kp.refl _ _) (by assumption) (by kernel_rfl) ?_
  repeat (with_reducible refine wpQuiet_step (fun K hK => ?_); go_simp; first | ((with_reducible refine hK _ ?_); clear hK K) | (with_reducible apply Exists.intro; (with_reducible refine ⟨fun _ => ?_, hK _ ?_⟩); ((first | (go_at_call 23; with_reducible exact Calls.kept_of (g0 _)) | (go_at_call 85; with_reducible exact Calls.kept_of (g1 _)) | (go_at_call 85; with_reducible exact Calls.kept_of (g2 _)) | (go_at_call 76; with_reducible exact Calls.kept_of (g3 _)) | (go_at_call 76; with_reducible exact Calls.kept_of (g4 _)) | (go_at_call 86; with_reducible exact Calls.kept_of (g5 _)) | (go_at_call 86; with_reducible exact Calls.kept_of (g6 _)) | fail)); clear hK K) | (simp only [undef, reduceCtorEq, if_false]; (with_reducible refine hK _ ?_); clear hK K))
  with_reducible refine wpQuiet_nil ?_
  rintro _ ⟨p, rfl⟩
  go_wp2_with fail
  go_ret
  exact ⟨rfl, HW0.out.tr (N6.out.tr p.since)⟩

set_option maxRecDepth 100000 in
set_option maxHeartbeats 3200000 in
theorem ringMove_any (l : List (Int × Int)) (v : Value) (vx vy px py : Int) (hx : I64 vx) (hy : I64 vy) (w : World) (hv : SrcV w v l) : Calls Try.prog 15 #[v, vV vx vy, vV px py] w fun e w' => e = .returned (.bool true) ∧ Nw w w' := by
  by_cases hl : l.length ≤ 1099511627776
  case pos => exact ringMove_walk l v vx vy px py hx hy w hv hl
  case neg =>
    have cf := fun w1 (h : Nw w w1) => few_any l v w1 (hv.nw h)
    rw [decide_eq_false (by omega)] at cf
    clear hv hl
    go_enter Try.func15, Try.ntmps15
    go_wp2_with fail
    with_reducible refine (awake8_any _).mono ?_
    rintro e w1 ⟨rfl, k1⟩
    have n1 : Nw w w1 := Kp.tr ((nw_alloc _ _).alloc _) k1
    go_wp2_with fail
    with_reducible refine (cf _ n1).mono ?_
    rintro e w2 ⟨rfl, k2⟩
    go_wp2_with fail
    go_ret
    exact ⟨rfl, n1.tr k2⟩

end Go.Proofs.Ythiabmcfooobfaa.W
