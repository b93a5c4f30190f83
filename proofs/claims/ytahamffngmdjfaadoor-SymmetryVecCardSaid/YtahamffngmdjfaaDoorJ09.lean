/-
  vec and its reference: BoxOf: what it returns. No condition but that the list may be as long as a slice may.
-/
import Derived.Test.YtahamffngmdjfaaDoorJ02
import Derived.BigRegion
namespace Go.Proofs.YtahamffngmdjfaaDoor.W
open Go.RowKit Go.Proofs.YtahamffngmdjfaaDoor.V

set_option maxRecDepth 100000 in
set_option maxHeartbeats 6400000 in
theorem boxOf_any (l : List (Int × Int)) (v : Value) (w : World) (hv : SrcV w v l) : Calls Tryd.prog 40 #[v] w fun e w' => e = .returned (.tuple #[boxV (boxOf l).1, .bool (boxOf l).2]) ∧ Nw w w' := by
  obtain ⟨hl, A, c, rfl, hnc, hcm, hcell⟩ := hv
  cases l with
  | nil =>
    clear hl hcell
    go_enter Tryd.func40, Tryd.ntmps40
    go_wp2
    exact bodyPost_ret (v := .tuple #[bV 0 0 0 0, .bool false]) (by simp [results, Tryd.results40, go_sem]) rfl ⟨rfl, by repeat (first | exact Kp.refl _ _ | refine Kp.alloc ?_ _ | refine Kp.drew ?_ | refine Kp.drewN ?_ _)⟩
  | cons q r =>
    obtain ⟨n, hn⟩ : ∃ n, (q :: r).length = n := ⟨_, rfl⟩
    have hn0 : 0 < n := by rw [← hn]; simp
    rw [hn] at hnc hcell ⊢
    obtain ⟨g, o, rfl, hb, hc⟩ := hcell hn0
    unfold maxLen at hcm
    obtain ⟨f1, f2⟩ := flatV_at (q :: r) 0 q rfl
    have z0 : w.cell? ⟨g, o, none⟩ = some (.int .i64 q.1) := hc _ _ f1
    have z1 : w.cell? ⟨g, o + 1, none⟩ = some (.int .i64 q.2) := hc _ _ f2
    have HL : boxOf (q :: r) = ((q :: r).foldl boxStep (q.1, q.2, q.1, q.2), true) := rfl
    rw [HL]
    clear HL hl hcell
    generalize (q :: r) = l at *
    obtain ⟨qx, qy⟩ := q
    have HN := Lib.hid hn
    have HC := Lib.hid hc
    have HG := Lib.hid hb
    have nz : ((n : Int) == 0) = false := by simp; omega
    have l0 : (0 : Int) < (n : Int) := by omega
    have hw : w.heap.size ≠ g := by omega
    have p0 := ((nw_alloc w (.cells #[.int .i64 0, .int .i64 0, .int .i64 0, .int .i64 0] 25)).cell (p := ⟨g, o, none⟩) hb id).trans z0
    have p1 := ((nw_alloc w (.cells #[.int .i64 0, .int .i64 0, .int .i64 0, .int .i64 0] 25)).cell (p := ⟨g, o + 1, none⟩) hb id).trans z1
    clear f1 f2 hn hc
    go_enter Tryd.func40, Tryd.ntmps40
    go_wp2_with fail
    generalize hw0 : w.alloc (.cells #[.int .i64 0, .int .i64 0, .int .i64 0, .int .i64 0] 25) = w0 at *
    have hg0 : g < w0.heap.size := by rw [← hw0]; simp; omega
    have hg1 : g ≠ w0.heap.size := by omega
    have hg2 : w0.heap.size ≠ g := by omega
    have p2 := ((nw_alloc w0 (.cells #[.int .i64 0, .int .i64 0, .int .i64 0, .int .i64 0] 25)).cell (p := ⟨g, o, none⟩) hg0 id).trans p0
    have p3 := ((nw_alloc w0 (.cells #[.int .i64 0, .int .i64 0, .int .i64 0, .int .i64 0] 25)).cell (p := ⟨g, o + 1, none⟩) hg0 id).trans p1
    go_region
    have hK0 : Nw w w0 := by rw [← hw0]; exact nw_alloc w _
    have hZ0 : Blk w0 w.heap.size 25 #[.int .i64 0, .int .i64 0, .int .i64 0, .int .i64 0] := by rw [← hw0]; exact Blk.new w _ _
    generalize hw1 : World.drew _ = w1
    have HK := Lib.hid (show Nw w w1 by rw [← hw1]; exact ((hK0.alloc _).drew))
    have HZ := Lib.hid (show Blk w1 w.heap.size 25 #[.int .i64 0, .int .i64 0, .int .i64 0, .int .i64 0] by rw [← hw1]; exact (hZ0.alloc _).drew)
    have HB := Lib.hid (show Blk w1 w0.heap.size 25 (boxC (qx, qy, qx, qy)) by rw [← hw1]; exact (Blk.new w0 _ _).drew)
    have HD := Lib.hid (show w.heap.size < w0.heap.size by rw [← hw0]; simp)
    have HGG := Lib.hid hg0
    obtain ⟨G, hG⟩ : ∃ G, w0.heap.size = G := ⟨_, rfl⟩
    rw [hG] at HB HD HGG ⊢
    clear hK0 hZ0 hw1 hw0 p0 p1 p2 p3 hg0 hg1 hg2 hG hw nz l0 hn0 hb z0 z1
    go_wp2_with fail
    go_loopw [19] (fun i wr => ∃ (k : Nat) (b : Int × Int × Int × Int), i = .int .i64 k ∧ k ≤ n ∧ b = (l.take k).foldl boxStep (qx, qy, qx, qy) ∧ Nw w wr ∧ Blk wr w.heap.size 25 #[.int .i64 0, .int .i64 0, .int .i64 0, .int .i64 0] ∧ Blk wr G 25 (boxC b)) (fun i _ => n - (intOf i).toNat)
    case atStart => exact ⟨0, _, rfl, Nat.zero_le _, rfl, HK.out, HZ.out, HB.out⟩
    case round =>
      obtain ⟨k, ⟨x1, x2, x3, x4⟩, rfl, hk, hbk, hnw, hz, hbx⟩ := hrel
      have i3 : (0 : Int) ≤ (k : Int) := by omega
      have HX := Lib.hid hbk
      have HKR := Lib.hid hnw
      have HZR := Lib.hid hz
      have HBR := Lib.hid hbx
      clear hbk hnw hz hbx
      by_cases hkn : k < n
      · have i4 : (k : Int) < (n : Int) := by omega
        have e2 : IntKind.i64.wrap ((k : Int) + 1) = (k : Int) + 1 := by rw [IntKind.wrap_i64]; omega
        obtain ⟨⟨px, py⟩, hx⟩ : ∃ x, l[k]? = some x := ⟨l[k]'(by rw [HN.out]; omega), List.getElem?_eq_getElem _⟩
        obtain ⟨f1, f2⟩ := flatV_at l k (px, py) hx
        have q0 : wr.cell? ⟨g, o + k * 2, none⟩ = some (.int .i64 px) := (HKR.out.cell (p := ⟨g, o + k * 2, none⟩) HG.out id).trans (HC.out _ _ f1)
        have q1 : wr.cell? ⟨g, o + k * 2 + 1, none⟩ = some (.int .i64 py) := (HKR.out.cell (p := ⟨g, o + (k * 2 + 1), none⟩) HG.out id).trans (HC.out _ _ f2)
        obtain ⟨c0, c1, c2, c3, d0, d1, d2, d3⟩ := HBR.out.four
        obtain ⟨m1, hm1⟩ : ∃ m, (if px < x1 then px else x1) = m := ⟨_, rfl⟩
        obtain ⟨m2, hm2⟩ : ∃ m, (if py < x2 then py else x2) = m := ⟨_, rfl⟩
        have hHX := Lib.hid hx
        have hGg : g ≠ G := by have := HGG.out; have := HD.out; have := HG.out; omega
        have hGg2 : G ≠ g := Ne.symm hGg
        clear f1 f2 hx
        have hGw : w.heap.size ≤ G := Nat.le_of_lt HD.out
        have HM := Lib.hid (And.intro hm1 hm2)
        go_upto_region 7 with fail
        go_cut [41] from 22 to 41 (fun p wx => p = .pointer (some ⟨G, 0, none⟩) ∧ Nw w wx ∧ Blk wx w.heap.size 25 #[.int .i64 0, .int .i64 0, .int .i64 0, .int .i64 0] ∧ Blk wx G 25 (boxC (m1, m2, x3, x4)))
        case first =>
          go_wp2_with fail
          go_region
          generalize hw2 : World.drew (World.setCell _ _ _) = w2
          have k1 : Nw w w2 := by rw [← hw2]; exact ((HKR.out.new hGw _ _).new hGw _ _).drew
          have k2 : Blk w2 w.heap.size 25 #[.int .i64 0, .int .i64 0, .int .i64 0, .int .i64 0] := by rw [← hw2]; exact ((HZR.out.far (p := ⟨G, 0, none⟩) (Nat.ne_of_lt HD.out) _).far (p := ⟨G, 1, none⟩) (Nat.ne_of_lt HD.out) _).drew
          have k3 : Blk w2 G 25 (boxC (m1, m2, x3, x4)) := by rw [← hw2]; exact (HBR.out.lay4a _ _).drew
          have K := Lib.hid (And.intro k1 (And.intro k2 k3))
          clear hw2 k1 k2 k3 q0 q1 c0 c1 c2 c3 d0 d1 d2 d3
          go_wp2_with fail
          go_meet
          case rel => exact ⟨rfl, K.out⟩
        case rest =>
          obtain ⟨rfl, k1, k2, k3⟩ := hcut
          obtain ⟨w2, hw2⟩ : ∃ w2, wc = w2 := ⟨_, rfl⟩
          subst hw2
          have HKR := Lib.hid k1
          have HZR := Lib.hid k2
          have HBR := Lib.hid k3
          obtain ⟨f1, f2⟩ := flatV_at l k (px, py) hHX.out
          clear q0 q1 c0 c1 c2 c3 d0 d1 d2 d3 hm1 hm2 k1 k2 k3
          have q0 : wc.cell? ⟨g, o + k * 2, none⟩ = some (.int .i64 px) := (HKR.out.cell (p := ⟨g, o + k * 2, none⟩) HG.out id).trans (HC.out _ _ f1)
          have q1 : wc.cell? ⟨g, o + k * 2 + 1, none⟩ = some (.int .i64 py) := (HKR.out.cell (p := ⟨g, o + (k * 2 + 1), none⟩) HG.out id).trans (HC.out _ _ f2)
          clear f1 f2
          obtain ⟨c0, c1, c2, c3, d0, d1, d2, d3⟩ := HBR.out.four
          obtain ⟨m3, hm3⟩ : ∃ m, (if px > x3 then px else x3) = m := ⟨_, rfl⟩
          obtain ⟨m4, hm4⟩ : ∃ m, (if py > x4 then py else x4) = m := ⟨_, rfl⟩
          go_wp2_with fail
          go_region
          generalize hw3 : World.drew (World.setCell _ _ _) = w3
          have HKR := Lib.hid (show Nw w w3 by rw [← hw3]; exact ((HKR.out.new hGw _ _).new hGw _ _).drew)
          have HZR := Lib.hid (show Blk w3 w.heap.size 25 #[.int .i64 0, .int .i64 0, .int .i64 0, .int .i64 0] by rw [← hw3]; exact ((HZR.out.far (p := ⟨G, 2, none⟩) (Nat.ne_of_lt HD.out) _).far (p := ⟨G, 3, none⟩) (Nat.ne_of_lt HD.out) _).drew)
          have HBR := Lib.hid (show Blk w3 G 25 (boxC (m1, m2, m3, m4)) by rw [← hw3]; exact (HBR.out.lay4b _ _).drew)
          clear hw3 q0 q1 c0 c1 c2 c3 d0 d1 d2 d3
          go_wp2_with fail
          go_roundw
          case rel =>
            refine ⟨k + 1, (m1, m2, m3, m4), by go_num, by omega, ?_, HKR.out, HZR.out, HBR.out⟩
            rw [List.take_add_one, hHX.out, Option.toList_some, List.foldl_append, ← HX.out, ← HM.out.1, ← HM.out.2, ← hm3, ← hm4]
            rfl
          case measure => simp [intOf]; omega
      · obtain rfl : k = n := by omega
        have i5 : ¬ ((k : Int) < (k : Int)) := by omega
        have hr : (x1, x2, x3, x4) = l.foldl boxStep (qx, qy, qx, qy) := by
          have h := HX.out
          rw [List.take_of_length_le (by rw [HN.out]; exact Nat.le_refl _)] at h
          exact h
        have HR := Lib.hid hr
        clear hr
        obtain ⟨c0, c1, c2, c3, d0, d1, d2, d3⟩ := HBR.out.four
        obtain ⟨z0, z1, z2, z3, y0, y1, y2, y3⟩ := HZR.out.four
        go_wp2
        exact bodyPost_ret (v := .tuple #[boxV (x1, x2, x3, x4), .bool true]) (by simp [results, Tryd.results40, go_sem, z0, z1, z2, z3]) rfl ⟨by rw [← HR.out], by repeat (first | exact HKR.out | refine Kp.new ?_ (Nat.le_refl _) _ _)⟩

set_option maxRecDepth 100000 in
set_option maxHeartbeats 6400000 in
theorem rboxOf_any (l : List (Int × Int)) (v : Value) (w : World) (hv : SrcV w v l) : Calls Tryd.prog 41 #[v] w fun e w' => e = .returned (.tuple #[boxV (boxOf l).1, .bool (boxOf l).2]) ∧ Nw w w' := by
  obtain ⟨hl, A, c, rfl, hnc, hcm, hcell⟩ := hv
  cases l with
  | nil =>
    clear hl hcell
    go_enter Tryd.func41, Tryd.ntmps41
    go_wp2
    exact bodyPost_ret (v := .tuple #[bV 0 0 0 0, .bool false]) (by simp [results, Tryd.results41, go_sem]) rfl ⟨rfl, by repeat (first | exact Kp.refl _ _ | refine Kp.alloc ?_ _ | refine Kp.drew ?_ | refine Kp.drewN ?_ _)⟩
  | cons q r =>
    obtain ⟨n, hn⟩ : ∃ n, (q :: r).length = n := ⟨_, rfl⟩
    have hn0 : 0 < n := by rw [← hn]; simp
    rw [hn] at hnc hcell ⊢
    obtain ⟨g, o, rfl, hb, hc⟩ := hcell hn0
    unfold maxLen at hcm
    obtain ⟨f1, f2⟩ := flatV_at (q :: r) 0 q rfl
    have z0 : w.cell? ⟨g, o, none⟩ = some (.int .i64 q.1) := hc _ _ f1
    have z1 : w.cell? ⟨g, o + 1, none⟩ = some (.int .i64 q.2) := hc _ _ f2
    have HL : boxOf (q :: r) = ((q :: r).foldl boxStep (q.1, q.2, q.1, q.2), true) := rfl
    rw [HL]
    clear HL hl hcell
    generalize (q :: r) = l at *
    obtain ⟨qx, qy⟩ := q
    have HN := Lib.hid hn
    have HC := Lib.hid hc
    have HG := Lib.hid hb
    have nz : ((n : Int) == 0) = false := by simp; omega
    have l0 : (0 : Int) < (n : Int) := by omega
    have hw : w.heap.size ≠ g := by omega
    have p0 := ((nw_alloc w (.cells #[.int .i64 0, .int .i64 0, .int .i64 0, .int .i64 0] 25)).cell (p := ⟨g, o, none⟩) hb id).trans z0
    have p1 := ((nw_alloc w (.cells #[.int .i64 0, .int .i64 0, .int .i64 0, .int .i64 0] 25)).cell (p := ⟨g, o + 1, none⟩) hb id).trans z1
    clear f1 f2 hn hc
    go_enter Tryd.func41, Tryd.ntmps41
    go_wp2_with fail
    generalize hw0 : w.alloc (.cells #[.int .i64 0, .int .i64 0, .int .i64 0, .int .i64 0] 25) = w0 at *
    have hg0 : g < w0.heap.size := by rw [← hw0]; simp; omega
    have hg1 : g ≠ w0.heap.size := by omega
    have hg2 : w0.heap.size ≠ g := by omega
    have p2 := ((nw_alloc w0 (.cells #[.int .i64 0, .int .i64 0, .int .i64 0, .int .i64 0] 25)).cell (p := ⟨g, o, none⟩) hg0 id).trans p0
    have p3 := ((nw_alloc w0 (.cells #[.int .i64 0, .int .i64 0, .int .i64 0, .int .i64 0] 25)).cell (p := ⟨g, o + 1, none⟩) hg0 id).trans p1
    go_region
    have hK0 : Nw w w0 := by rw [← hw0]; exact nw_alloc w _
    have hZ0 : Blk w0 w.heap.size 25 #[.int .i64 0, .int .i64 0, .int .i64 0, .int .i64 0] := by rw [← hw0]; exact Blk.new w _ _
    generalize hw1 : World.drew _ = w1
    have HK := Lib.hid (show Nw w w1 by rw [← hw1]; exact ((hK0.alloc _).drew))
    have HZ := Lib.hid (show Blk w1 w.heap.size 25 #[.int .i64 0, .int .i64 0, .int .i64 0, .int .i64 0] by rw [← hw1]; exact (hZ0.alloc _).drew)
    have HB := Lib.hid (show Blk w1 w0.heap.size 25 (boxC (qx, qy, qx, qy)) by rw [← hw1]; exact (Blk.new w0 _ _).drew)
    have HD := Lib.hid (show w.heap.size < w0.heap.size by rw [← hw0]; simp)
    have HGG := Lib.hid hg0
    obtain ⟨G, hG⟩ : ∃ G, w0.heap.size = G := ⟨_, rfl⟩
    rw [hG] at HB HD HGG ⊢
    clear hK0 hZ0 hw1 hw0 p0 p1 p2 p3 hg0 hg1 hg2 hG hw nz l0 hn0 hb z0 z1
    go_wp2_with fail
    go_loopw [5] (fun i wr => ∃ (k : Nat) (b : Int × Int × Int × Int), i = .int .i64 k ∧ k ≤ n ∧ b = (l.take k).foldl boxStep (qx, qy, qx, qy) ∧ Nw w wr ∧ Blk wr w.heap.size 25 #[.int .i64 0, .int .i64 0, .int .i64 0, .int .i64 0] ∧ Blk wr G 25 (boxC b)) (fun i _ => n - (intOf i).toNat)
    case atStart => exact ⟨0, _, rfl, Nat.zero_le _, rfl, HK.out, HZ.out, HB.out⟩
    case round =>
      obtain ⟨k, ⟨x1, x2, x3, x4⟩, rfl, hk, hbk, hnw, hz, hbx⟩ := hrel
      have i3 : (0 : Int) ≤ (k : Int) := by omega
      have HX := Lib.hid hbk
      have HKR := Lib.hid hnw
      have HZR := Lib.hid hz
      have HBR := Lib.hid hbx
      clear hbk hnw hz hbx
      by_cases hkn : k < n
      · have i4 : (k : Int) < (n : Int) := by omega
        have e2 : IntKind.i64.wrap ((k : Int) + 1) = (k : Int) + 1 := by rw [IntKind.wrap_i64]; omega
        obtain ⟨⟨px, py⟩, hx⟩ : ∃ x, l[k]? = some x := ⟨l[k]'(by rw [HN.out]; omega), List.getElem?_eq_getElem _⟩
        obtain ⟨f1, f2⟩ := flatV_at l k (px, py) hx
        have q0 : wr.cell? ⟨g, o + k * 2, none⟩ = some (.int .i64 px) := (HKR.out.cell (p := ⟨g, o + k * 2, none⟩) HG.out id).trans (HC.out _ _ f1)
        have q1 : wr.cell? ⟨g, o + k * 2 + 1, none⟩ = some (.int .i64 py) := (HKR.out.cell (p := ⟨g, o + (k * 2 + 1), none⟩) HG.out id).trans (HC.out _ _ f2)
        obtain ⟨c0, c1, c2, c3, d0, d1, d2, d3⟩ := HBR.out.four
        obtain ⟨m1, hm1⟩ : ∃ m, (if px < x1 then px else x1) = m := ⟨_, rfl⟩
        obtain ⟨m2, hm2⟩ : ∃ m, (if py < x2 then py else x2) = m := ⟨_, rfl⟩
        have hHX := Lib.hid hx
        have hGg : g ≠ G := by have := HGG.out; have := HD.out; have := HG.out; omega
        have hGg2 : G ≠ g := Ne.symm hGg
        clear f1 f2 hx
        have hGw : w.heap.size ≤ G := Nat.le_of_lt HD.out
        have HM := Lib.hid (And.intro hm1 hm2)
        go_upto_region 7 with fail
        go_cut [42] from 23 to 42 (fun p wx => p = .pointer (some ⟨G, 0, none⟩) ∧ Nw w wx ∧ Blk wx w.heap.size 25 #[.int .i64 0, .int .i64 0, .int .i64 0, .int .i64 0] ∧ Blk wx G 25 (boxC (m1, m2, x3, x4)))
        case first =>
          go_wp2_with fail
          go_region
          generalize hw2 : World.drew (World.setCell _ _ _) = w2
          have k1 : Nw w w2 := by rw [← hw2]; exact ((HKR.out.new hGw _ _).new hGw _ _).drew
          have k2 : Blk w2 w.heap.size 25 #[.int .i64 0, .int .i64 0, .int .i64 0, .int .i64 0] := by rw [← hw2]; exact ((HZR.out.far (p := ⟨G, 0, none⟩) (Nat.ne_of_lt HD.out) _).far (p := ⟨G, 1, none⟩) (Nat.ne_of_lt HD.out) _).drew
          have k3 : Blk w2 G 25 (boxC (m1, m2, x3, x4)) := by rw [← hw2]; exact (HBR.out.lay4a _ _).drew
          have K := Lib.hid (And.intro k1 (And.intro k2 k3))
          clear hw2 k1 k2 k3 q0 q1 c0 c1 c2 c3 d0 d1 d2 d3
          go_wp2_with fail
          go_meet
          case rel => exact ⟨rfl, K.out⟩
        case rest =>
          obtain ⟨rfl, k1, k2, k3⟩ := hcut
          obtain ⟨w2, hw2⟩ : ∃ w2, wc = w2 := ⟨_, rfl⟩
          subst hw2
          have HKR := Lib.hid k1
          have HZR := Lib.hid k2
          have HBR := Lib.hid k3
          obtain ⟨f1, f2⟩ := flatV_at l k (px, py) hHX.out
          clear q0 q1 c0 c1 c2 c3 d0 d1 d2 d3 hm1 hm2 k1 k2 k3
          have q0 : wc.cell? ⟨g, o + k * 2, none⟩ = some (.int .i64 px) := (HKR.out.cell (p := ⟨g, o + k * 2, none⟩) HG.out id).trans (HC.out _ _ f1)
          have q1 : wc.cell? ⟨g, o + k * 2 + 1, none⟩ = some (.int .i64 py) := (HKR.out.cell (p := ⟨g, o + (k * 2 + 1), none⟩) HG.out id).trans (HC.out _ _ f2)
          clear f1 f2
          obtain ⟨c0, c1, c2, c3, d0, d1, d2, d3⟩ := HBR.out.four
          obtain ⟨m3, hm3⟩ : ∃ m, (if px > x3 then px else x3) = m := ⟨_, rfl⟩
          obtain ⟨m4, hm4⟩ : ∃ m, (if py > x4 then py else x4) = m := ⟨_, rfl⟩
          go_wp2_with fail
          go_region
          generalize hw3 : World.drew (World.setCell _ _ _) = w3
          have HKR := Lib.hid (show Nw w w3 by rw [← hw3]; exact ((HKR.out.new hGw _ _).new hGw _ _).drew)
          have HZR := Lib.hid (show Blk w3 w.heap.size 25 #[.int .i64 0, .int .i64 0, .int .i64 0, .int .i64 0] by rw [← hw3]; exact ((HZR.out.far (p := ⟨G, 2, none⟩) (Nat.ne_of_lt HD.out) _).far (p := ⟨G, 3, none⟩) (Nat.ne_of_lt HD.out) _).drew)
          have HBR := Lib.hid (show Blk w3 G 25 (boxC (m1, m2, m3, m4)) by rw [← hw3]; exact (HBR.out.lay4b _ _).drew)
          clear hw3 q0 q1 c0 c1 c2 c3 d0 d1 d2 d3
          go_wp2_with fail
          go_roundw
          case rel =>
            refine ⟨k + 1, (m1, m2, m3, m4), by go_num, by omega, ?_, HKR.out, HZR.out, HBR.out⟩
            rw [List.take_add_one, hHX.out, Option.toList_some, List.foldl_append, ← HX.out, ← HM.out.1, ← HM.out.2, ← hm3, ← hm4]
            rfl
          case measure => simp [intOf]; omega
      · obtain rfl : k = n := by omega
        have i5 : ¬ ((k : Int) < (k : Int)) := by omega
        have hr : (x1, x2, x3, x4) = l.foldl boxStep (qx, qy, qx, qy) := by
          have h := HX.out
          rw [List.take_of_length_le (by rw [HN.out]; exact Nat.le_refl _)] at h
          exact h
        have HR := Lib.hid hr
        clear hr
        obtain ⟨c0, c1, c2, c3, d0, d1, d2, d3⟩ := HBR.out.four
        obtain ⟨z0, z1, z2, z3, y0, y1, y2, y3⟩ := HZR.out.four
        go_wp2
        exact bodyPost_ret (v := .tuple #[boxV (x1, x2, x3, x4), .bool true]) (by simp [results, Tryd.results41, go_sem, z0, z1, z2, z3]) rfl ⟨by rw [← HR.out], by repeat (first | exact HKR.out | refine Kp.new ?_ (Nat.le_refl _) _ _)⟩

end Go.Proofs.YtahamffngmdjfaaDoor.W
