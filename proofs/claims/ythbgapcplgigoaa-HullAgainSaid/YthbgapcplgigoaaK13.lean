/-
  hull: the reference's collinear and next: what they return. Condition: the list is not longer than 2^40.
-/
import Derived.Test.YthbgapcplgigoaaK05
namespace Go.Proofs.Ythbgapcplgigoaa.W
open Go.RowKit Go.Proofs.Ythbgapcplgigoaa.V Go.Proofs.Ythbgapcplgigoaa.G


theorem neq_vecU (x1 x2 y1 y2 : Int) (w : World) : (binOp .neq 32 (.agg #[.int .i64 x1, .int .i64 x2]) (.agg #[.int .i64 y1, .int .i64 y2])).run Try.prog w = .ok (.bool (!(x1 == y1 && x2 == y2))) w := by
  have u3 := Try.underlying3
  have a3 := Try.isAgg3
  have z3 := Try.sizeOf3
  have hS : Try.prog.underlying 32 = some (.struct (Try.prog.fieldsOf 32)) := by kernel_rfl
  have hp : Try.prog.stoodInHeld 32 = false := by kernel_rfl
  rw [run_neq_struct, show (10000 : Nat) = 9999 + 1 from rfl, run_equalIn_agg w 9999 32 _ _ hS hp]
  simp only [Program.fieldsOf, Try.underlying32]
  go_simp
  by_cases h1 : x1 = y1 <;> by_cases h2 : x2 = y2 <;> simp [h1, h2]

theorem Blk.nw {w w' : World} {g : Nat} {t : TypeId} {cs : Array Value} (h : Blk w g t cs) (hk : Nw w w') : Blk w' g t cs := h.kp hk id
theorem Blk.far2 {w : World} {g k : Nat} {t : TypeId} {cs : Array Value} (h : Blk w g t cs) (hne : g ≠ k) (x y : Value) : Blk ((w.setCell ⟨k, 0, none⟩ x).setCell ⟨k, 1, none⟩ y) g t cs := (h.far (p := ⟨k, 0, none⟩) hne x).far (p := ⟨k, 1, none⟩) hne y
theorem Kp.new2 {Q : Nat → Prop} {a w : World} (h : Kp Q a w) {b : Nat} (hb : a.heap.size ≤ b) (x y : Value) : Kp Q a ((w.setCell ⟨b, 0, none⟩ x).setCell ⟨b, 1, none⟩ y) := (h.new hb 0 x).new hb 1 y
/-- two vectors in boxes of their own, and nothing else has changed -/
def Rel2 (x1 y1 x2 y2 : Int) (w0 : World) (px py : Value) (wx : World) : Prop := ∃ BX BY, px = .pointer (some ⟨BX, 0, none⟩) ∧ py = .pointer (some ⟨BY, 0, none⟩) ∧ Blk wx BX 32 #[.int .i64 x1, .int .i64 y1] ∧ Blk wx BY 32 #[.int .i64 x2, .int .i64 y2] ∧ Nw w0 wx
section
variable {x1 y1 x2 y2 : Int} {w0 w5 : World} {u v u' v' : Value} (hk : Nw w0 w5)
include hk
theorem two1 : Rel2 x1 y1 x2 y2 w0 (.pointer (some ⟨w5.heap.size, 0, none⟩)) (.pointer (some ⟨w5.heap.size + 1, 0, none⟩)) ((w5.alloc (.cells #[.int .i64 x1, .int .i64 y1] 32)).alloc (.cells #[.int .i64 x2, .int .i64 y2] 32)) :=
  ⟨_, _, rfl, rfl, (Blk.new _ _ _).alloc _, Blk.new_at _ _ _ (by simp), hk.tr ((nw_alloc w5 _).alloc _)⟩
theorem two2 : Rel2 x1 y1 x2 y2 w0 (.pointer (some ⟨w5.heap.size + 1, 0, none⟩)) (.pointer (some ⟨w5.heap.size, 0, none⟩)) ((w5.alloc (.cells #[.int .i64 x2, .int .i64 y2] 32)).alloc (.cells #[.int .i64 x1, .int .i64 y1] 32)) :=
  ⟨_, _, rfl, rfl, Blk.new_at _ _ _ (by simp), (Blk.new _ _ _).alloc _, hk.tr ((nw_alloc w5 _).alloc _)⟩
theorem two4 {h1 h2 : Nat} (b1 : Blk w5 h1 32 #[u, v]) (b2 : Blk w5 h2 32 #[u', v']) (hne : h1 ≠ h2) (s1 : w0.heap.size ≤ h1) (s2 : w0.heap.size ≤ h2) : Rel2 x1 y1 x2 y2 w0 (.pointer (some ⟨h1, 0, none⟩)) (.pointer (some ⟨h2, 0, none⟩)) ((((w5.setCell ⟨h1, 0, none⟩ (.int .i64 x1)).setCell ⟨h1, 1, none⟩ (.int .i64 y1)).setCell ⟨h2, 0, none⟩ (.int .i64 x2)).setCell ⟨h2, 1, none⟩ (.int .i64 y2)) :=
  ⟨_, _, rfl, rfl, (b1.lay2 _ _).far2 hne _ _, (b2.far2 (Ne.symm hne) _ _).lay2 _ _, (hk.new2 s1 _ _).new2 s2 _ _⟩
theorem two5 {h2 : Nat} (b2 : Blk w5 h2 32 #[u', v']) (s2 : w0.heap.size ≤ h2) : Rel2 x1 y1 x2 y2 w0 (.pointer (some ⟨w5.heap.size, 0, none⟩)) (.pointer (some ⟨h2, 0, none⟩)) (((w5.alloc (.cells #[.int .i64 x1, .int .i64 y1] 32)).setCell ⟨h2, 0, none⟩ (.int .i64 x2)).setCell ⟨h2, 1, none⟩ (.int .i64 y2)) :=
  ⟨_, _, rfl, rfl, (Blk.new _ _ _).far2 (Nat.ne_of_gt b2.lt) _ _, (b2.alloc _).lay2 _ _, (hk.alloc _).new2 s2 _ _⟩
theorem two3 {h1 : Nat} (b1 : Blk w5 h1 32 #[u, v]) (s1 : w0.heap.size ≤ h1) : Rel2 x1 y1 x2 y2 w0 (.pointer (some ⟨h1, 0, none⟩)) (.pointer (some ⟨w5.heap.size, 0, none⟩)) (((((w5.alloc (.cells #[.int .i64 0, .int .i64 0] 32)).setCell ⟨h1, 0, none⟩ (.int .i64 x1)).setCell ⟨h1, 1, none⟩ (.int .i64 y1)).setCell ⟨w5.heap.size, 0, none⟩ (.int .i64 x2)).setCell ⟨w5.heap.size, 1, none⟩ (.int .i64 y2)) :=
  two4 (hk.alloc _) (b1.alloc _) (Blk.new w5 _ _) (Nat.ne_of_lt b1.lt) s1 hk.size
end


theorem colB_rows (l : List Pt) : colB l = allTo l.length fun i => allTo l.length fun k => (at_ l i == at_ l 0) || (turnP (at_ l 0) (at_ l i) (at_ l k) == 0) := rfl

set_option maxRecDepth 100000 in
set_option maxHeartbeats 6400000 in
theorem col_any (l : List (Int × Int)) (v : Value) (w : World) (hv : SrcV w v l) (hl : l.length ≤ 1099511627776)  : Calls Try.prog 40 #[v] w fun e w' => e = .returned (.bool (colB l)) ∧ Nw w w' := by
  obtain ⟨A, c, rfl⟩ := hv.shape
  obtain ⟨n, hn⟩ : ∃ n, l.length = n := ⟨_, rfl⟩
  replace hv := src_n hv hn
  rw [hn] at hl ⊢
  have HV := Lib.hid hv
  have HN := Lib.hid hn
  have hmx := src_max hv
  clear hv hn
  have hmix := mixed7
  obtain ⟨row, hrow⟩ : ∃ row : Nat → Bool, row = fun i => allTo n fun k => (at_ l i == at_ l 0) || (turnP (at_ l 0) (at_ l i) (at_ l k) == 0) := ⟨_, rfl⟩
  have HROW := Lib.hid (show ∀ i, row i = allTo n fun k => (at_ l i == at_ l 0) || (turnP (at_ l 0) (at_ l i) (at_ l k) == 0) from fun i => by rw [hrow])
  have hcol : colB l = allTo n row := by rw [colB_rows, HN.out, hrow]
  rw [hcol]
  clear hrow hcol
  go_enter Try.func40, Try.ntmps40
  go_wp2_with fail
  go_loopw [3] (fun i wr => ∃ k : Nat, i = .int .i64 k ∧ k ≤ n ∧ (∀ a, a < k → row a = true) ∧ Nw w wr) (fun i _ => n - (intOf i).toNat)
  case atStart => exact ⟨0, rfl, Nat.zero_le _, fun a h => absurd h (Nat.not_lt_zero _), (by repeat (first | exact Kp.refl _ _ | refine Kp.alloc ?_ _ | refine Kp.drew ?_))⟩
  case round =>
    obtain ⟨k, rfl, hk, hall, hnw⟩ := hrel
    have HA := Lib.hid hall
    clear hall
    have HK := Lib.hid hnw
    clear hnw
    by_cases hkn : k < n
    · have i0 : (0 : Int) ≤ (k : Int) := by omega
      have i1 : (k : Int) < (n : Int) := by omega
      obtain ⟨s4, hs4⟩ : ∃ s : Nat, k + 1 = s := ⟨_, rfl⟩
      have a4 : IntKind.i64.wrap ((k : Int) + 1) = (s4 : Int) := by rw [IntKind.wrap_i64]; omega
      have H4 := Lib.hid hs4
      clear hs4
      have hn0 : 0 < n := by omega
      have hn1 : (0 : Int) < (n : Int) := by omega
      obtain ⟨wo, rfl⟩ : ∃ x, x = wr := ⟨_, rfl⟩
      go_wp2_with fail
      go_loopw [4] (fun j wx => ∃ m : Nat, j = .int .i64 m ∧ m ≤ n ∧ (∀ j, j < m → ((at_ l k == at_ l 0) || (turnP (at_ l 0) (at_ l k) (at_ l j) == 0)) = true) ∧ Nw wo wx) (fun j _ => n - (intOf j).toNat)
      case atStart => exact ⟨0, rfl, Nat.zero_le _, fun a h => absurd h (Nat.not_lt_zero _), (by repeat (first | exact Kp.refl _ _ | refine Kp.alloc ?_ _ | refine Kp.drew ?_))⟩
      case round =>
        obtain ⟨m, rfl, hm, hin, hnx⟩ := hrel
        have HI := Lib.hid hin
        have HX := Lib.hid hnx
        clear hin hnx
        by_cases hmn : m < n
        · have j0 : (0 : Int) ≤ (m : Int) := by omega
          have j1 : (m : Int) < (n : Int) := by omega
          obtain ⟨s7, hs7⟩ : ∃ s : Nat, m + 1 = s := ⟨_, rfl⟩
          have a7 : IntKind.i64.wrap ((m : Int) + 1) = (s7 : Int) := by rw [IntKind.wrap_i64]; omega
          obtain ⟨g, o, rfl, hg, hc⟩ := src_at HV.out (by omega)
          obtain ⟨⟨ax, ay⟩, ha⟩ : ∃ p, at_ l k = p := ⟨_, rfl⟩
          obtain ⟨⟨bx, bz⟩, hb⟩ : ∃ p, at_ l 0 = p := ⟨_, rfl⟩
          obtain ⟨⟨cx, cy⟩, hcc⟩ : ∃ p, at_ l m = p := ⟨_, rfl⟩
          have y := fun p : KeptW wr => hc p.wd (HK.out.tr (HX.out.tr p.since))
          have q0 := fun p => (y p k hkn).1
          have q1 := fun p => (y p k hkn).2
          have q2 := fun p => (y p 0 hn0).1
          have q3 := fun p => (y p 0 hn0).2
          have q4 := fun p => (y p m hmn).1
          have q5 := fun p => (y p m hmn).2
          simp only [Nat.zero_mul, Nat.add_zero] at q2 q3
          rw [ha] at q0 q1
          rw [hb] at q2 q3
          rw [hcc] at q4 q5
          have ct := fun w1 => rturn_any bx bz ax ay cx cy w1
          have hq := fun w1 => neq_vecU ax ay bx bz w1
          obtain ⟨t, ht⟩ : ∃ t, turnV bx bz ax ay cx cy = t := ⟨_, rfl⟩
          rw [ht] at ct
          obtain ⟨b1, hb1⟩ : ∃ b, (!(ax == bx && ay == bz)) = b := ⟨_, rfl⟩
          rw [hb1] at hq
          obtain ⟨b2, hb2⟩ : ∃ b, (t != 0) = b := ⟨_, rfl⟩
          have HP := Lib.hid (show ((at_ l k == at_ l 0) || (turnP (at_ l 0) (at_ l k) (at_ l m) == 0)) = (!b1 || !b2) by
            rw [ha, hb, hcc, ← hb1, ← hb2, ← ht, Bool.not_not]
            show _ = (_ || !(!(turnV bx bz ax ay cx cy == 0)))
            rw [Bool.not_not]
            rfl)
          have H7 := Lib.hid hs7
          clear hs7 y ha hb hcc hc hg ht
          go_upto_region 7 with fail
          cases b1 <;> cases b2
          case true.true =>
            refine wp_region_kept (Kp.refl _ _) (by assumption) (by kernel_rfl) ?_
            repeat (with_reducible refine wpQuiet_step (fun K hK => ?_); go_simp; first | ((with_reducible refine hK _ ?_); clear hK K) | (with_reducible apply Exists.intro; (with_reducible refine ⟨fun _ => ?_, hK _ ?_⟩); ((first | (go_at_call 26; with_reducible exact Calls.kept_of (ct _)) | fail)); clear hK K) | (simp only [undef, reduceCtorEq, if_false]; (with_reducible refine hK _ ?_); clear hK K))
            with_reducible refine wpQuiet_nil ?_
            rintro _ ⟨p, rfl⟩
            go_wp2_with fail
            go_ret
            refine ⟨?_, HK.out.tr (HX.out.tr p.since)⟩
            show Ending.returned (.bool false) = _
            rw [show allTo n row = false from allTo_not (i := k) hkn (by rw [HROW.out]; exact allTo_not (i := m) hmn HP.out)]
          all_goals (
            refine wp_region_kept (Kp.refl _ _) (by assumption) (by kernel_rfl) ?_
            repeat (with_reducible refine wpQuiet_step (fun K hK => ?_); go_simp; first | ((with_reducible refine hK _ ?_); clear hK K) | (with_reducible apply Exists.intro; (with_reducible refine ⟨fun _ => ?_, hK _ ?_⟩); ((first | (go_at_call 26; with_reducible exact Calls.kept_of (ct _)) | fail)); clear hK K) | (simp only [undef, reduceCtorEq, if_false]; (with_reducible refine hK _ ?_); clear hK K))
            with_reducible refine wpQuiet_nil ?_
            rintro _ ⟨p, rfl⟩
            go_wp2_with fail
            go_roundw
            case rel =>
              refine ⟨m + 1, by rw [← H7.out], by omega, fun j h1 => ?_, HX.out.tr p.since⟩
              rcases Nat.lt_or_ge j m with h | h
              · exact HI.out j h
              · obtain rfl : j = m := by omega
                exact HP.out
            case measure => (have := H7.out; simp [intOf]; try omega))
        · obtain rfl : m = n := by omega
          have i6 : ¬ ((m : Int) < (m : Int)) := by omega
          go_wp2_with fail
          go_roundw
          case rel =>
            refine ⟨k + 1, by rw [← H4.out], by omega, fun j h1 => ?_, HK.out.tr HX.out⟩
            rcases Nat.lt_or_ge j k with h | h
            · exact HA.out j h
            · obtain rfl : j = k := by omega
              rw [HROW.out]
              exact allTo_iff.2 fun i hi => HI.out i hi
          case measure => (have := H4.out; simp [intOf]; try omega)
    · obtain rfl : k = n := by omega
      have i5 : ¬ ((k : Int) < (k : Int)) := by omega
      go_wp2_with fail
      go_ret
      refine ⟨?_, HK.out⟩
      show Ending.returned (.bool true) = _
      rw [show allTo k row = true from allTo_iff.2 fun i hi => HA.out i hi]

/-- the next vertex so far -/
def nextUp (l : List Pt) (p : Pt) : Nat → Pt
  | 0 => p
  | k + 1 => nextStep p (nextUp l p k) (at_ l k)
theorem next_fold (l : List Pt) (p : Pt) : ∀ k, k ≤ l.length → nextUp l p k = (l.take k).foldl (nextStep p) p
  | 0, _ => rfl
  | k + 1, hk => by
    rw [take_at (by omega), List.foldl_append, ← next_fold l p k (by omega)]
    rfl
theorem nextUp_to (l : List Pt) (p : Pt) : nextUp l p l.length = nextTo l p := by
  rw [next_fold l p _ (Nat.le_refl _), List.take_length]
  rfl
theorem next_ok {l : List Pt} {p : Pt} (hs : allS l = true) (hp : sOk p = true) : ∀ k, k ≤ l.length → sOk (nextUp l p k) = true
  | 0, _ => hp
  | k + 1, hk => by
    have ih := next_ok hs hp k (by omega)
    have ha := allS_at hs (show k < l.length by omega)
    show sOk (nextStep p (nextUp l p k) (at_ l k)) = true
    unfold nextStep
    split
    · exact ih
    · split
      · exact ha
      · split
        · exact ha
        · exact ih
theorem step_words {p q x : Pt} (hp : sOk p = true) (hq : sOk q = true) (hx : sOk x = true) (h1 : x ≠ p) (h2 : q ≠ p) :
    nextStep p q x = if decide (turnP p q x < 0) || (turnP p q x == 0 && decide (dsV q p < dsV x p)) then x else q := by
  unfold nextStep
  rw [if_neg h1, if_neg h2, turn_small hp hq hx, ds_small hq hp, ds_small hx hp, sq_sym q p, sq_sym x p]
  have e1 := sgn_lt (crsP p q x)
  have e2 := sgn_zero (crsP p q x)
  by_cases c : crsP p q x < 0 ∨ crsP p q x = 0 ∧ sqP p q < sqP p x
  · rw [if_pos c, if_pos]
    simp only [Bool.or_eq_true, Bool.and_eq_true, decide_eq_true_eq, beq_iff_eq]
    omega
  · rw [if_neg c, if_neg]
    simp only [Bool.or_eq_true, Bool.and_eq_true, decide_eq_true_eq, beq_iff_eq]
    omega

set_option maxRecDepth 100000 in
set_option maxHeartbeats 12800000 in
theorem next_any (l : List (Int × Int)) (px py : Int) (v : Value) (w : World) (hv : SrcV w v l) (hl : l.length ≤ 1099511627776) (hs : allS l = true) (hp : sOk (px, py) = true) : Calls Try.prog 41 #[v, vV px py] w fun e w' => e = .returned (vV (nextTo l (px, py)).1 (nextTo l (px, py)).2) ∧ Nw w w' := by
  obtain ⟨A, c, rfl⟩ := hv.shape
  obtain ⟨n, hn⟩ : ∃ n, l.length = n := ⟨_, rfl⟩
  replace hv := src_n hv hn
  rw [hn] at hl ⊢
  have HV := Lib.hid hv
  have HN := Lib.hid hn
  have hmx := src_max hv
  clear hv hn
  have hmix := mixed7
  obtain ⟨⟨rx, ry⟩, hrr⟩ : ∃ r, nextTo l (px, py) = r := ⟨_, rfl⟩
  rw [hrr]
  have HRR := Lib.hid (show nextUp l (px, py) n = (rx, ry) by rw [← hrr, ← nextUp_to, HN.out])
  have HOK := Lib.hid (show ∀ k, k ≤ n → sOk (nextUp l (px, py) k) = true from fun k hk => next_ok hs hp k (by rw [HN.out]; exact hk))
  have HSS := Lib.hid hs
  have HPP := Lib.hid hp
  clear hrr hs hp
  obtain ⟨W0, hW0⟩ : ∃ W, ((w.alloc (.cells #[.int .i64 px, .int .i64 py] 32)).alloc (.cells #[.int .i64 0, .int .i64 0] 32)).alloc (.cells #[.int .i64 px, .int .i64 py] 32) = W := ⟨_, rfl⟩
  have HW0 := Lib.hid (show Nw w W0 by rw [← hW0]; exact ((nw_alloc _ _).alloc _).alloc _)
  have HB3 := Lib.hid (show Blk W0 w.heap.size 32 #[.int .i64 px, .int .i64 py] by rw [← hW0]; exact ((Blk.new _ _ _).alloc _).alloc _)
  have HB4 := Lib.hid (show Blk W0 (w.heap.size + 1) 32 #[.int .i64 0, .int .i64 0] by rw [← hW0]; exact (Blk.new_at _ _ _ (by simp)).alloc _)
  have HB5 := Lib.hid (show Blk W0 (w.heap.size + 1 + 1) 32 #[.int .i64 px, .int .i64 py] by rw [← hW0]; exact Blk.new_at _ _ _ (by simp))
  go_enter Try.func41, Try.ntmps41
  go_wp2_with fail
  obtain ⟨B3, hB3⟩ : ∃ x, w.heap.size = x := ⟨_, rfl⟩
  rw [hB3] at HB3 HB4 HB5 ⊢
  obtain ⟨B4, hB4⟩ : ∃ x, B3 + 1 = x := ⟨_, rfl⟩
  rw [hB4] at HB4 HB5 ⊢
  obtain ⟨B5, hB5⟩ : ∃ x, B4 + 1 = x := ⟨_, rfl⟩
  rw [hB5] at HB5 ⊢
  have HBB := Lib.hid (show w.heap.size = B3 ∧ B3 + 1 = B4 ∧ B4 + 1 = B5 from ⟨hB3, hB4, hB5⟩)
  clear hW0 hB3 hB4 hB5
  go_loopw [6] (fun i wr => ∃ k : Nat, i = .int .i64 k ∧ k ≤ n ∧ Blk wr B5 32 #[.int .i64 (nextUp l (px, py) k).1, .int .i64 (nextUp l (px, py) k).2] ∧ Kp (fun j => j = B5) W0 wr) (fun i _ => n - (intOf i).toNat)
  case atStart => exact ⟨0, rfl, Nat.zero_le _, HB5.out, Kp.refl _ _⟩
  case round =>
    obtain ⟨k, rfl, hk, hbq, hnw⟩ := hrel
    obtain ⟨⟨ux, uy⟩, hu⟩ : ∃ p, nextUp l (px, py) k = p := ⟨_, rfl⟩
    rw [hu] at hbq
    have HBQ := Lib.hid hbq
    have HU := Lib.hid hu
    have HWK := Lib.hid (show Nw w wr from HW0.out.own hnw (fun j e => by have e2 : j = B5 := e; have := HBB.out; omega))
    have HB3K := Lib.hid (HB3.out.kp hnw (fun e => by have e2 : B3 = B5 := e; have := HBB.out; omega))
    clear hbq hu
    have HK := Lib.hid hnw
    clear hnw
    by_cases hkn : k < n
    · have i0 : (0 : Int) ≤ (k : Int) := by omega
      have i1 : (k : Int) < (n : Int) := by omega
      obtain ⟨s4, hs4⟩ : ∃ s : Nat, k + 1 = s := ⟨_, rfl⟩
      have a4 : IntKind.i64.wrap ((k : Int) + 1) = (s4 : Int) := by rw [IntKind.wrap_i64]; omega
      have H4 := Lib.hid hs4
      obtain ⟨g, o, rfl, hg, hc⟩ := src_at HV.out (by omega)
      obtain ⟨⟨ax, ay⟩, ha⟩ : ∃ p, at_ l k = p := ⟨_, rfl⟩
      have HC := Lib.hid (show ∀ w', Nw wr w' → (w'.cell? (⟨B5, 0, none⟩ : Addr) = some (.int .i64 ux) ∧ w'.cell? (⟨B5, 1, none⟩ : Addr) = some (.int .i64 uy)) ∧ (w'.cell? (⟨B3, 0, none⟩ : Addr) = some (.int .i64 px) ∧ w'.cell? (⟨B3, 1, none⟩ : Addr) = some (.int .i64 py)) ∧ (w'.cell? (⟨g, o + k * 2, none⟩ : Addr) = some (.int .i64 ax) ∧ w'.cell? (⟨g, o + k * 2 + 1, none⟩ : Addr) = some (.int .i64 ay)) from fun w' h => by
        have y := hc w' (HWK.out.tr h) k hkn
        rw [ha] at y
        have e5 := HBQ.out.kp h id
        have e3 := HB3K.out.kp h id
        exact ⟨⟨e5.cell 0, e5.cell 1⟩, ⟨e3.cell 0, e3.cell 1⟩, y⟩)
      have HGB := Lib.hid (show g < wr.heap.size ∧ g ≠ B5 ∧ B5 < wr.heap.size ∧ w.heap.size ≤ B5 from ⟨Nat.lt_of_lt_of_le hg HWK.out.size, by have := HBB.out; omega, HBQ.out.lt, by have := HBB.out; omega⟩)
      have hst : nextUp l (px, py) (k + 1) = nextStep (px, py) (ux, uy) (ax, ay) := by
        show nextStep (px, py) (nextUp l (px, py) k) (at_ l k) = _
        rw [HU.out, ha]
      have HA := Lib.hid ha
      have q0 := fun p : KeptW wr => (HC.out p.wd p.since).2.1.1
      have q1 := fun p : KeptW wr => (HC.out p.wd p.since).2.1.2
      have q2 := fun p : KeptW wr => (HC.out p.wd p.since).2.2.1
      have q3 := fun p : KeptW wr => (HC.out p.wd p.since).2.2.2
      have hq1 := fun w1 => eql_vecg ax ay px py w1
      have hq2 := fun w1 => eql_vecg ux uy px py w1
      obtain ⟨b1, hb1⟩ : ∃ b, (ax == px && ay == py) = b := ⟨_, rfl⟩
      obtain ⟨b2, hb2⟩ : ∃ b, (ux == px && uy == py) = b := ⟨_, rfl⟩
      rw [hb1] at hq1
      rw [hb2] at hq2
      have H1 := Lib.hid (show ((ax, ay) : Pt) = (px, py) ↔ b1 = true by rw [← hb1]; simp)
      have H2 := Lib.hid (show ((ux, uy) : Pt) = (px, py) ↔ b2 = true by rw [← hb2]; simp)
      clear hc hg ha hs4 hb1 hb2
      go_upto_region 5 with fail
      refine wp_region_kept (Kp.refl _ _) (by assumption) (by kernel_rfl) ?_
      repeat (with_reducible refine wpQuiet_step (fun K hK => ?_); go_simp; first | ((with_reducible refine hK _ ?_); clear hK K) | (with_reducible apply Exists.intro; (with_reducible refine ⟨fun _ => ?_, hK _ ?_⟩); (fail); clear hK K) | (simp only [undef, reduceCtorEq, if_false]; (with_reducible refine hK _ ?_); clear hK K))
      with_reducible refine wpQuiet_nil ?_
      rintro _ ⟨p, rfl⟩
      have HKQ := Lib.hid p.since
      generalize p.wd = w2 at HKQ ⊢
      clear q0 q1 q2 q3 hq1
      have HC2 := Lib.hid (fun (w' : World) (h : Nw w2 w') => HC.out w' (HKQ.out.tr h))
      have HBQ2 := Lib.hid (HBQ.out.kp HKQ.out id)
      have HK2 := Lib.hid (HK.out.trans (Nw.kp HKQ.out) (fun j hj e => e))
      cases b1
      · obtain ⟨⟨y0, y1⟩, ⟨y2, y3⟩, ⟨y4, y5⟩⟩ := HC2.out w2 (Kp.refl _ _)
        obtain ⟨_, _, f0, f1⟩ := HBQ2.out.two
        cases b2
        · go_upto_region 8 with fail
          clear y0 y1 y2 y3 y4 y5 f0 f1 hq2
          have q0 := fun p : KeptW w2 => (HC2.out p.wd p.since).1.1
          have q1 := fun p : KeptW w2 => (HC2.out p.wd p.since).1.2
          have q2 := fun p : KeptW w2 => (HC2.out p.wd p.since).2.1.1
          have q3 := fun p : KeptW w2 => (HC2.out p.wd p.since).2.1.2
          have q4 := fun p : KeptW w2 => (HC2.out p.wd p.since).2.2.1
          have q5 := fun p : KeptW w2 => (HC2.out p.wd p.since).2.2.2
          have ct := fun w1 => rturn_any px py ux uy ax ay w1
          have hsw := step_words (p := (px, py)) (q := (ux, uy)) (x := (ax, ay)) HPP.out (by rw [← HU.out]; exact HOK.out k (by omega)) (by rw [← HA.out]; exact allS_at HSS.out (by rw [HN.out]; exact hkn)) (fun e => by have := H1.out.1 e; cases this) (fun e => by have := H2.out.1 e; cases this)
          rw [hsw] at hst
          have htt : turnP (px, py) (ux, uy) (ax, ay) = turnV px py ux uy ax ay := rfl
          obtain ⟨t, ht⟩ : ∃ t, turnV px py ux uy ax ay = t := ⟨_, rfl⟩
          rw [htt, ht] at hst
          rw [ht] at ct
          have hd0 : dsV (ux, uy) (px, py) = dotV (w64 (ux - px)) (w64 (uy - py)) (w64 (ux - px)) (w64 (uy - py)) := rfl
          have hd1 : dsV (ax, ay) (px, py) = dotV (w64 (ax - px)) (w64 (ay - py)) (w64 (ax - px)) (w64 (ay - py)) := rfl
          rw [hd0, hd1] at hst
          have c1 := fun w1 => rsub_any ux uy px py w1
          have c2 := fun w1 => rsub_any ax ay px py w1
          obtain ⟨x1, hx1⟩ : ∃ x, w64 (ux - px) = x := ⟨_, rfl⟩
          obtain ⟨y1, hy1⟩ : ∃ x, w64 (uy - py) = x := ⟨_, rfl⟩
          obtain ⟨x2, hx2⟩ : ∃ x, w64 (ax - px) = x := ⟨_, rfl⟩
          obtain ⟨y2, hy2⟩ : ∃ x, w64 (ay - py) = x := ⟨_, rfl⟩
          rw [hx1, hy1] at c1
          rw [hx2, hy2] at c2
          rw [hx1, hy1, hx2, hy2] at hst
          have c3 := fun w1 => rdot_any x2 y2 x2 y2 w1
          have c4 := fun w1 => rdot_any x1 y1 x1 y1 w1
          obtain ⟨d1, hd1⟩ : ∃ x, dotV x2 y2 x2 y2 = x := ⟨_, rfl⟩
          obtain ⟨d0, hd0⟩ : ∃ x, dotV x1 y1 x1 y1 = x := ⟨_, rfl⟩
          rw [hd1] at c3 hst
          rw [hd0] at c4 hst
          obtain ⟨b3, hb3⟩ : ∃ b, decide (t < 0) = b := ⟨_, rfl⟩
          obtain ⟨b4, hb4⟩ : ∃ b, (t == 0) = b := ⟨_, rfl⟩
          obtain ⟨b5, hb5⟩ : ∃ b, decide (d0 < d1) = b := ⟨_, rfl⟩
          rw [hb3, hb4, hb5] at hst
          have hb5' : decide (d1 > d0) = b5 := hb5
          have HST := Lib.hid hst
          clear hst hsw htt ht hx1 hy1 hx2 hy2
          refine wp_region_kept (Kp.refl _ _) (by assumption) (by kernel_rfl) ?_
          repeat (with_reducible refine wpQuiet_step (fun K hK => ?_); go_simp; first | ((with_reducible refine hK _ ?_); clear hK K) | (with_reducible apply Exists.intro; (with_reducible refine ⟨fun _ => ?_, hK _ ?_⟩); ((first | (go_at_call 26; with_reducible exact Calls.kept_of (ct _)) | fail)); clear hK K) | (simp only [undef, reduceCtorEq, if_false]; (with_reducible refine hK _ ?_); clear hK K))
          with_reducible refine wpQuiet_nil ?_
          rintro _ ⟨p, rfl⟩
          have HKT := Lib.hid (HKQ.out.tr p.since)
          have HKT2 := Lib.hid p.since
          generalize p.wd = w3 at HKT HKT2 ⊢
          clear q0 q1 q2 q3 q4 q5 ct
          have HP := Lib.hid (show ∀ w', Nw w3 w' → w'.cell? (⟨B5, 0, none⟩ : Addr) = some (.int .i64 ux) ∧ w'.cell? (⟨B5, 1, none⟩ : Addr) = some (.int .i64 uy) ∧ w'.cell? (⟨B3, 0, none⟩ : Addr) = some (.int .i64 px) ∧ w'.cell? (⟨B3, 1, none⟩ : Addr) = some (.int .i64 py) ∧ w'.cell? (⟨g, o + k * 2, none⟩ : Addr) = some (.int .i64 ax) ∧ w'.cell? (⟨g, o + k * 2 + 1, none⟩ : Addr) = some (.int .i64 ay) from fun w' h => by
            obtain ⟨⟨z0, z1⟩, ⟨z2, z3⟩, ⟨z4, z5⟩⟩ := HC2.out w' (HKT2.out.tr h)
            exact ⟨z0, z1, z2, z3, z4, z5⟩)
          have HLT := Lib.hid (show g < w3.heap.size ∧ B3 < w3.heap.size ∧ B5 < w3.heap.size from ⟨Nat.lt_of_lt_of_le HGB.out.1 HKT.out.size, (HB3K.out.kp HKT.out id).lt, (HBQ.out.kp HKT.out id).lt⟩)
          go_upto_region 9 with fail
          go_cut [8, 9] from 37 to 45 (fun p8 p9 wx => Rel2 x1 y1 x2 y2 w3 p8 p9 wx)
          case first =>
            obtain ⟨hl0, hl1, hl2⟩ := HLT.out
            clear c3 c4 hb3 hb4 hb5 hb5'
            go_wp2_with fail
            go_region_held3 (fun w' : World => w'.cell? (⟨B5, 0, none⟩ : Addr) = some (.int .i64 ux) ∧ w'.cell? (⟨B5, 1, none⟩ : Addr) = some (.int .i64 uy) ∧ w'.cell? (⟨B3, 0, none⟩ : Addr) = some (.int .i64 px) ∧ w'.cell? (⟨B3, 1, none⟩ : Addr) = some (.int .i64 py) ∧ w'.cell? (⟨g, o + k * 2, none⟩ : Addr) = some (.int .i64 ax) ∧ w'.cell? (⟨g, o + k * 2 + 1, none⟩ : Addr) = some (.int .i64 ay))
              (first | ((refine HP.out _ ?_); (repeat (first | exact hb2 | exact hb1 | exact Kp.refl _ _ | refine Kp.alloc ?_ _ | refine Kp.drew ?_ | refine Kp.new ?_ (by omega) _ _))) | fail)
              (first | (go_at_call 33; ((with_reducible refine (c1 _).mono ?_); rintro e u1 ⟨rfl, hk1⟩; have hb1 : Nw w3 u1 := Kp.tr (by repeat (first | exact hb2 | exact hb1 | exact Kp.refl _ _ | refine Kp.alloc ?_ _ | refine Kp.drew ?_ | refine Kp.new ?_ (by omega) _ _)) hk1; have l1 := hb1.size; with_reducible (first | (have p1 := Blk.nw (Blk.drew (Blk.new_at _ 32 #[.int .i64 0, .int .i64 0] (n := w3.heap.size + 1) (by simp))) hk1; have p0 := Blk.nw (Blk.drew (Blk.alloc (Blk.new_at _ 32 #[.int .i64 0, .int .i64 0] (n := w3.heap.size) (by simp)) _)) hk1; have t1 := (p0).cell 0; have t2 := (p0).cell 1; have t3 := (p0).frozen 0; have t4 := (p0).frozen 1; have t5 := Nat.ne_of_lt p0.lt; have t6 := Ne.symm (Nat.ne_of_lt p0.lt); have t1 := (p1).cell 0; have t2 := (p1).cell 1; have t3 := (p1).frozen 0; have t4 := (p1).frozen 1; have t5 := Nat.ne_of_lt p1.lt; have t6 := Ne.symm (Nat.ne_of_lt p1.lt)) | (have p0 := Blk.nw (Blk.drew (Blk.new_at _ 32 #[.int .i64 0, .int .i64 0] (n := w3.heap.size) (by simp))) hk1; have t1 := (p0).cell 0; have t2 := (p0).cell 1; have t3 := (p0).frozen 0; have t4 := (p0).frozen 1; have t5 := Nat.ne_of_lt p0.lt; have t6 := Ne.symm (Nat.ne_of_lt p0.lt)) | skip))) | (go_at_call 33; ((with_reducible refine (c2 _).mono ?_); rintro e u2 ⟨rfl, hk2⟩; have hb2 : Nw w3 u2 := Kp.tr (by repeat (first | exact hb2 | exact hb1 | exact Kp.refl _ _ | refine Kp.alloc ?_ _ | refine Kp.drew ?_ | refine Kp.new ?_ (by omega) _ _)) hk2; have l2 := hb2.size; with_reducible (first | (have t := p1; have rr1 := Blk.nw p1 hk2; have rr0 := Blk.nw p0 hk2; have t1 := (rr0).cell 0; have t2 := (rr0).cell 1; have t3 := (rr0).frozen 0; have t4 := (rr0).frozen 1; have t5 := Nat.ne_of_lt rr0.lt; have t6 := Ne.symm (Nat.ne_of_lt rr0.lt); have t1 := (rr1).cell 0; have t2 := (rr1).cell 1; have t3 := (rr1).frozen 0; have t4 := (rr1).frozen 1; have t5 := Nat.ne_of_lt rr1.lt; have t6 := Ne.symm (Nat.ne_of_lt rr1.lt)) | (have t := p0; have rr0 := Blk.nw (Blk.alloc p0 _) hk2; have o0 := Blk.nw (Blk.new_at _ 32 #[.int .i64 0, .int .i64 0] (n := u1.heap.size) (by simp)) hk2; have t1 := (rr0).cell 0; have t2 := (rr0).cell 1; have t3 := (rr0).frozen 0; have t4 := (rr0).frozen 1; have t5 := Nat.ne_of_lt rr0.lt; have t6 := Ne.symm (Nat.ne_of_lt rr0.lt); have t1 := (o0).cell 0; have t2 := (o0).cell 1; have t3 := (o0).frozen 0; have t4 := (o0).frozen 1; have t5 := Nat.ne_of_lt o0.lt; have t6 := Ne.symm (Nat.ne_of_lt o0.lt)) | (have t := p0; have rr0 := Blk.nw p0 hk2; have t1 := (rr0).cell 0; have t2 := (rr0).cell 1; have t3 := (rr0).frozen 0; have t4 := (rr0).frozen 1; have t5 := Nat.ne_of_lt rr0.lt; have t6 := Ne.symm (Nat.ne_of_lt rr0.lt); have t1 := (rr0.alloc (.cells #[.int .i64 0, .int .i64 0] 32)).cell 0; have t2 := (rr0.alloc (.cells #[.int .i64 0, .int .i64 0] 32)).cell 1; have t3 := (rr0.alloc (.cells #[.int .i64 0, .int .i64 0] 32)).frozen 0; have t4 := (rr0.alloc (.cells #[.int .i64 0, .int .i64 0] 32)).frozen 1; have t1 := (rr0.alloc (.cells #[.int .i64 x1, .int .i64 y1] 32)).cell 0; have t2 := (rr0.alloc (.cells #[.int .i64 x1, .int .i64 y1] 32)).cell 1; have t3 := (rr0.alloc (.cells #[.int .i64 x1, .int .i64 y1] 32)).frozen 0; have t4 := (rr0.alloc (.cells #[.int .i64 x1, .int .i64 y1] 32)).frozen 1) | (have o1 := Blk.nw (Blk.new_at _ 32 #[.int .i64 0, .int .i64 0] (n := u1.heap.size + 1) (by simp)) hk2; have o0 := Blk.nw (Blk.alloc (Blk.new_at _ 32 #[.int .i64 0, .int .i64 0] (n := u1.heap.size) (by simp)) _) hk2; have t1 := (o0).cell 0; have t2 := (o0).cell 1; have t3 := (o0).frozen 0; have t4 := (o0).frozen 1; have t5 := Nat.ne_of_lt o0.lt; have t6 := Ne.symm (Nat.ne_of_lt o0.lt); have t1 := (o1).cell 0; have t2 := (o1).cell 1; have t3 := (o1).frozen 0; have t4 := (o1).frozen 1; have t5 := Nat.ne_of_lt o1.lt; have t6 := Ne.symm (Nat.ne_of_lt o1.lt)) | (have o0 := Blk.nw (Blk.new_at _ 32 #[.int .i64 0, .int .i64 0] (n := u1.heap.size) (by simp)) hk2; have t1 := (o0).cell 0; have t2 := (o0).cell 1; have t3 := (o0).frozen 0; have t4 := (o0).frozen 1; have t5 := Nat.ne_of_lt o0.lt; have t6 := Ne.symm (Nat.ne_of_lt o0.lt); have t1 := (o0.alloc (.cells #[.int .i64 0, .int .i64 0] 32)).cell 0; have t2 := (o0.alloc (.cells #[.int .i64 0, .int .i64 0] 32)).cell 1; have t3 := (o0.alloc (.cells #[.int .i64 0, .int .i64 0] 32)).frozen 0; have t4 := (o0.alloc (.cells #[.int .i64 0, .int .i64 0] 32)).frozen 1; have t1 := (o0.alloc (.cells #[.int .i64 x1, .int .i64 y1] 32)).cell 0; have t2 := (o0.alloc (.cells #[.int .i64 x1, .int .i64 y1] 32)).cell 1; have t3 := (o0.alloc (.cells #[.int .i64 x1, .int .i64 y1] 32)).frozen 0; have t4 := (o0.alloc (.cells #[.int .i64 x1, .int .i64 y1] 32)).frozen 1) | skip))))
            all_goals (go_wp2_with fail; go_meet; case rel => (first | with_reducible exact two1 hb2 | with_reducible exact two2 hb2 | with_reducible exact two3 hb2 rr0 (by omega) | with_reducible exact two3 hb2 rr1 (by omega) | with_reducible exact two3 hb2 o0 (by omega) | with_reducible exact two3 hb2 o1 (by omega) | with_reducible exact two5 hb2 rr0 (by omega) | with_reducible exact two5 hb2 rr1 (by omega) | with_reducible exact two5 hb2 o0 (by omega) | with_reducible exact two5 hb2 o1 (by omega) | with_reducible exact two4 hb2 rr0 rr1 (by omega) (by omega) (by omega) | with_reducible exact two4 hb2 rr0 o0 (by omega) (by omega) (by omega) | with_reducible exact two4 hb2 rr0 o1 (by omega) (by omega) (by omega) | with_reducible exact two4 hb2 rr1 rr0 (by omega) (by omega) (by omega) | with_reducible exact two4 hb2 rr1 o0 (by omega) (by omega) (by omega) | with_reducible exact two4 hb2 rr1 o1 (by omega) (by omega) (by omega) | with_reducible exact two4 hb2 o0 rr0 (by omega) (by omega) (by omega) | with_reducible exact two4 hb2 o0 rr1 (by omega) (by omega) (by omega) | with_reducible exact two4 hb2 o0 o1 (by omega) (by omega) (by omega) | with_reducible exact two4 hb2 o1 rr0 (by omega) (by omega) (by omega) | with_reducible exact two4 hb2 o1 rr1 (by omega) (by omega) (by omega) | with_reducible exact two4 hb2 o1 o0 (by omega) (by omega) (by omega)))
          case rest =>
            obtain ⟨w4, hw4⟩ : ∃ w4, w4 = wc := ⟨_, rfl⟩
            subst hw4
            obtain ⟨G8, G9, rfl, rfl, b8, b9, hk4⟩ := hcut
            have H8 := Lib.hid b8
            have H9 := Lib.hid b9
            have HK4 := Lib.hid (HKT.out.tr hk4)
            clear b8 b9 hk4 c1 c2
            have q0 := fun p : KeptW w4 => (H8.out.kept p).cell 0
            have q1 := fun p : KeptW w4 => (H8.out.kept p).cell 1
            have q2 := fun p : KeptW w4 => (H9.out.kept p).cell 0
            have q3 := fun p : KeptW w4 => (H9.out.kept p).cell 1
            go_upto_region 10 with fail
            cases b3 <;> cases b4 <;> cases b5
            all_goals (
              refine wp_region_kept (Kp.refl _ _) (by assumption) (by kernel_rfl) ?_
              repeat (with_reducible refine wpQuiet_step (fun K hK => ?_); go_simp; first | ((with_reducible refine hK _ ?_); clear hK K) | (with_reducible apply Exists.intro; (with_reducible refine ⟨fun _ => ?_, hK _ ?_⟩); ((first | (go_at_call 32; with_reducible exact Calls.kept_of (c3 _)) | (go_at_call 32; with_reducible exact Calls.kept_of (c4 _)) | fail)); clear hK K) | (simp only [undef, reduceCtorEq, if_false]; (with_reducible refine hK _ ?_); clear hK K))
              with_reducible refine wpQuiet_nil ?_
              rintro _ ⟨p, rfl⟩
              have HK5 := Lib.hid (HK4.out.tr p.since)
              generalize p.wd = w5 at HK5 ⊢
              clear q0 q1 q2 q3
              have HBQ5 := Lib.hid (HBQ.out.kp HK5.out id)
              obtain ⟨⟨y0, y1⟩, ⟨y2, y3⟩, ⟨y4, y5⟩⟩ := HC.out w5 HK5.out
              obtain ⟨_, _, f0, f1⟩ := HBQ5.out.two
              have HKK := Lib.hid (HK.out.trans (Nw.kp HK5.out) (fun j hj e => e))
              have HNX := Lib.hid (show Blk w5 B5 32 #[.int .i64 ux, .int .i64 uy] ∧ Blk ((w5.setCell ⟨B5, 0, none⟩ (.int .i64 ax)).setCell ⟨B5, 1, none⟩ (.int .i64 ay)) B5 32 #[.int .i64 ax, .int .i64 ay] ∧ Kp (fun j => j = B5) W0 ((w5.setCell ⟨B5, 0, none⟩ (.int .i64 ax)).setCell ⟨B5, 1, none⟩ (.int .i64 ay)) from ⟨HBQ5.out, HBQ5.out.lay2 _ _, HKK.out.trans (kp_two w5 B5 _ _) (fun j hj e => e)⟩)
              go_wp2_with fail
              first
                | (refine ⟨⟨_, ⟨k + 1, by rw [← H4.out], by omega, by rw [HST.out]; first | exact HNX.out.1 | exact HNX.out.2.1, by first | exact HKK.out | exact HNX.out.2.2⟩, rfl, rfl, rfl⟩, ?_⟩
                   (have := H4.out; simp [intOf]; try omega))
                | (go_roundw
                   case rel => exact ⟨k + 1, by rw [← H4.out], by omega, by rw [HST.out]; first | exact HNX.out.1 | exact HNX.out.2.1, by first | exact HKK.out | exact HNX.out.2.2⟩
                   case measure => (have := H4.out; simp [intOf]; try omega)))
        · go_wp2_with fail
          go_roundw
          case rel =>
            refine ⟨k + 1, by rw [← H4.out], by omega, ?_, ?_⟩
            · rw [hst]
              unfold nextStep
              rw [if_neg (fun e => by have := H1.out.1 e; cases this), if_pos (H2.out.2 rfl)]
              exact HBQ2.out.lay2 _ _
            · exact HK2.out.trans (kp_two w2 B5 _ _) (fun j hj e => e)
          case measure => (have := H4.out; simp [intOf]; try omega)
      · go_wp2_with fail
        go_roundw
        case rel =>
          refine ⟨k + 1, by rw [← H4.out], by omega, ?_, HK2.out⟩
          rw [hst]
          unfold nextStep
          rw [if_pos (H1.out.2 rfl)]
          exact HBQ2.out
        case measure => (have := H4.out; simp [intOf]; try omega)
    · obtain rfl : k = n := by omega
      have i5 : ¬ ((k : Int) < (k : Int)) := by omega
      have hr := HRR.out
      rw [HU.out] at hr
      have hB4 := HB4.out.kp HK.out (fun e => by have e2 : B4 = B5 := e; have := HBB.out; omega)
      obtain ⟨z0, z1, fz0, fz1⟩ := HBQ.out.two
      obtain ⟨y0, y1, gz0, gz1⟩ := hB4.two
      have HB4K := Lib.hid hB4
      clear hB4
      go_wp2_with fail
      have hl2 := HB4K.out.lay2 (.int .i64 ux) (.int .i64 uy)
      have x0 := hl2.cell 0
      have x1 := hl2.cell 1
      have hrr : ux = rx ∧ uy = ry := by injection hr with e1 e2; exact ⟨e1, e2⟩
      exact bodyPost_ret (v := vV ux uy) (by simp [results, Try.results41, go_sem, x0, x1]) rfl ⟨by rw [hrr.1, hrr.2], HWK.out.new2 (by have := HBB.out; omega) _ _⟩

end Go.Proofs.Ythbgapcplgigoaa.W
