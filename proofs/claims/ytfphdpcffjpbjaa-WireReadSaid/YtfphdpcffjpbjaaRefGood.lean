/-
  fretsawref01.(*Reader).Int: the call takes the step of the plain function. Conditions: what is read are bytes; the reader's block is known.
-/
import Derived.Test.YtfphdpcffjpbjaaRefInt
import Derived.Test.YtfphdpcffjpbjaaUAt
namespace Go.Proofs.Ytfphdpcffjpbjaa.W
open Go.RowKit Go.Proofs.Ytfphdpcffjpbjaa.Pl

theorem RefR.drewN {w : World} {R : Nat} {v : Value} {l : List Int} {k : Nat} {f : Bool} (h : RefR w R v l k f) (n : Nat) : RefR (w.drewN n) R v l k f := h
theorem RefR.at_ {w : World} {R : Nat} {v : Value} {l : List Int} {k k' : Nat} {f : Bool} (h : RefR w R v l k f) (hk : k' ≤ l.length) : RefR (w.setCell ⟨R, 1, none⟩ (.int .i64 k')) R v l k' f :=
  ⟨three_set1 h.1, Src.grown h.2.1 (grown_setCell w R 1 _) h.2.2.2.2, h.2.2.1, hk, h.2.2.2.2⟩
theorem grown_drewN {w w' : World} {n : Nat} {row : Option Nat} (h : (w.drewN n).grownBy w' row) : w.grownBy w' row := ⟨h.os, h.tape, h.output, h.size, h.block⟩

set_option maxRecDepth 100000 in
set_option maxHeartbeats 1600000 in
theorem refInt_good (R : Nat) (v : Value) (l : List Int) (k m : Nat) (w : World) (h : RefR w R v l k false) (hb : By l) (hks : l[k]? = some (m : Int)) (hm8 : m ≤ 8) (hmt : m ≤ (l.drop (k + 1)).length) :
    Calls Try.prog 41 #[.pointer (some ⟨R, 0, none⟩)] w (RDec IsInt (rd 0 sInt) w R v l k false) := by
  obtain ⟨x, hx⟩ : ∃ x, x = (l.drop (k + 1)).take m := ⟨_, rfl⟩
  have hxl : x.length = m := by rw [hx]; simp at hmt ⊢; omega
  have hxb : By x := by rw [hx]; exact (hb.drop _).take m
  have hi64 : I64 (val x) := val_i64 hxb (by omega)
  have hkl := (List.getElem?_eq_some_iff.1 hks).1
  have hdr := drop_at hks
  obtain ⟨h1, hs, hl, hk, hne⟩ := id h
  have hgood : sz (val x) = m → ∀ w', RefR w' R v l (k + (m + 1)) false → w.grownBy w' (some R) → RDec IsInt (rd 0 sInt) w R v l k false (.returned (.int .i64 (val x))) w' := fun hz w' hr hg => by
    have hs := sInt_good (s := (m : Int)) (t := l.drop (k + 1)) false (by omega) (by rw [Int.toNat_natCast, ← hx]; exact hz)
    rw [Int.toNat_natCast, ← hx, ← hdr] at hs
    unfold RDec
    rw [rd_good (by rw [hs]), hs]
    exact ⟨_, _, rfl, rfl, hr, by rw [List.drop_drop]; congr 1; omega, hg⟩
  have hbad : sz (val x) ≠ m → ∀ w', RefR w' R v l k true → w.grownBy w' (some R) → RDec IsInt (rd 0 sInt) w R v l k false (.returned (.int .i64 0)) w' := fun hz w' hr hg => by
    have hs := sInt_bad (s := (m : Int)) (t := l.drop (k + 1)) false (by omega) (by rw [Int.toNat_natCast, ← hx]; exact hz)
    rw [← hdr] at hs
    unfold RDec
    rw [rd_bad (by rw [hs])]
    exact ⟨_, _, rfl, rfl, hr, rfl, hg⟩
  obtain ⟨A, c, rfl⟩ := hs.shape
  obtain ⟨c0, c1, c2, d0, d1, d2⟩ := three_cell h1
  obtain ⟨g, o, cc, hv1, hcells⟩ := Src.form hs (by omega) (by omega)
  simp only [Value.slice.injEq] at hv1
  obtain ⟨rfl, _, rfl⟩ := hv1
  have hc := hcells k (.int .u8 m) (by unfold bytes; rw [List.getElem?_map, hks]; rfl)
  have hcx : ∀ j y, x[j]? = some y → w.cell? ⟨g, o + (k + (j + 1)), none⟩ = some (.int .u8 y) := fun j y hy => by
    refine hcells _ _ ?_
    have hjm : j < m := by rw [← hxl]; exact (List.getElem?_eq_some_iff.1 hy).1
    rw [hx, List.getElem?_take, if_pos hjm, List.getElem?_drop, show k + 1 + j = k + (j + 1) by omega] at hy
    unfold bytes
    rw [List.getElem?_map, hy]
    rfl
  have hge2 : decide (l.length ≤ k) = false := decide_eq_false (by omega)
  have hlen : k + m + 1 ≤ l.length := by simp at hmt; omega
  have hd8 : decide (8 < (m : Int)) = false := decide_eq_false (by omega)
  have hw1 : IntKind.i64.wrap ((l.length : Int) - k) = (l.length : Int) - k := IntWalk.i64_in _ (by omega)
  have hw2 : IntKind.i64.wrap ((l.length : Int) - k - 1) = (l.length : Int) - k - 1 := IntWalk.i64_in _ (by omega)
  have hw3 : IntKind.i64.wrap (m : Int) = m := IntWalk.i64_in _ (by omega)
  have hlt : decide ((l.length : Int) - k - 1 < m) = false := decide_eq_false (by omega)
  have HG := Lib.hid hgood
  have HF := Lib.hid hbad
  have HC := Lib.hid hcx
  have HX := Lib.hid hx
  have HXL := Lib.hid hxl
  clear hgood hbad hcx hx hxl h1 hs hcells hks hdr hmt
  by_cases hm0 : m = 0
  · have HM := Lib.hid hm0
    have hpos : decide (0 < (m : Int)) = false := decide_eq_false (by omega)
    have hpos2 : decide (0 < m) = false := decide_eq_false (by omega)
    clear hm0
    go_enter Try.func41, Try.ntmps41
    go_wp2
    go_quiet (fail)
    go_wp2
    go_quiet (fail)
    go_wp2
    go_quiet (fail)
    go_wp2
    go_loopw [4, 5] (fun u i wr => ∃ j : Nat, 1 ≤ j ∧ j ≤ m + 1 ∧ i = .int .i64 j ∧ u = .int .u64 (uAt (0) x (j - 1)) ∧ Later w wr) (fun _ i _ => m + 1 - (intOf i).toNat)
    case atStart => exact ⟨1, by omega, by omega, rfl, by rw [uAt_zero], later_drewN (later_drewN ⟨_, rfl⟩ _) _⟩
    case round =>
      obtain ⟨j, hj1, hjm, rfl, rfl, nq, rfl⟩ := hrel
      obtain ⟨hu1, hu2⟩ := uAt_range (0) x (j - 1)
      by_cases hlt2 : j ≤ m
      · obtain ⟨y, hy⟩ : ∃ y, x[j - 1]? = some y := ⟨x[j - 1]'(by rw [HXL.out]; omega), List.getElem?_eq_getElem _⟩
        have hyb := hxb y (List.mem_of_getElem? hy)
        have hcy := HC.out (j - 1) y hy
        rw [show j - 1 + 1 = j by omega] at hcy
        have HST := Lib.hid (uAt_step (e := 0) hy (by intro e0; exact absurd e0 (by have := HM.out; omega)))
        rw [show j - 1 + 1 = j + 1 - 1 by omega] at HST
        have hcmp : decide ((j : Int) ≤ (m : Int)) = true := decide_eq_true (by omega)
        have hwi : IntKind.i64.wrap ((k : Int) + (j : Int)) = (k : Int) + (j : Int) := IntWalk.i64_in _ (by omega)
        have hin : (k : Int) + (j : Int) < (l.length : Int) := by omega
        have hwy : IntKind.u64.wrap y = y := by rw [u64_wrap]; omega
        clear hy
        go_wp2
        go_quiet (fail)
        go_wp2
        go_roundw
        case rel => exact ⟨j + 1, by omega, by omega, by go_num, by rw [← HST.out], _, rfl⟩
        case measure => simp [intOf]; omega
      · obtain rfl : j = m + 1 := by omega
        have hcmp : decide (((m + 1 : Nat) : Int) ≤ (m : Int)) = false := decide_eq_false (by omega)
        have hwu := uAt_end (e := 0) (x := x) (j := m) (by rw [HXL.out]) (fun _ => rfl) hi64
        by_cases hz : sz (val x) = m
        · have hb1 : ((sz (val x) : Int) != (m : Int)) = false := by rw [hz]; simp
          have HZ := Lib.hid hz
          clear hz
          simp only [Nat.add_sub_cancel]
          go_wp2_with (go_at_call 79; (with_reducible refine (width_any (val x) _ hi64).mono ?_); rintro e w' ⟨rfl, rfl⟩)
          go_ret
          exact HG.out HZ.out _ ((h.drewN nq).at_ (by omega)) (grown_drewN (grown_setCell _ _ _ _))
        · have hb1 : ((sz (val x) : Int) != (m : Int)) = true := by rw [bne_iff_ne]; omega
          have HZ := Lib.hid hz
          clear hz
          simp only [Nat.add_sub_cancel]
          go_wp2_with (go_at_call 79; (with_reducible refine (width_any (val x) _ hi64).mono ?_); rintro e w' ⟨rfl, rfl⟩)
          go_ret
          exact HF.out HZ.out _ (h.drewN nq).failed (grown_drewN (grown_setCell _ _ _ _))
  · have hpos : decide (0 < (m : Int)) = true := decide_eq_true (by omega)
    have hpos2 : decide (0 < m) = true := decide_eq_true (by omega)
    obtain ⟨z, hz0⟩ : ∃ z, x[0]? = some z := ⟨x[0]'(by rw [HXL.out]; omega), List.getElem?_eq_getElem _⟩
    have hzb := hxb z (List.mem_of_getElem? hz0)
    have hcz := HC.out 0 z hz0
    rw [Nat.zero_add] at hcz
    have HZ0 := Lib.hid hz0
    have hw4 : IntKind.i64.wrap ((k : Int) + 1) = (k : Int) + 1 := IntWalk.i64_in _ (by omega)
    have hin1 : (k : Int) + 1 < (l.length : Int) := by omega
    have HM0 := Lib.hid hm0
    clear hz0 hm0
    by_cases hhi : 128 ≤ z
    · have hdz : decide (128 ≤ z) = true := decide_eq_true hhi
      have HS := Lib.hid (sgn_high hhi)
      go_enter Try.func41, Try.ntmps41
      go_wp2
      go_quiet (fail)
      go_wp2
      go_quiet (fail)
      go_wp2
      go_quiet (fail)
      go_wp2
      go_loopw [4, 5] (fun u i wr => ∃ j : Nat, 1 ≤ j ∧ j ≤ m + 1 ∧ i = .int .i64 j ∧ u = .int .u64 (uAt (-1) x (j - 1)) ∧ Later w wr) (fun _ i _ => m + 1 - (intOf i).toNat)
      case atStart => exact ⟨1, by omega, by omega, rfl, by rw [uAt_ones], later_drewN (later_drewN ⟨_, rfl⟩ _) _⟩
      case round =>
        obtain ⟨j, hj1, hjm, rfl, rfl, nq, rfl⟩ := hrel
        obtain ⟨hu1, hu2⟩ := uAt_range (-1) x (j - 1)
        by_cases hlt2 : j ≤ m
        · obtain ⟨y, hy⟩ : ∃ y, x[j - 1]? = some y := ⟨x[j - 1]'(by rw [HXL.out]; omega), List.getElem?_eq_getElem _⟩
          have hyb := hxb y (List.mem_of_getElem? hy)
          have hcy := HC.out (j - 1) y hy
          rw [show j - 1 + 1 = j by omega] at hcy
          have HST := Lib.hid (uAt_step (e := -1) hy (by intro e0; have hz1 := HZ0.out; rw [e0] at hy; rw [hz1] at hy; injection hy with hy; subst hy; exact HS.out))
          rw [show j - 1 + 1 = j + 1 - 1 by omega] at HST
          have hcmp : decide ((j : Int) ≤ (m : Int)) = true := decide_eq_true (by omega)
          have hwi : IntKind.i64.wrap ((k : Int) + (j : Int)) = (k : Int) + (j : Int) := IntWalk.i64_in _ (by omega)
          have hin : (k : Int) + (j : Int) < (l.length : Int) := by omega
          have hwy : IntKind.u64.wrap y = y := by rw [u64_wrap]; omega
          clear hy
          go_wp2
          go_quiet (fail)
          go_wp2
          go_roundw
          case rel => exact ⟨j + 1, by omega, by omega, by go_num, by rw [← HST.out], _, rfl⟩
          case measure => simp [intOf]; omega
        · obtain rfl : j = m + 1 := by omega
          have hcmp : decide (((m + 1 : Nat) : Int) ≤ (m : Int)) = false := decide_eq_false (by omega)
          have hwu := uAt_end (e := -1) (x := x) (j := m) (by rw [HXL.out]) (fun e0 => absurd e0 (by have := HM0.out; omega)) hi64
          by_cases hz : sz (val x) = m
          · have hb1 : ((sz (val x) : Int) != (m : Int)) = false := by rw [hz]; simp
            have HZ := Lib.hid hz
            clear hz
            simp only [Nat.add_sub_cancel]
            go_wp2_with (go_at_call 79; (with_reducible refine (width_any (val x) _ hi64).mono ?_); rintro e w' ⟨rfl, rfl⟩)
            go_ret
            exact HG.out HZ.out _ ((h.drewN nq).at_ (by omega)) (grown_drewN (grown_setCell _ _ _ _))
          · have hb1 : ((sz (val x) : Int) != (m : Int)) = true := by rw [bne_iff_ne]; omega
            have HZ := Lib.hid hz
            clear hz
            simp only [Nat.add_sub_cancel]
            go_wp2_with (go_at_call 79; (with_reducible refine (width_any (val x) _ hi64).mono ?_); rintro e w' ⟨rfl, rfl⟩)
            go_ret
            exact HF.out HZ.out _ (h.drewN nq).failed (grown_drewN (grown_setCell _ _ _ _))
    · have hdz : decide (128 ≤ z) = false := decide_eq_false hhi
      have HS := Lib.hid (sgn_low (y := z) (by omega))
      clear hhi
      go_enter Try.func41, Try.ntmps41
      go_wp2
      go_quiet (fail)
      go_wp2
      go_quiet (fail)
      go_wp2
      go_quiet (fail)
      go_wp2
      go_loopw [4, 5] (fun u i wr => ∃ j : Nat, 1 ≤ j ∧ j ≤ m + 1 ∧ i = .int .i64 j ∧ u = .int .u64 (uAt (0) x (j - 1)) ∧ Later w wr) (fun _ i _ => m + 1 - (intOf i).toNat)
      case atStart => exact ⟨1, by omega, by omega, rfl, by rw [uAt_zero], later_drewN (later_drewN ⟨_, rfl⟩ _) _⟩
      case round =>
        obtain ⟨j, hj1, hjm, rfl, rfl, nq, rfl⟩ := hrel
        obtain ⟨hu1, hu2⟩ := uAt_range (0) x (j - 1)
        by_cases hlt2 : j ≤ m
        · obtain ⟨y, hy⟩ : ∃ y, x[j - 1]? = some y := ⟨x[j - 1]'(by rw [HXL.out]; omega), List.getElem?_eq_getElem _⟩
          have hyb := hxb y (List.mem_of_getElem? hy)
          have hcy := HC.out (j - 1) y hy
          rw [show j - 1 + 1 = j by omega] at hcy
          have HST := Lib.hid (uAt_step (e := 0) hy (by intro e0; have hz1 := HZ0.out; rw [e0] at hy; rw [hz1] at hy; injection hy with hy; subst hy; exact HS.out))
          rw [show j - 1 + 1 = j + 1 - 1 by omega] at HST
          have hcmp : decide ((j : Int) ≤ (m : Int)) = true := decide_eq_true (by omega)
          have hwi : IntKind.i64.wrap ((k : Int) + (j : Int)) = (k : Int) + (j : Int) := IntWalk.i64_in _ (by omega)
          have hin : (k : Int) + (j : Int) < (l.length : Int) := by omega
          have hwy : IntKind.u64.wrap y = y := by rw [u64_wrap]; omega
          clear hy
          go_wp2
          go_quiet (fail)
          go_wp2
          go_roundw
          case rel => exact ⟨j + 1, by omega, by omega, by go_num, by rw [← HST.out], _, rfl⟩
          case measure => simp [intOf]; omega
        · obtain rfl : j = m + 1 := by omega
          have hcmp : decide (((m + 1 : Nat) : Int) ≤ (m : Int)) = false := decide_eq_false (by omega)
          have hwu := uAt_end (e := 0) (x := x) (j := m) (by rw [HXL.out]) (fun _ => rfl) hi64
          by_cases hz : sz (val x) = m
          · have hb1 : ((sz (val x) : Int) != (m : Int)) = false := by rw [hz]; simp
            have HZ := Lib.hid hz
            clear hz
            simp only [Nat.add_sub_cancel]
            go_wp2_with (go_at_call 79; (with_reducible refine (width_any (val x) _ hi64).mono ?_); rintro e w' ⟨rfl, rfl⟩)
            go_ret
            exact HG.out HZ.out _ ((h.drewN nq).at_ (by omega)) (grown_drewN (grown_setCell _ _ _ _))
          · have hb1 : ((sz (val x) : Int) != (m : Int)) = true := by rw [bne_iff_ne]; omega
            have HZ := Lib.hid hz
            clear hz
            simp only [Nat.add_sub_cancel]
            go_wp2_with (go_at_call 79; (with_reducible refine (width_any (val x) _ hi64).mono ?_); rintro e w' ⟨rfl, rfl⟩)
            go_ret
            exact HF.out HZ.out _ (h.drewN nq).failed (grown_drewN (grown_setCell _ _ _ _))

/-- for every reader -/
theorem refInt_any (R : Nat) (v : Value) (l : List Int) (k : Nat) (f : Bool) (w : World) (h : RefR w R v l k f) (hb : By l) :
    Calls Try.prog 41 #[.pointer (some ⟨R, 0, none⟩)] w (RDec IsInt (rd 0 sInt) w R v l k f) := by
  cases f with
  | true => exact refInt_failed R v l k w h
  | false =>
    rcases Nat.lt_or_ge k l.length with hk | hk
    · obtain ⟨s, hs⟩ : ∃ s, l[k]? = some s := ⟨l[k], List.getElem?_eq_getElem hk⟩
      by_cases hl : 8 < s ∨ (l.drop (k + 1)).length < s.toNat
      · exact refInt_long R v l k s w h hb hs hl
      · have hs0 := hb s (List.mem_of_getElem? hs)
        obtain ⟨m, rfl⟩ : ∃ m : Nat, s = m := ⟨s.toNat, by omega⟩
        exact refInt_good R v l k m w h hb hs (by omega) (by omega)
    · exact refInt_end R v l k w h (by have := h.2.2.2.1; omega)
end Go.Proofs.Ytfphdpcffjpbjaa.W
