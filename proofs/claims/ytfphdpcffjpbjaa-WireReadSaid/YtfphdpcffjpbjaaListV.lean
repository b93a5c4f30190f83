/-
  wire.list at vectors, (*wire.cursor).ring: at a cursor the calls read the number of elements, and as many vectors, into a new slice. Conditions: what is left are bytes, at most 2^40; the limit has 64 bits.
-/
import Derived.Test.YtfphdpcffjpbjaaVecC
namespace Go.Proofs.Ytfphdpcffjpbjaa.W
open Go.RowKit Go.Proofs.Ytfphdpcffjpbjaa.Pl

def IsVecs (B : Nat) (w : World) (v : Value) (l : List (Int × Int)) : Prop := OwnV w B v l

set_option maxRecDepth 100000 in
set_option maxHeartbeats 1000000 in
theorem listV_dec (C g : Nat) (max : Int) (l : List Int) (f : Bool) (w : World) (h : Rec w 107 C g l f) (hb : By l) (hl : l.length ≤ 1099511627776) (hmax : max ≤ 9223372036854775807) :
    Calls Try.prog 82 #[.pointer (some ⟨C, 0, none⟩), .int .i64 max, .func (.func 76) #[] #[]] w (Dec 107 (IsVecs w.heap.size) (sList max sVec) w C g l f) := by
  obtain ⟨n, l0, f0, hs⟩ : ∃ n l0 f0, sBounded 0 max l f = (n, l0, f0) := ⟨_, _, _, rfl⟩
  have hr := sBounded_range max l f
  have hl0 : l0.length ≤ 1099511627776 := by
    have h1 : l0.length ≤ l.length := by have := suf_le (suf_sBounded 0 max) l f; rw [hs] at this; exact this
    omega
  have hb0 : By l0 := by have := (suf_sBounded 0 max).by_ (f := f) hb; rw [hs] at this; exact this
  have hgl : l0 ≠ [] → g < w.heap.size := fun hn => by
    obtain ⟨_, _, hrr, _⟩ := id h
    refine hrr.lt_ ?_
    have := (suf_sBounded 0 max).ne (l := l) (f := f)
    rw [hs] at this
    exact this hn
  rw [hs] at hr
  obtain ⟨k0, rfl⟩ : ∃ k0 : Nat, n = k0 := ⟨n.toNat, by have := hr.1; omega⟩
  have hn1 : (k0 : Int) ≤ 9223372036854775807 := by rcases hr.2 with e | e <;> simp at e <;> omega
  have hd := Lib.hid (show sList max sVec l f = loopL sVec k0 [] l0 f0 by unfold sList; rw [hs]; rfl)
  have hC := h.lt
  have HS := Lib.hid hs
  have HG := Lib.hid hgl
  clear hs hr hgl
  go_enter Try.func82, Try.ntmps82
  go_wp2_with (go_at_call 60; go_must (refine (bounded_dec C g 0 max l f _ h hb).mono ?_); rintro e w1 ⟨v1, rfl, hv, hrec, hgr⟩; rw [HS.out] at hv hrec; (obtain rfl : v1 = .int .i64 k0 := hv))
  go_loopw [8, 9] (fun v i wr => ∃ (j : Nat) (acc : List (Int × Int)) (l1 : List Int) (f1 : Bool), j ≤ k0 ∧ i = .int .i64 j ∧ OwnV wr w.heap.size v acc ∧ Rec wr 107 C g l1 f1 ∧ w.grownBy wr (some C) ∧
      loopL sVec (k0 - j) acc l1 f1 = loopL sVec k0 [] l0 f0 ∧ acc.length + l1.length ≤ 1099511627777 ∧ (f1 = false → acc.length + l1.length ≤ 1099511627776) ∧ By l1 ∧ (l1 ≠ [] → g < w.heap.size)) (fun _ i _ => k0 - (intOf i).toNat)
  case atStart => exact ⟨0, [], l0, f0, by omega, rfl, OwnV.nil _ _, hrec, hgr, rfl, by simp; omega, fun _ => by simp; omega, hb0, HG.out⟩
  case round =>
    obtain ⟨j, acc, l1, f1, hj, rfl, hown, hrec1, hgr1, hloop, hb1, hb2, hby, hg1⟩ := hrel
    have HL := Lib.hid hloop
    have HG1 := Lib.hid hg1
    have HB2 := Lib.hid hb2
    have HO := Lib.hid hown
    clear hloop hg1 hb2 hrec hgr hown
    obtain ⟨rest1, q, hr1, _⟩ := id hrec1
    obtain ⟨q0, q1, q2, q3⟩ := two_cell q
    clear q hr1
    by_cases hlt : j < k0
    · cases f1 with
      | true =>
        have hfin := Lib.hid (show loopL sVec k0 [] l0 f0 = (acc, l1, true) by rw [← HL.out, loopL_failed])
        have hd1 : decide ((j : Int) < (k0 : Int)) = true := decide_eq_true (by omega)
        go_wp2
        go_ret
        exact ⟨_, rfl, by rw [hd.out, hfin.out]; exact HO.out, by rw [hd.out, hfin.out]; exact hrec1, hgr1⟩
      | false =>
        obtain ⟨x, l2, f2, hs2⟩ : ∃ x l2 f2, sVec l1 false = (x, l2, f2) := ⟨_, _, _, rfl⟩
        have hst := Lib.hid (show loopL sVec (k0 - (j + 1)) (acc ++ [x]) l2 f2 = loopL sVec k0 [] l0 f0 by
          rw [← HL.out, loopL_step sVec (by omega), hs2]
          rfl)
        have hle : l2.length ≤ l1.length := by have := suf_le suf_sVec l1 false; rw [hs2] at this; exact this
        have heat := Lib.hid (show f2 = false → l2.length < l1.length from fun e => by have := eats_sVec l1; rw [hs2] at this; exact this e)
        have hby2 : By l2 := by have := suf_sVec.by_ (f := false) hby; rw [hs2] at this; exact this
        have hne2 := Lib.hid (show l2 ≠ [] → l1 ≠ [] from fun e => by have := suf_sVec.ne (l := l1) (f := false); rw [hs2] at this; exact this e)
        have HS2 := Lib.hid hs2
        have hacc := HB2.out rfl
        clear hs2
        go_wp2_with (first
          | (go_at_call 76; go_must (refine (vec_dec C g l1 false _ hrec1 hby).mono ?_); rintro e w2 ⟨v2, rfl, hv, hrec2, hgr2⟩; rw [HS2.out] at hv hrec2; (obtain rfl : v2 = .agg #[.int .i64 x.1, .int .i64 x.2] := hv))
          | (at_builtin; refine wp_pushG rfl (.tmp 25) (.tmp 29) 41 46 2 16 (.agg #[.int .i64 0, .int .i64 0]) rfl Try.underlying41 info_vec rfl (by omega) w.heap.size acc.length _ (vecs acc) [.int .i64 x.1, .int .i64 x.2] rfl (own_row HO.out hgr2 hC) rfl ?_ rfl ?_ ?_ (Nat.le_trans hgr1.size hgr2.size) ?_; (intro u hu; simp at hu; rcases hu with rfl | rfl <;> rfl); omega; omega; intro v3 w3 own3 gr3))
        go_roundw
        case rel =>
          have ho3 := own_from (own_row HO.out hgr2 hC)
          refine ⟨j + 1, acc ++ [x], l2, f2, by omega, by go_num, ?_, hrec2.push gr3 ho3 hC (fun e => HG1.out (hne2.out e)), grown_push (hgr1.trans hgr2) gr3 ho3 (Nat.le_refl _), hst.out, ?_, ?_, hby2, fun e => HG1.out (hne2.out e)⟩
          · unfold OwnV
            rw [vecs_snoc, List.length_append]
            exact own3
          · simp; omega
          · intro e
            have := heat.out e
            simp
            omega
        case measure => simp [intOf]; omega
    · obtain rfl : j = k0 := by omega
      have hfin := Lib.hid (show loopL sVec j [] l0 f0 = (acc, l1, f1) by rw [← HL.out, Nat.sub_self]; rfl)
      have hd1 : decide ((j : Int) < (j : Int)) = false := decide_eq_false (by omega)
      go_wp2
      go_ret
      exact ⟨_, rfl, by rw [hd.out, hfin.out]; exact HO.out, by rw [hd.out, hfin.out]; exact hrec1, hgr1⟩

theorem ring_dec (C g : Nat) (max : Int) (l : List Int) (f : Bool) (w : World) (h : Rec w 107 C g l f) (hb : By l) (hl : l.length ≤ 1099511627776) (hmax : max ≤ 9223372036854775807) :
    Calls Try.prog 70 #[.pointer (some ⟨C, 0, none⟩), .int .i64 max] w (Dec 107 (IsVecs w.heap.size) (sList max sVec) w C g l f) := by
  go_enter Try.func70, Try.ntmps70
  go_wp2_with fail
  refine (listV_dec C g max l f _ h hb hl hmax).mono ?_
  rintro e w1 ⟨v1, rfl, hv, hrec, hgr⟩
  go_wp2
  go_ret
  exact ⟨_, rfl, hv, hrec, hgr⟩
end Go.Proofs.Ytfphdpcffjpbjaa.W
