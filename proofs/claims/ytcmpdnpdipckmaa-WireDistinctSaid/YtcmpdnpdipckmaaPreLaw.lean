/-
  fretsawlaw01.WirePrefix, the walk: for every integer, text and shape the call returns true and writes nothing that was there. Conditions: the argument's memory is below the heap's end; its lists are shorter than 2^63.
-/
import Derived.Test.YtcmpdnpdipckmaaPre
import Derived.Test.YtcmpdnpdipckmaaSameL
import Derived.Deep.RegionHeld3
namespace Go.Proofs.Ytcmpdnpdipckmaa.W
open Go.RowKit Go.Proofs.Ytcmpdnpdipckmaa.Pl

theorem emptyVecs (A : Option Addr) (c : Nat) (w : World) : Calls Try.prog 30 #[.slice A 0 c, .slice none 0 0] w fun e w' => e = .returned (.bool true) ∧ w = w' := by
  go_enter Try.func30, Try.ntmps30
  go_wp2
  refine wp_loop_rounds 1 ?_
  rw [rounds_succ]
  go_wp2
  go_ret
  exact ⟨rfl, rfl⟩
theorem emptyRings (A : Option Addr) (c : Nat) (w : World) : Calls Try.prog 74 #[.slice A 0 c, .slice none 0 0] w fun e w' => e = .returned (.bool true) ∧ w = w' := by
  go_enter Try.func74, Try.ntmps74
  go_wp2
  refine wp_loop_rounds 1 ?_
  rw [rounds_succ]
  go_wp2
  go_ret
  exact ⟨rfl, rfl⟩
set_option maxRecDepth 100000 in
set_option maxHeartbeats 400000 in
theorem emptyShapes (A A' : Option Addr) (c c' : Nat) (w : World) : Calls Try.prog 37 #[.agg #[.slice A 0 c, .slice A' 0 c'], .agg #[.slice none 0 0, .slice none 0 0]] w fun e w' => e = .returned (.bool true) ∧ Below w.heap.size w w' := by
  go_enter Try.func37, Try.ntmps37
  go_wp2_with (first | (go_at_call 30; refine (emptyVecs _ _ _).mono ?_; rintro e w' ⟨rfl, rfl⟩) | (go_at_call 74; refine (emptyRings _ _ _).mono ?_; rintro e w' ⟨rfl, rfl⟩))
  go_ret
  exact ⟨rfl, by repeat (first | exact Below.refl _ _ | apply Below.drew | refine Below.alloc ?_ (by simp) _)⟩

theorem SrcR.below {w w' : World} {v : Value} {rs : List (List (Int × Int))} (h : SrcR w v rs) (hb : Below w.heap.size w w') : SrcR w' v rs := by
  obtain ⟨vals, h1, h2⟩ := h
  exact ⟨vals, Src.below h1 hb, fun i u r hu hr => Src.below (h2 i u r hu hr) hb⟩
/-- the struct's cells are there in a later world -/
theorem two_keep {w w' : World} {x y : Value} {T : Nat} (hb : Below (w.alloc (.cells #[x, y] T)).heap.size (w.alloc (.cells #[x, y] T)) w') :
    w'.cell? ⟨w.heap.size, 0, none⟩ = some x ∧ w'.cell? ⟨w.heap.size, 1, none⟩ = some y := by
  have c1 := hb.cell (p := ⟨w.heap.size, 0, none⟩) (by simp)
  have c2 := hb.cell (p := ⟨w.heap.size, 1, none⟩) (by simp)
  simp at c1 c2
  exact ⟨c1, c2⟩

theorem srcV_below {w w' : World} {v : Value} {r : List (Int × Int)} (h : SrcV w v r) (hb : Below w.heap.size w w') : SrcV w' v r := Src.below h hb
theorem dec_fails {α : Type} {T : Nat} {Rv : World → Value → α → Prop} {z : α} {s : Step α} {w : World} {R g : Nat} {l : List Int} {e : Ending} {w' : World} (h : Dec T Rv (rd z s) w R g l false e w') (hf : (s l false).2.2 = true) :
    ∃ v, e = .returned v ∧ Rv w' v z ∧ Rec w' T R g l true ∧ w.grownBy w' (some R) := by
  unfold Dec at h
  rw [rd_bad hf] at h
  exact h
/-- a row that is not empty: where it lies, and what it reads as -/
theorem own_form {w : World} {B : Nat} {v : Value} {l : List Int} (h : OwnB w B v l) (hB : B ≤ w.heap.size) (hl : 0 < l.length) : ∃ g o c, v = .slice (some ⟨g, o, none⟩) l.length c ∧ l.length ≤ c ∧ c ≤ maxLen ∧ Src w 1 (.slice (some ⟨g, o, none⟩) l.length c) l.length (bytes l) := by
  have hs := h.src
  obtain ⟨A1, c1, g, rfl, hg, hrest, hlt⟩ := h.rest_ hB
  obtain ⟨A, c, hv, h1, h2, h3⟩ := hrest
  simp only [Value.slice.injEq] at hv
  obtain ⟨rfl, _, rfl⟩ := hv
  obtain ⟨o, rfl, _⟩ := h3 (by intro e; rw [e] at hl; simp at hl)
  exact ⟨g, o, _, rfl, h1, h2, hs⟩
theorem keepH {w w' : World} {B : Nat} {a : Addr} {v : Value} (hb : Below B w w') (ha : a.block < B) (hc : w.cell? a = some v) : w'.cell? a = some v := (hb.cell ha).trans hc

set_option maxRecDepth 200000 in
set_option maxHeartbeats 4000000 in
theorem pre_walk (x : Int) (t : ByteArray) (o h : Value) (s : Shp) (w : World) (hI : I64 x) (ht : t.size ≤ 9223372036854775807) (ho : SrcV w o s.1) (hh : SrcR w h s.2) (hl1 : s.1.length ≤ 9223372036854775807) (hl2 : s.2.length ≤ 9223372036854775807) (hl3 : ∀ r ∈ s.2, r.length ≤ 9223372036854775807)
    (hI1 : ∀ p ∈ s.1, VI64 p) (hI2 : ∀ r ∈ s.2, ∀ p ∈ r, VI64 p) :
    Calls Try.prog 6 #[.int .i64 x, .string t, .agg #[o, h]] w fun e w' => e = .returned (.bool true) ∧ Below w.heap.size w w' := by
  have O0 : Below w.heap.size w (w.alloc (.cells #[o, h] 60)) := (Below.refl _ _).alloc (Nat.le_refl _) _
  obtain ⟨Ao, co, rfl⟩ := ho.shape
  obtain ⟨vals, hhs, hel⟩ := id hh
  obtain ⟨Ah, ch, rfl⟩ := hhs.shape
  clear hhs hel
  have HO := Lib.hid ho
  have HH := Lib.hid hh
  have HL1 := Lib.hid hl1
  have HL2 := Lib.hid hl2
  have HL3 := Lib.hid hl3
  clear ho hh hl2 hl3
  by_cases hbig : 200 < t.size
  · have hd1 : decide (200 < (t.size : Int)) = true := decide_eq_true (by omega)
    go_enter Try.func6, Try.ntmps6
    go_wp2_with (go_at_call 9; go_must (refine (awake_any _).mono ?_); rintro e w1 ⟨rfl, hb1⟩)
    go_ret
    exact ⟨rfl, O0.trans (hb1.mono O0.size)⟩
  · have hd1 : decide (200 < (t.size : Int)) = false := decide_eq_false (by omega)
    go_enter Try.func6, Try.ntmps6
    go_wp2_with fail
    refine (awake_any _).mono ?_
    rintro e w1 ⟨rfl, hb1⟩
    obtain ⟨c0, c1⟩ := two_keep hb1
    have B1 := O0.trans (hb1.mono O0.size)
    have L1 : w.heap.size < w1.heap.size := by have := hb1.size; simp at this; omega
    clear hb1
    go_wp2_with fail
    refine (fewV_any _ _ s _ (Src.below HO.out B1) (HH.out.below B1) HL1.out HL2.out HL3.out).mono ?_
    rintro e w2 ⟨rfl, hb2⟩
    have B2 := B1.trans (hb2.mono B1.size)
    have L2 : w.heap.size < w2.heap.size := Nat.lt_of_lt_of_le L1 hb2.size
    replace c0 := (hb2.cell (p := ⟨w.heap.size, 0, none⟩) L1).trans c0
    replace c1 := (hb2.cell (p := ⟨w.heap.size, 1, none⟩) L1).trans c1
    clear hb2 B1 L1 O0
    cases hf : fewV s with
    | false =>
      clear hf
      go_wp2
      go_ret
      exact ⟨rfl, B2⟩
    | true =>
      have HF := Lib.hid (fewV_outer hf)
      clear hf
      by_cases h20 : 20 < s.1.length
      · have hd2 : decide (20 < (s.1.length : Int)) = true := decide_eq_true (by omega)
        go_wp2
        go_ret
        exact ⟨rfl, B2⟩
      · have hd2 : decide (20 < (s.1.length : Int)) = false := decide_eq_false (by omega)
        have HT := Lib.hid (show ([] : List Int).length + t.size ≤ 140737488354000 by simp; omega)
        have HS1 := Lib.hid (show s.1.length ≤ 1000 by omega)
        have HS2 := Lib.hid (show s.2.length ≤ 1000 by have := HF.out.2.1; omega)
        have HS3 := Lib.hid (show ∀ r ∈ s.2, r.length ≤ 1000 from fun r hr => by have := HF.out.2.2 r hr; omega)
        have HTX := Lib.hid (show (strL t).length ≤ 200 by rw [strL_length]; omega)
        have D2 : Below w2.heap.size w2 w2.drew := (Below.refl _ _).drew
        go_wp2_with fail
        clear hbig ht hl1 h20 hd1 hd2
        go_region_held3 (fun w' : World => w'.cell? (⟨w.heap.size, 0, none⟩ : Addr) = some (Value.slice Ao s.1.length co) ∧ w'.cell? (⟨w.heap.size, 1, none⟩ : Addr) = some (Value.slice Ah s.2.length ch)) (first | go_keep | exact ⟨keepH bb3 L2 c0, keepH bb3 L2 c1⟩ | exact ⟨keepH bb4 L2 c0, keepH bb4 L2 c1⟩ | exact ⟨keepH bb5 L2 c0, keepH bb5 L2 c1⟩)
          (first
            | (go_at_call 19; ((with_reducible refine (int_any w2.heap.size (.slice none 0 0) [] x _ hI ?_ ?_ (OwnB.nil _ _)).mono ?_); simp; simp; rintro e w3 ⟨v1, rfl, own1, gr1⟩; have bb3 := D2.trans (gr1.below (Nat.le_refl _) nil_from)))
            | (go_at_call 21; ((with_reducible refine (text_any w3.heap.size (.slice none 0 0) [] t _ ?_ HT.out (OwnB.nil _ _)).mono ?_); exact Nat.le_refl _; rintro e w4 ⟨v2, rfl, own2, gr2⟩; have bb34 := gr2.below (Nat.le_refl _) nil_from; have bb4 := bb3.trans (bb34.mono bb3.size)))
            | (go_at_call 34; ((with_reducible refine (shape_any w4 _ _ s HS1.out HS2.out HS3.out hI1 hI2 (srcV_below HO.out (B2.trans (bb4.mono B2.size))) (HH.out.below (B2.trans (bb4.mono B2.size)))).mono ?_); rintro e w5 ⟨v3, rfl, own3, bb45⟩; have bb5 := bb4.trans (bb45.mono bb4.size))))
        have B5 := B2.trans (bb5.mono B2.size)
        rw [List.nil_append] at own1 own2
        have sa := own_form own1 (by have := gr1.size; simpa using this) (enc_pos x)
        have sb := own_form own2 gr2.size (encT_pos _)
        have sc := own_form own3 bb45.size (encS_pos s)
        have PA := Lib.hid (show ∀ k, k < (enc x).length → (sInt ((enc x).take k) false).2.2 = true from fun k hk => pre_int hI hk)
        have PB := Lib.hid (show ∀ k, k < (encT (strL t)).length → (sBytes 200 ((encT (strL t)).take k) false).2.2 = true from fun k hk => pre_text HTX.out (strL_by t) hk)
        have PC := Lib.hid (show ∀ k, k < (encS s).length → (sShape ((encS s).take k) false).2.2 = true from fun k hk => pre_shape ⟨⟨hI1, HS1.out⟩, fun r hr => ⟨hI2 r hr, HS3.out r hr⟩, HS2.out⟩ hk)
        have NA : (enc x).length ≤ 140737488355328 := by have := enc_length_le x; omega
        have NB : (encT (strL t)).length ≤ 140737488355328 := by have := encT_len t; have := HT.out; simp at this; omega
        have NC : (encS s).length ≤ 140737488355328 := by
          unfold encS encL
          rw [List.length_append, List.length_append]
          have h1 := encR_len s.1 HS1.out
          have h2 := flatR_len s.2 HS3.out
          have h3 := enc_length_le (s.2.length : Int)
          have := HS2.out
          omega
        have YA := enc_by x
        have YB := encT_by (strL_by t)
        have YC := encS_by s
        have ZA := enc_pos x
        have ZB := encT_pos (strL t)
        have ZC := encS_pos s
        obtain ⟨ga, oa, ca, rfl, la1, la2, sa⟩ := sa
        obtain ⟨gb, ob, cb, rfl, lb1, lb2, sb⟩ := sb
        obtain ⟨gc, oc, cc, rfl, lc1, lc2, sc⟩ := sc
        replace sa := Src.below sa (bb34.trans (bb45.mono bb34.size))
        replace sb := Src.below sb bb45
        clear own1 own2 own3 gr1 gr2 bb3 bb34 bb4 bb45 bb5 D2 c0 c1 L2 B2 HO HH HL1 HL2 HL3 HF HT HS1 HS2 HS3 HTX hI hI1 hI2
        have SA := Lib.hid sa
        have SB := Lib.hid sb
        have SC := Lib.hid sc
        clear sa sb sc
        generalize enc x = la at SA PA NA YA ZA la1 ⊢
        generalize encT (strL t) = lb at SB PB NB YB ZB lb1 ⊢
        generalize encS s = lc at SC PC NC YC ZC lc1 ⊢
        unfold maxLen at la2 lb2 lc2
        go_wp2_with fail
        go_loopw [10] (fun i wr => ∃ k : Nat, k ≤ la.length ∧ i = .int .i64 k ∧ Below w5.heap.size w5 wr) (fun i _ => la.length - (intOf i).toNat)
        case atStart => exact ⟨0, by omega, rfl, Below.refl _ _⟩
        case round =>
          obtain ⟨k, hk, rfl, BL1⟩ := hrel
          by_cases hlt : k < la.length
          · have hlk : (la.take k).length = k := by rw [List.length_take]; omega
            have hs := src_take (Src.below SA.out BL1) k hk
            have hend : endOf (la.take k) true = 4 := by simp [endOf]
            go_wp2_with fail
            refine (new_any _ (la.take k) _ hs (by omega)).mono ?_
            rintro e wn ⟨R, g, rfl, hR, hg, hrec, hbn⟩
            have BN := BL1.trans (hbn.mono BL1.size)
            have hR5 := Nat.le_trans BL1.size hR
            clear hbn hs
            go_wp2_with fail
            refine (rInt_any R g (la.take k) false _ hrec (YA.take k)).mono ?_
            intro e wi hd
            obtain ⟨v, rfl, hv, rec2, gr⟩ := dec_fails hd (PA.out k hlt)
            obtain rfl : v = .int .i64 0 := hv
            have BI := BN.grown gr BN.size (by intro j hj; injection hj with hj; omega)
            clear hd gr hrec
            go_wp2_with fail
            refine (end_any R g _ true _ rec2).mono ?_
            rintro e we ⟨rfl, rfl⟩
            rw [hend]
            go_wp2
            go_roundw
            case rel => exact ⟨k + 1, by omega, by go_num, BI⟩
            case measure => simp [intOf]; omega
          · obtain rfl : k = la.length := by omega
            go_wp2_with fail
            go_loopw [12] (fun i wr => ∃ k : Nat, k ≤ lb.length ∧ i = .int .i64 k ∧ Below w5.heap.size w5 wr) (fun i _ => lb.length - (intOf i).toNat)
            case atStart => exact ⟨0, by omega, rfl, BL1⟩
            case round =>
              obtain ⟨k, hk, rfl, BL2⟩ := hrel
              by_cases hlt : k < lb.length
              · have hlk : (lb.take k).length = k := by rw [List.length_take]; omega
                have hs := src_take (Src.below SB.out BL2) k hk
                have hend : endOf (lb.take k) true = 4 := by simp [endOf]
                go_wp2_with fail
                refine (new_any _ (lb.take k) _ hs (by omega)).mono ?_
                rintro e wn ⟨R, g, rfl, hR, hg, hrec, hbn⟩
                have BN := BL2.trans (hbn.mono BL2.size)
                have hR5 := Nat.le_trans BL2.size hR
                clear hbn hs
                go_wp2_with fail
                refine (rText_any R g 200 (lb.take k) false _ hrec (YB.take k)).mono ?_
                intro e wi hd
                obtain ⟨v, rfl, hv, rec2, gr⟩ := dec_fails hd (PB.out k hlt)
                obtain rfl : v = .string ⟨#[]⟩ := hv
                have BI := BN.grown gr BN.size (by intro j hj; injection hj with hj; omega)
                clear hd gr hrec
                go_wp2_with fail
                refine (end_any R g _ true _ rec2).mono ?_
                rintro e we ⟨rfl, rfl⟩
                rw [hend]
                go_wp2
                go_roundw
                case rel => exact ⟨k + 1, by omega, by go_num, BI⟩
                case measure => simp [intOf]; omega
              · obtain rfl : k = lb.length := by omega
                go_wp2_with fail
                go_loopw [14] (fun i wr => ∃ k : Nat, k ≤ lc.length ∧ i = .int .i64 k ∧ Below w5.heap.size w5 wr) (fun i _ => lc.length - (intOf i).toNat)
                case atStart => exact ⟨0, by omega, rfl, BL2⟩
                case round =>
                  obtain ⟨k, hk, rfl, BL3⟩ := hrel
                  by_cases hlt : k < lc.length
                  · have hlk : (lc.take k).length = k := by rw [List.length_take]; omega
                    have hs := src_take (Src.below SC.out BL3) k hk
                    have hend : endOf (lc.take k) true = 4 := by simp [endOf]
                    by_cases h100 : ¬ k < 100
                    · go_wp2
                      go_ret
                      exact ⟨rfl, B5.trans (BL3.mono B5.size)⟩
                    go_wp2_with fail
                    refine (new_any _ (lc.take k) _ hs (by omega)).mono ?_
                    rintro e wn ⟨R, g, rfl, hR, hg, hrec, hbn⟩
                    have BN := BL3.trans (hbn.mono BL3.size)
                    have hR5 := Nat.le_trans BL3.size hR
                    clear hbn hs
                    go_wp2_with fail
                    refine (rShape_any R g (lc.take k) false _ hrec (YC.take k) (by omega)).mono ?_
                    intro e wi hd
                    obtain ⟨v, rfl, hv, rec2, gr⟩ := dec_fails hd (PC.out k hlt)
                    obtain ⟨ov, hvv, rfl, so, sh⟩ := hv
                    obtain ⟨Ae, ce, rfl⟩ := (own_src so).shape
                    obtain ⟨Af, cf, rfl⟩ := OwnR.shape sh
                    clear so sh
                    have BI := BN.grown gr BN.size (by intro j hj; injection hj with hj; omega)
                    clear hd gr hrec
                    go_wp2_with fail
                    refine (emptyShapes _ _ _ _ _).mono ?_
                    rintro e wx ⟨rfl, hbx⟩
                    replace rec2 := rec2.below hbx
                    replace BI := BI.trans (hbx.mono BI.size)
                    clear hbx
                    go_wp2_with fail
                    refine (end_any R g _ true _ rec2).mono ?_
                    rintro e we ⟨rfl, rfl⟩
                    rw [hend]
                    go_wp2
                    go_roundw
                    case rel => exact ⟨k + 1, by omega, by go_num, BI⟩
                    case measure => simp [intOf]; omega
                  · obtain rfl : k = lc.length := by omega
                    go_wp2_with fail
                    go_ret
                    exact ⟨rfl, B5.trans (BL3.mono B5.size)⟩
end Go.Proofs.Ytcmpdnpdipckmaa.W
