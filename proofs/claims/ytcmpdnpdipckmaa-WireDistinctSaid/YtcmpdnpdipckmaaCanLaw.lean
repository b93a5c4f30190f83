/-
  fretsawlaw01.WireCanonical, the walk: for all bytes the call returns true and writes nothing that was there. Conditions: the argument's memory is below the heap's end; it is shorter than 2^47.
-/
import Derived.Test.YtcmpdnpdipckmaaCanon
import Derived.Test.YtcmpdnpdipckmaaInts
namespace Go.Proofs.Ytcmpdnpdipckmaa.W
open Go.RowKit Go.Proofs.Ytcmpdnpdipckmaa.Pl

theorem OwnR.src {w : World} {B : Nat} {v : Value} {rs : List (List (Int × Int))} (h : OwnR w B v rs) : SrcR w v rs := by
  obtain ⟨vals, h1, h2, h3⟩ := h
  exact ⟨vals, own_src h1, fun i u r hu hr => own_src (h3 i u r hu hr)⟩
theorem rec_other {w w' : World} {T R g X : Nat} {l : List Int} {f : Bool} (h : Rec w T R g l f) (hg : w.grownBy w' (some X)) (hX : X ≠ R) (hXg : l ≠ [] → X ≠ g) : Rec w' T R g l f :=
  h.keep (hg.block R h.lt (by intro e; injection e with e; exact hX e.symm)) (fun hl hlt => hg.block g hlt (by intro e; injection e with e; exact hXg hl e.symm))
theorem rec_g {w : World} {T R g : Nat} {l : List Int} {f : Bool} (h : Rec w T R g l f) (hl : l ≠ []) : g < w.heap.size := by
  obtain ⟨_, _, hr, _⟩ := h
  exact hr.lt_ hl
theorem rd_left {α : Type} {z : α} {s : Step α} (hs : Suf s) {l : List Int} {f : Bool} (h : (rd z s l f).2.1 ≠ []) : l ≠ [] := by
  unfold rd at h
  split at h
  · exact h
  · split at h
    · exact h
    · exact hs.ne h
theorem nil_sep (v : Value) : v.ownBlock = none ∨ v.ownBlock ≠ (Value.slice none 0 0).ownBlock := by cases v.ownBlock <;> simp [Value.ownBlock]
theorem nil_from {B : Nat} : ∀ k, (Value.slice none 0 0).ownBlock = some k → B ≤ k := by intro k hk; cases hk

set_option maxRecDepth 200000 in
set_option maxHeartbeats 4000000 in
theorem can_walk (vb : Value) (l : List Int) (w : World) (hby : By l) (hb : Src w 1 vb l.length (bytes l)) (h1 : l.length ≤ 140737488355328) :
    Calls Try.prog 5 #[vb] w fun e w' => e = .returned (.bool true) ∧ Below w.heap.size w w' := by
  obtain ⟨A, c, rfl⟩ := hb.shape
  obtain ⟨n, hn⟩ : ∃ n, n = l.length := ⟨_, rfl⟩
  have hn1 : n ≤ 140737488355328 := by omega
  rw [← hn]
  have HN := Lib.hid hn
  clear hn
  by_cases hbig : 900 < n
  · have hd1 : decide (900 < (n : Int)) = true := decide_eq_true (by omega)
    go_enter Try.func5, Try.ntmps5
    go_wp2_with (go_at_call 9; go_must (refine (awake_any _).mono ?_); rintro e w1 ⟨rfl, hb1⟩)
    go_ret
    exact ⟨rfl, hb1⟩
  · have hd1 : decide (900 < (n : Int)) = false := decide_eq_false (by omega)
    have hl900 : l.length ≤ 900 := by have := HN.out; omega
    go_enter Try.func5, Try.ntmps5
    go_wp2_with (go_at_call 9; go_must (refine (awake_any _).mono ?_); rintro e w0 ⟨rfl, B0⟩)
    rw [HN.out]
    refine (new_any _ l _ (Src.below hb B0) (by omega)).mono ?_
    rintro e w1 ⟨R1, g1, rfl, hR1, hg1, r1, hbn⟩
    have B1 := B0.trans (hbn.mono B0.size)
    have G1 : l ≠ [] → g1 < w1.heap.size := rec_g r1
    have L1 := r1.lt
    clear hbn
    go_wp2_with fail
    refine (new_any _ l _ (Src.below hb B1) (by omega)).mono ?_
    rintro e w2 ⟨R2, g2, rfl, hR2, hg2, r2, hbn⟩
    have B2 := B1.trans (hbn.mono B1.size)
    have G2 : l ≠ [] → g2 < w2.heap.size := rec_g r2
    have L2 := r2.lt
    have Z2 := hbn.size
    replace r1 := r1.below hbn
    clear hbn
    go_wp2_with fail
    refine (new_any _ l _ (Src.below hb B2) (by omega)).mono ?_
    rintro e w3 ⟨R3, g3, rfl, hR3, hg3, r3, hbn⟩
    have B3 := B2.trans (hbn.mono B2.size)
    have L3 := r3.lt
    have G3 : l ≠ [] → g3 < w3.heap.size := rec_g r3
    have Z3 := hbn.size
    replace r1 := r1.below hbn
    replace r2 := r2.below hbn
    clear hbn
    have hR1w : w.heap.size ≤ R1 := Nat.le_trans B0.size hR1
    go_wp2_with fail
    refine (rShape_any R1 g1 l false _ r1 hby (by omega)).mono ?_
    rintro e w4 ⟨vx, rfl, sx, q1, gr⟩
    have B4 := B3.grown gr B3.size (by intro k hk; injection hk with hk; omega)
    have s2 := rec_other r2 gr (by omega) (fun _ => by omega)
    have s3 := rec_other r3 gr (by omega) (fun _ => by omega)
    have Z4 := gr.size
    clear r1 r2 r3 gr
    obtain ⟨ov, hv, rfl, so, sh⟩ := sx
    obtain ⟨Ao, co, rfl⟩ := (own_src so).shape
    obtain ⟨Ah, ch, rfl⟩ := OwnR.shape sh
    have SO := Lib.hid so
    have SH := Lib.hid sh
    clear so sh
    go_wp2_with fail
    refine (rInts_any R2 g2 900 l false _ s2 hby (by omega) (by omega)).mono ?_
    rintro e w5 ⟨vi, rfl, iv, q2, gr⟩
    have B5 := B4.grown gr B4.size (by intro k hk; injection hk with hk; omega)
    have q1' := rec_other q1 gr (by omega) (fun hl => by have := G1 (rd_left suf_sShape hl); omega)
    have t3 := rec_other s3 gr (by omega) (fun _ => by omega)
    have SO5 := Lib.hid (own_row SO.out gr (by omega))
    have SH5 := Lib.hid (OwnR.row SH.out gr (by omega))
    have Z5 := gr.size
    clear q1 s2 s3 SO SH gr
    go_wp2_with fail
    refine (rText_any R3 g3 900 l false _ t3 hby).mono ?_
    rintro e w6 ⟨vt, rfl, tv, q3, gr⟩
    have B6 := B5.grown gr B5.size (by intro k hk; injection hk with hk; omega)
    have p1 := rec_other q1' gr (by omega) (fun hl => by have := G1 (rd_left suf_sShape hl); omega)
    have p2 := rec_other q2 gr (by omega) (fun hl => by have := G2 (rd_left (suf_sList 900 suf_sInt) hl); omega)
    have SO6 := Lib.hid (own_row SO5.out gr (by omega))
    have SH6 := Lib.hid (OwnR.row SH5.out gr (by omega))
    have I6 := Lib.hid (own_row iv gr (by omega))
    obtain ⟨Ai, ci, rfl⟩ := (own_src iv).shape
    obtain rfl := tv
    have HGS := Lib.hid (show Rg (rd ([], []) sShape l false).1.1 ∧ (∀ r ∈ (rd ([], []) sShape l false).1.2, Rg r) ∧ (rd ([], []) sShape l false).1.2.length ≤ 6 from rd_gives (z := ([], [])) gives_sShape ⟨⟨fun p hp => (by cases hp), Nat.zero_le _⟩, fun r hr => (by cases hr), Nat.zero_le _⟩ false hby)
    have HGI := Lib.hid (show (∀ x ∈ (rd [] (sList 900 sInt) l false).1, I64 x) ∧ (rd [] (sList 900 sInt) l false).1.length ≤ 900 from rd_gives (z := ([] : List Int)) (gives_sList 900 gives_sInt suf_sInt) ⟨fun p hp => (by cases hp), Nat.zero_le _⟩ false hby)
    have HGT := Lib.hid (show By (rd [] (sBytes 900) l false).1 ∧ (rd [] (sBytes 900) l false).1.length ≤ 900 from rd_gives (z := ([] : List Int)) (s := sBytes 900) (P := fun m => By m ∧ m.length ≤ 900) (fun l f hb => by
      have h1 := sBounded_range 900 l f
      unfold sBytes
      split
      · exact ⟨By.nil, Nat.zero_le _⟩
      · exact ⟨((suf_sBounded 0 900).by_ hb).take _, by simp only [List.length_take]; omega⟩) ⟨By.nil, Nat.zero_le _⟩ false hby)
    clear q1' q2 t3 SO5 SH5 iv gr
    obtain ⟨S, hS⟩ : ∃ S, S = rd ([], []) sShape l false := ⟨_, rfl⟩
    obtain ⟨I, hI⟩ : ∃ I, I = rd [] (sList 900 sInt) l false := ⟨_, rfl⟩
    obtain ⟨T, hT⟩ : ∃ T, T = rd [] (sBytes 900) l false := ⟨_, rfl⟩
    rw [← hS] at p1 SO6 SH6 HGS ⊢
    rw [← hI] at p2 I6 HGI ⊢
    rw [← hT] at q3 HGT ⊢
    have K1 := Lib.hid (show endOf S.2.1 S.2.2 = 0 → l = encS S.1 by rw [hS]; exact fun h => rd_canon canon_sShape hby h)
    have K2 := Lib.hid (show endOf I.2.1 I.2.2 = 0 → l = encL enc I.1 by rw [hI]; exact fun h => rd_canon (canon_sList 900 canon_sInt suf_sInt) hby h)
    have K3 := Lib.hid (show endOf T.2.1 T.2.2 = 0 → l = encT T.1 by rw [hT]; exact fun h => rd_canon (canon_sBytes 900) hby h)
    clear hS hI hT G1 G2 G3
    have O7 : Below w6.heap.size w6 (w6.alloc (.cells #[.slice Ao S.1.1.length co, .slice Ah S.1.2.length ch] 60)) := (Below.refl _ _).alloc (Nat.le_refl _) _
    have B7 := B6.trans (O7.mono B6.size)
    replace p1 := p1.below O7
    replace p2 := p2.below O7
    replace q3 := q3.below O7
    have SO7 := Lib.hid (own_below SO6.out O7)
    have SH7 := Lib.hid (OwnR.below SH6.out O7)
    have I7 := Lib.hid (own_below I6.out O7)
    clear SO6 SH6 I6 O7 B6 B5 B4 B3 B2 B1 B0
    go_wp2_with fail
    refine (end_any R1 g1 S.2.1 S.2.2 _ p1).mono ?_
    rintro e w8 ⟨rfl, rfl⟩
    by_cases k1 : endOf S.2.1 S.2.2 = 0
    · rw [k1]
      have M1 := Lib.hid (K1.out k1)
      clear k1
      go_wp2_with fail
      refine (shape_any _ _ _ S.1 (by have := HGS.out.1.2; omega) (by have := HGS.out.2.2; omega) (fun r hr => by have := (HGS.out.2.1 r hr).2; omega) HGS.out.1.1 (fun r hr => (HGS.out.2.1 r hr).1) (own_src SO7.out) (OwnR.src SH7.out)).mono ?_
      rintro e w9 ⟨ux, rfl, ownx, hx⟩
      have B9 := B7.trans (hx.mono B7.size)
      rw [← M1.out] at ownx
      replace p2 := p2.below hx
      replace q3 := q3.below hx
      have I9 := Lib.hid (own_below I7.out hx)
      clear hx
      go_wp2_with fail
      refine (same_true _ _ l _ ownx.src (Src.below hb B9) hby).mono ?_
      rintro e w10 ⟨rfl, rfl⟩
      go_wp2_with fail
      refine (end_any R2 g2 I.2.1 I.2.2 _ p2).mono ?_
      rintro e wa ⟨rfl, rfl⟩
      by_cases k2 : endOf I.2.1 I.2.2 = 0
      · rw [k2]
        have M2 := Lib.hid (K2.out k2)
        clear k2
        go_wp2_with fail
        refine (ints_any _ (.slice none 0 0) [] _ I.1 _ (Nat.le_refl _) (by have := HGI.out.2; omega) (by simp) HGI.out.1 (OwnB.nil _ _) (own_src I9.out) (nil_sep _)).mono ?_
        rintro e wb ⟨ui, rfl, owni, gri⟩
        have hi := gri.below (Nat.le_refl _) nil_from
        have BI := (B9).trans (hi.mono (B9).size)
        rw [List.nil_append, ← M2.out] at owni
        replace q3 := q3.below hi
        go_wp2_with fail
        refine (same_true _ _ l _ owni.src (Src.below hb BI) hby).mono ?_
        rintro e wb2 ⟨rfl, rfl⟩
        go_wp2_with fail
        refine (end_any R3 g3 T.2.1 T.2.2 _ q3).mono ?_
        rintro e wc ⟨rfl, rfl⟩
        by_cases k3 : endOf T.2.1 T.2.2 = 0
        · rw [k3]
          have M3 := Lib.hid (K3.out k3)
          clear k3
          go_wp2_with fail
          refine (text_any _ (.slice none 0 0) [] (strOfNums T.1) _ (Nat.le_refl _) (by rw [strOfNums_size]; have := HGT.out.2; simp; omega) (OwnB.nil _ _)).mono ?_
          rintro e wd ⟨ut, rfl, ownt, grt⟩
          have ht := grt.below (Nat.le_refl _) nil_from
          have BX := (BI).trans (ht.mono (BI).size)
          rw [List.nil_append, strL_of HGT.out.1, ← M3.out] at ownt
          go_wp2_with fail
          refine (same_true _ _ l _ ownt.src (Src.below hb BX) hby).mono ?_
          rintro e we ⟨rfl, rfl⟩
          go_wp2
          go_ret
          exact ⟨rfl, BX⟩
        · have k3b : (endOf T.2.1 T.2.2 != 0) = true := by rw [bne_iff_ne]; exact k3
          have BX := BI
          clear k3
          go_wp2
          go_ret
          exact ⟨rfl, BX⟩
      · have k2b : (endOf I.2.1 I.2.2 != 0) = true := by rw [bne_iff_ne]; exact k2
        clear k2
        go_wp2_with fail
        refine (end_any R3 g3 T.2.1 T.2.2 _ q3).mono ?_
        rintro e wc ⟨rfl, rfl⟩
        by_cases k3 : endOf T.2.1 T.2.2 = 0
        · rw [k3]
          have M3 := Lib.hid (K3.out k3)
          clear k3
          go_wp2_with fail
          refine (text_any _ (.slice none 0 0) [] (strOfNums T.1) _ (Nat.le_refl _) (by rw [strOfNums_size]; have := HGT.out.2; simp; omega) (OwnB.nil _ _)).mono ?_
          rintro e wd ⟨ut, rfl, ownt, grt⟩
          have ht := grt.below (Nat.le_refl _) nil_from
          have BX := (B9).trans (ht.mono (B9).size)
          rw [List.nil_append, strL_of HGT.out.1, ← M3.out] at ownt
          go_wp2_with fail
          refine (same_true _ _ l _ ownt.src (Src.below hb BX) hby).mono ?_
          rintro e we ⟨rfl, rfl⟩
          go_wp2
          go_ret
          exact ⟨rfl, BX⟩
        · have k3b : (endOf T.2.1 T.2.2 != 0) = true := by rw [bne_iff_ne]; exact k3
          have BX := B9
          clear k3
          go_wp2
          go_ret
          exact ⟨rfl, BX⟩
    · have k1b : (endOf S.2.1 S.2.2 == 0) = false := by rw [beq_eq_false_iff_ne]; exact k1
      clear k1
      go_wp2_with fail
      refine (end_any R2 g2 I.2.1 I.2.2 _ p2).mono ?_
      rintro e wa ⟨rfl, rfl⟩
      by_cases k2 : endOf I.2.1 I.2.2 = 0
      · rw [k2]
        have M2 := Lib.hid (K2.out k2)
        clear k2
        go_wp2_with fail
        refine (ints_any _ (.slice none 0 0) [] _ I.1 _ (Nat.le_refl _) (by have := HGI.out.2; omega) (by simp) HGI.out.1 (OwnB.nil _ _) (own_src I7.out) (nil_sep _)).mono ?_
        rintro e wb ⟨ui, rfl, owni, gri⟩
        have hi := gri.below (Nat.le_refl _) nil_from
        have BI := (B7).trans (hi.mono (B7).size)
        rw [List.nil_append, ← M2.out] at owni
        replace q3 := q3.below hi
        go_wp2_with fail
        refine (same_true _ _ l _ owni.src (Src.below hb BI) hby).mono ?_
        rintro e wb2 ⟨rfl, rfl⟩
        go_wp2_with fail
        refine (end_any R3 g3 T.2.1 T.2.2 _ q3).mono ?_
        rintro e wc ⟨rfl, rfl⟩
        by_cases k3 : endOf T.2.1 T.2.2 = 0
        · rw [k3]
          have M3 := Lib.hid (K3.out k3)
          clear k3
          go_wp2_with fail
          refine (text_any _ (.slice none 0 0) [] (strOfNums T.1) _ (Nat.le_refl _) (by rw [strOfNums_size]; have := HGT.out.2; simp; omega) (OwnB.nil _ _)).mono ?_
          rintro e wd ⟨ut, rfl, ownt, grt⟩
          have ht := grt.below (Nat.le_refl _) nil_from
          have BX := (BI).trans (ht.mono (BI).size)
          rw [List.nil_append, strL_of HGT.out.1, ← M3.out] at ownt
          go_wp2_with fail
          refine (same_true _ _ l _ ownt.src (Src.below hb BX) hby).mono ?_
          rintro e we ⟨rfl, rfl⟩
          go_wp2
          go_ret
          exact ⟨rfl, BX⟩
        · have k3b : (endOf T.2.1 T.2.2 != 0) = true := by rw [bne_iff_ne]; exact k3
          have BX := BI
          clear k3
          go_wp2
          go_ret
          exact ⟨rfl, BX⟩
      · have k2b : (endOf I.2.1 I.2.2 != 0) = true := by rw [bne_iff_ne]; exact k2
        clear k2
        go_wp2_with fail
        refine (end_any R3 g3 T.2.1 T.2.2 _ q3).mono ?_
        rintro e wc ⟨rfl, rfl⟩
        by_cases k3 : endOf T.2.1 T.2.2 = 0
        · rw [k3]
          have M3 := Lib.hid (K3.out k3)
          clear k3
          go_wp2_with fail
          refine (text_any _ (.slice none 0 0) [] (strOfNums T.1) _ (Nat.le_refl _) (by rw [strOfNums_size]; have := HGT.out.2; simp; omega) (OwnB.nil _ _)).mono ?_
          rintro e wd ⟨ut, rfl, ownt, grt⟩
          have ht := grt.below (Nat.le_refl _) nil_from
          have BX := (B7).trans (ht.mono (B7).size)
          rw [List.nil_append, strL_of HGT.out.1, ← M3.out] at ownt
          go_wp2_with fail
          refine (same_true _ _ l _ ownt.src (Src.below hb BX) hby).mono ?_
          rintro e we ⟨rfl, rfl⟩
          go_wp2
          go_ret
          exact ⟨rfl, BX⟩
        · have k3b : (endOf T.2.1 T.2.2 != 0) = true := by rw [bne_iff_ne]; exact k3
          have BX := B7
          clear k3
          go_wp2
          go_ret
          exact ⟨rfl, BX⟩
end Go.Proofs.Ytcmpdnpdipckmaa.W
