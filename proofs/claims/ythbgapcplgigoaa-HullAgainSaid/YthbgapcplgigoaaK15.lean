/-
  hull: Hull: what it returns. Condition: the list is not longer than 2^40.
-/
import Derived.Test.YthbgapcplgigoaaK11
import Derived.Test.YthbgapcplgigoaaK07
import Derived.Test.YthbgapcplgigoaaLayU
namespace Go.Proofs.Ythbgapcplgigoaa.W
open Go.RowKit Go.Proofs.Ythbgapcplgigoaa.V Go.Proofs.Ythbgapcplgigoaa.G


open Go.Shelf
theorem RowV.kp {S : Nat → Prop} {w w' : World} {g : Nat} {l : List (Int × Int)} (h : RowV w g l) (hg : g < w.heap.size) (hk : Kp S w w') (hS : ¬ S g) : RowV w' g l := by
  intro i p hp
  obtain ⟨⟨a, b⟩, c, d⟩ := h i p hp
  exact ⟨⟨(hk.cell (p := ⟨g, i * 2, none⟩) hg hS).trans a, (hk.cell (p := ⟨g, i * 2 + 1, none⟩) hg hS).trans b⟩, (hk.frozen (p := ⟨g, i * 2, none⟩) hg hS).trans c, (hk.frozen (p := ⟨g, i * 2 + 1, none⟩) hg hS).trans d⟩
theorem OwnL.kp {S : Nat → Prop} {w0 w w' : World} {v : Value} {l : List (Int × Int)} (h : OwnL w0 w v l) (hk : Kp S w w') (hS : ∀ g, v.ownBlock = some g → g < w.heap.size → ¬ S g) : OwnL w0 w' v l := by
  rcases h with ⟨k, cap, rfl, h1, h2, h3, h4, h5⟩ | h
  · exact .inl ⟨k, cap, rfl, h1, Nat.lt_of_lt_of_le h2 hk.size, h3, h4, h5.kp h2 hk (hS k rfl h2)⟩
  · exact .inr h
theorem OwnL.at_ {w0 w : World} {v : Value} {l : List (Int × Int)} (h : OwnL w0 w v l) : ∀ g, v.ownBlock = some g → 0 < l.length → w0.heap.size ≤ g ∧ g < w.heap.size := by
  rcases h with ⟨k, cap, rfl, h1, h2, h3, h4, h5⟩ | ⟨rfl, h⟩
  · intro g e _
    have : k = g := by simpa [Value.ownBlock] using e
    omega
  · intro g _ h
    cases h
theorem kp_putV (w : World) (n g : Nat) (d : Array (Int × Int)) : Kp (fun b => b = g) w (Sort.putRowK vC 2 (Sort.ahead w n) g 0 d) := by
  refine ⟨rfl, rfl, rfl, ?_, fun i hi hne => ?_⟩
  · unfold Sort.putRowK
    rw [Sort.size_putRow]
    exact Nat.le_refl _
  · unfold Sort.putRowK
    show (w.heap.modify g _)[i]? = _
    rw [Array.getElem?_modify]
    simp [Ne.symm hne]

/-- slices.Reverse of a row that may be stored into -/
theorem vRev_row (l : List (Int × Int)) (k cap : Nat) (w : World) (h : RowV w k l) (hl : l.length ≤ 1099511627776) : Calls Try.prog 56 #[.slice (some ⟨k, 0, none⟩) l.length cap] w fun e w' => e = .returned (.tuple #[]) ∧ RowV w' k l.reverse ∧ Kp (fun b => b = k) w w' := by
  have hH := h.holds
  have hcon := AnyQ.slices_Reverse Try.revVec 2 Try.isAgg32 Try.sizeOf32 vC (fun _ => rfl) (fun x v hv => by simp [vC] at hv; rcases hv with rfl | rfl <;> rfl) k 0 cap l.toArray w hH (by simp; omega)
  refine Calls.mono hcon ?_
  rintro e w' ⟨rfl, n, rfl⟩
  refine ⟨rfl, RowV.of_holds ?_, kp_putV w n k l.toArray.reverse⟩
  have := Sort.holdsK_putRowK (enc := vC) (k := 2) (Sort.ahead w n) k 0 l.toArray l.toArray.reverse hH (by simp)
  rw [List.reverse_toArray] at this ⊢
  exact this
theorem vRev_none (A : Option Addr) (c : Nat) (w : World) : Calls Try.prog 56 #[.slice A 0 c] w fun e w' => e = .returned (.tuple #[]) ∧ w = w' := by
  refine Calls.mono (AnyQ.slices_Reverse_empty Try.revVec A c w) ?_
  rintro e w' ⟨rfl, rfl⟩
  exact ⟨rfl, rfl⟩
theorem chain_len (pts : List Pt) : (chainC pts).reverse.dropLast.length ≤ pts.length := by
  have := (fold_sub (P := fun _ => True) pts [] (fun _ _ => trivial) (fun _ _ => trivial)).2
  rw [chain_step]
  simp at this ⊢
  omega

set_option maxRecDepth 100000 in
set_option maxHeartbeats 6400000 in
theorem bothChains_row (pts : List Pt) (w00 w : World) (h0 : Nw w00 w) (k c n : Nat) (hn : pts.length = n) (hrow : RowV w k pts) (hkw : k < w.heap.size) (hk0 : w00.heap.size ≤ k) (hnc : n ≤ c) (hcm : c ≤ maxLen) (h4 : n ≤ 400) (hs : allS pts = true) : Calls Try.prog 35 #[.slice (some ⟨k, 0, none⟩) n c] w fun e w' => ∃ v', e = .returned v' ∧ SrcV w' v' (ringD pts) ∧ Nw w00 w' := by
  obtain ⟨w1, hw1⟩ : ∃ W, (w.alloc (.cells #[.slice (some ⟨k, 0, none⟩) n c] 22)).alloc (.cells #[.slice none 0 0] 25) = W := ⟨_, rfl⟩
  have HW1 := Lib.hid (show Nw w w1 by rw [← hw1]; exact (nw_alloc _ _).alloc _)
  have HP1 := Lib.hid (show Blk w1 w.heap.size 22 #[.slice (some ⟨k, 0, none⟩) n c] by rw [← hw1]; exact (Blk.new _ _ _).alloc _)
  have HR1 := Lib.hid (show Blk w1 (w.heap.size + 1) 25 #[.slice none 0 0] by rw [← hw1]; exact Blk.new_at _ _ _ (by simp))
  have HSZ := Lib.hid (show w1.heap.size = w.heap.size + 2 by rw [← hw1]; simp)
  obtain ⟨P, hP⟩ : ∃ x, w.heap.size = x := ⟨_, rfl⟩
  obtain ⟨R, hR⟩ : ∃ x, P + 1 = x := ⟨_, rfl⟩
  rw [hP] at HP1 HR1 HSZ
  rw [hR] at HR1
  have HPR := Lib.hid (show w.heap.size = P ∧ P + 1 = R ∧ w1.heap.size = P + 2 from ⟨hP, hR, HSZ.out⟩)
  have HKW := Lib.hid hkw
  have HRW := Lib.hid hrow
  have HN := Lib.hid hn
  have HNC := Lib.hid (And.intro hnc hcm)
  have hsB : ∀ g, (Value.slice (some ⟨k, 0, none⟩) n c).ownBlock = some g → 0 < pts.length → g < P + 2 ∧ g ≠ R := fun g e _ => by
    have e1 : k = g := by simpa [Value.ownBlock] using e
    have := HPR.out
    omega
  have hlp : pts.length ≤ 400 := by omega
  have hsrc1 : SrcV w1 (.slice (some ⟨k, 0, none⟩) n c) pts := (RowV.src (l := pts) (d := pts) (HRW.out.nw HKW.out HW1.out) (Nat.lt_of_lt_of_le HKW.out HW1.out.size) (List.take_of_length_le (by rw [HN.out]; exact Nat.le_refl _)) HN.out HNC.out.1 HNC.out.2)
  have c1 := addChain_any R P (P + 2) (.slice none 0 0) (.slice (some ⟨k, 0, none⟩) n c) [] pts w1 HR1.out HP1.out (by have := HPR.out; omega) (by have := HPR.out; omega) (OwnVV.nil _ _) hsrc1 hsB (by simp; omega) hs
  have HSB := Lib.hid hsB
  have HLP := Lib.hid hlp
  have HS := Lib.hid hs
  have H00 := Lib.hid h0
  clear hsB hlp hs h0 hsrc1 hn hrow hnc hcm
  go_enter Try.func35, Try.ntmps35
  go_wp2_with fail
  clear hw1 hP hR
  refine c1.mono ?_
  rintro e w2 ⟨rfl, rv2, hb2, ho2, hk2⟩
  rw [List.nil_append] at ho2
  have HP2 := Lib.hid (HP1.out.kp hk2 (fun e => by have := HPR.out; omega))
  have HB2 := Lib.hid hb2
  have HO2 := Lib.hid ho2
  have HK2 := Lib.hid hk2
  obtain ⟨p0, p1⟩ := HP2.out.one
  clear c1 hb2 ho2 hk2
  go_wp2_with fail
  have hr2 : RowV w2 k pts := RowV.kp (HRW.out.nw HKW.out HW1.out) (Nat.lt_of_lt_of_le HKW.out HW1.out.size) HK2.out (fun e => by have := HPR.out; have := HKW.out; omega)
  have cr := vRev_row pts k c w2 hr2 (by have := HLP.out; omega)
  rw [HN.out] at cr
  refine cr.mono ?_
  rintro e w3 ⟨rfl, hr3, hk3⟩
  have hsrc3 : SrcV w3 (.slice (some ⟨k, 0, none⟩) n c) pts.reverse := RowV.src (l := pts.reverse) (d := pts.reverse) hr3 (Nat.lt_of_lt_of_le (Nat.lt_of_lt_of_le HKW.out HW1.out.size) (Nat.le_trans HK2.out.size hk3.size)) (List.take_of_length_le (by rw [List.length_reverse, HN.out]; exact Nat.le_refl _)) (by rw [List.length_reverse]; exact HN.out) HNC.out.1 HNC.out.2
  have far : ∀ j, j = R ∨ j = P ∨ P + 2 ≤ j → ¬ j = k := fun j e => by have := HPR.out; have := HKW.out; omega
  have hb3 := HB2.out.kp hk3 (far _ (.inl rfl))
  have hp3 := HP2.out.kp hk3 (far _ (.inr (.inl rfl)))
  have ho3 := HO2.out.kp hk3 (fun g e => far g (.inr (.inr (own_from HO2.out g e))))
  have HK3 := Lib.hid (show Nw w00 w3 from ((H00.out.tr HW1.out).own HK2.out (fun j e => by have e2 : j = R ∨ P + 2 ≤ j := e; have := HPR.out; have := H00.out.size; omega)).own hk3 (fun j e => by rw [e]; exact hk0))
  have c2 := addChain_any R P (P + 2) rv2 _ ((chainC pts).reverse.dropLast) pts.reverse _ hb3 hp3 (by have := HPR.out; omega) (by have := HPR.out; have := HK2.out.size; have := hk3.size; omega) ho3 hsrc3 (fun g e h => HSB.out g e (by rw [List.length_reverse] at h; exact h)) (by have := chain_len pts; have := HLP.out; rw [List.length_reverse]; omega) (by rw [allS_iff]; exact fun p hp => allS_iff.1 HS.out p (List.mem_reverse.1 hp))
  clear cr hsrc3 hb3 hp3 ho3 hk3 p0 p1
  go_wp2_with fail
  refine c2.mono ?_
  rintro e w4 ⟨rfl, rv4, hb4, ho4, hk4⟩
  have HD := Lib.hid (show OwnVV w4 (P + 2) rv4 (ringD pts) from ho4)
  have HK4 := Lib.hid (HK3.out.own hk4 (fun j e => by have e2 : j = R ∨ P + 2 ≤ j := e; have := HPR.out; have := H00.out.size; omega))
  obtain ⟨A4, c4, rfl⟩ := HD.out.src.shape
  obtain ⟨d0, d1⟩ := hb4.one
  clear c2 hb4 ho4 hk4
  go_wp2_with fail
  go_ret
  exact ⟨_, rfl, HD.out.src, HK4.out⟩

set_option maxRecDepth 100000 in
set_option maxHeartbeats 6400000 in
theorem bothChains_nil (pts : List Pt) (w00 w : World) (h0 : Nw w00 w) (A : Option Addr) (c n : Nat) (hn : pts.length = n) (h0n : n = 0) (hcm : c ≤ maxLen) (hs : allS pts = true) : Calls Try.prog 35 #[.slice A n c] w fun e w' => ∃ v', e = .returned v' ∧ SrcV w' v' (ringD pts) ∧ Nw w00 w' := by
  obtain ⟨w1, hw1⟩ : ∃ W, (w.alloc (.cells #[.slice A n c] 22)).alloc (.cells #[.slice none 0 0] 25) = W := ⟨_, rfl⟩
  have HW1 := Lib.hid (show Nw w w1 by rw [← hw1]; exact (nw_alloc _ _).alloc _)
  have HP1 := Lib.hid (show Blk w1 w.heap.size 22 #[.slice A n c] by rw [← hw1]; exact (Blk.new _ _ _).alloc _)
  have HR1 := Lib.hid (show Blk w1 (w.heap.size + 1) 25 #[.slice none 0 0] by rw [← hw1]; exact Blk.new_at _ _ _ (by simp))
  have HSZ := Lib.hid (show w1.heap.size = w.heap.size + 2 by rw [← hw1]; simp)
  obtain ⟨P, hP⟩ : ∃ x, w.heap.size = x := ⟨_, rfl⟩
  obtain ⟨R, hR⟩ : ∃ x, P + 1 = x := ⟨_, rfl⟩
  rw [hP] at HP1 HR1 HSZ
  rw [hR] at HR1
  have HPR := Lib.hid (show w.heap.size = P ∧ P + 1 = R ∧ w1.heap.size = P + 2 from ⟨hP, hR, HSZ.out⟩)
  have HN := Lib.hid hn
  have HCM := Lib.hid hcm
  have hpe : pts = [] := List.length_eq_zero_iff.1 (by omega)
  have HE := Lib.hid (And.intro h0n hpe)
  have hsB : ∀ g, (Value.slice A n c).ownBlock = some g → 0 < pts.length → g < P + 2 ∧ g ≠ R := fun g e h => by omega
  have hlp : pts.length ≤ 400 := by omega
  have hsrc1 : SrcV w1 (.slice A n c) pts := (by rw [HE.out.1, HE.out.2]; exact src_none _ _ _ HCM.out)
  have c1 := addChain_any R P (P + 2) (.slice none 0 0) (.slice A n c) [] pts w1 HR1.out HP1.out (by have := HPR.out; omega) (by have := HPR.out; omega) (OwnVV.nil _ _) hsrc1 hsB (by simp; omega) hs
  have HSB := Lib.hid hsB
  have HLP := Lib.hid hlp
  have HS := Lib.hid hs
  have H00 := Lib.hid h0
  clear hsB hlp hs h0 hsrc1 hn hcm hpe h0n
  go_enter Try.func35, Try.ntmps35
  go_wp2_with fail
  clear hw1 hP hR
  refine c1.mono ?_
  rintro e w2 ⟨rfl, rv2, hb2, ho2, hk2⟩
  rw [List.nil_append] at ho2
  have HP2 := Lib.hid (HP1.out.kp hk2 (fun e => by have := HPR.out; omega))
  have HB2 := Lib.hid hb2
  have HO2 := Lib.hid ho2
  have HK2 := Lib.hid hk2
  obtain ⟨p0, p1⟩ := HP2.out.one
  clear c1 hb2 ho2 hk2
  go_wp2_with fail
  obtain ⟨h1, h2⟩ := HE.out
  clear h2
  subst h1
  have cr := vRev_none A c w2
  refine cr.mono ?_
  rintro e w3 ⟨rfl, rfl⟩
  have hsrc3 : SrcV w2 (.slice A 0 c) pts.reverse := by rw [HE.out.2]; exact src_none _ _ _ HCM.out
  have hb3 := HB2.out
  have hp3 := HP2.out
  have ho3 := HO2.out
  have hk3 := Kp.refl (fun _ => False) w2
  have HK3 := Lib.hid (show Nw w00 w2 from ((H00.out.tr HW1.out).own HK2.out (fun j e => by have e2 : j = R ∨ P + 2 ≤ j := e; have := HPR.out; have := H00.out.size; omega)))
  have c2 := addChain_any R P (P + 2) rv2 _ ((chainC pts).reverse.dropLast) pts.reverse _ hb3 hp3 (by have := HPR.out; omega) (by have := HPR.out; have := HK2.out.size; have := hk3.size; omega) ho3 hsrc3 (fun g e h => HSB.out g e (by rw [List.length_reverse] at h; exact h)) (by have := chain_len pts; have := HLP.out; rw [List.length_reverse]; omega) (by rw [allS_iff]; exact fun p hp => allS_iff.1 HS.out p (List.mem_reverse.1 hp))
  clear cr hsrc3 hb3 hp3 ho3 hk3 p0 p1
  go_wp2_with fail
  refine c2.mono ?_
  rintro e w4 ⟨rfl, rv4, hb4, ho4, hk4⟩
  have HD := Lib.hid (show OwnVV w4 (P + 2) rv4 (ringD pts) from ho4)
  have HK4 := Lib.hid (HK3.out.own hk4 (fun j e => by have e2 : j = R ∨ P + 2 ≤ j := e; have := HPR.out; have := H00.out.size; omega))
  obtain ⟨A4, c4, rfl⟩ := HD.out.src.shape
  obtain ⟨d0, d1⟩ := hb4.one
  clear c2 hb4 ho4 hk4
  go_wp2_with fail
  go_ret
  exact ⟨_, rfl, HD.out.src, HK4.out⟩

theorem bothChains_any (pts : List Pt) (v : Value) (w00 w : World) (hv : OwnL w00 w v pts) (h0 : Nw w00 w) (h4 : pts.length ≤ 400) (hs : allS pts = true) : Calls Try.prog 35 #[v] w fun e w' => ∃ v', e = .returned v' ∧ SrcV w' v' (ringD pts) ∧ Nw w00 w' := by
  rcases hv with ⟨k, cap, rfl, h1, h2, h3, h4', h5⟩ | ⟨rfl, A, c, rfl, h⟩
  · exact bothChains_row pts w00 w h0 k cap _ rfl h5 h2 h1 h3 h4' h4 hs
  · exact bothChains_nil [] w00 w h0 A c 0 rfl rfl h hs

theorem hullH_big {l : List Pt} (h : 400 < l.length) : hullH l = ([], 9) := by unfold hullH; rw [if_pos h]
theorem hullH_out {l : List Pt} (h : ¬ 400 < l.length) (hs : allS l = false) : hullH l = ([], 2) := by unfold hullH; rw [if_neg h, hs]; rfl

set_option maxRecDepth 100000 in
set_option maxHeartbeats 6400000 in
theorem hull_any (l : List (Int × Int)) (v : Value) (w : World) (hv : SrcV w v l) : Calls Try.prog 12 #[v] w fun e w' => ∃ v', e = .returned (.tuple #[v', .int .i64 (hullH l).2]) ∧ SrcV w' v' (hullH l).1 ∧ Nw w w' := by
  have HV := Lib.hid hv
  obtain ⟨A, c, rfl⟩ := hv.shape
  obtain ⟨n, hn⟩ : ∃ n, l.length = n := ⟨_, rfl⟩
  rw [hn] at HV hv ⊢
  have hmx := src_max (src_n (show SrcV w (.slice A l.length c) l from hn ▸ hv) hn)
  have HN := Lib.hid hn
  clear hv hn
  obtain ⟨r, hr⟩ : ∃ r, hullH l = r := ⟨_, rfl⟩
  obtain ⟨er, hre⟩ : ∃ e, r.2 = e := ⟨_, rfl⟩
  rw [hr, hre]
  have HRR := Lib.hid (And.intro hr hre)
  clear hr hre
  by_cases h4 : 400 < n
  · have f4 : ((n : Int) > 400) := by omega
    have h0 := hullH_big (l := l) (by rw [HN.out]; exact h4)
    rw [HRR.out.1] at h0
    have e0 := HRR.out.2
    rw [h0] at e0
    simp only at e0
    subst e0
    go_enter Try.func12, Try.ntmps12
    go_wp2_with fail
    go_ret2
    refine ⟨_, rfl, ?_, Kp.refl _ _⟩
    rw [h0]
    exact Src.nil _ _
  have f4 : ¬ ((n : Int) > 400) := by omega
  have H4 := Lib.hid (show ¬ 400 < l.length by rw [HN.out]; exact h4)
  have cs := fun w1 (h : SrcV w1 (.slice A n c) l) => hWithin_any l (.slice A n c) w1 h
  obtain ⟨b, hb⟩ : ∃ b, allS l = b := ⟨_, rfl⟩
  rw [hb] at cs
  cases b
  · have h0 := hullH_out H4.out hb
    rw [HRR.out.1] at h0
    have e0 := HRR.out.2
    rw [h0] at e0
    simp only at e0
    subst e0
    go_enter Try.func12, Try.ntmps12
    go_wp2_with (first | (go_at_call 34; ((with_reducible refine (cs _ (HV.out.nw (by repeat (first | exact Kp.refl _ _ | refine Kp.alloc ?_ _ | refine Kp.drew ?_)))).mono ?_); rintro e w5 ⟨rfl, hk5⟩)))
    go_ret2
    refine ⟨_, rfl, ?_, hk5⟩
    rw [h0]
    exact Src.nil _ _
  have h0 := hullH_eq H4.out hb
  rw [HRR.out.1] at h0
  have HH := Lib.hid h0
  have HS := Lib.hid (show allS (sortV l) = true from allS_iff.2 fun p hp => allS_iff.1 hb p (sort_mem'.1 hp))
  clear h0 hb h4
  go_enter Try.func12, Try.ntmps12
  go_wp2_with (first | (go_at_call 34; ((with_reducible refine (cs _ (HV.out.nw (by repeat (first | exact Kp.refl _ _ | refine Kp.alloc ?_ _ | refine Kp.drew ?_)))).mono ?_); rintro e w5 ⟨rfl, hk5⟩)))
  have HV5 := Lib.hid (HV.out.nw hk5)
  have HK5 := Lib.hid hk5
  clear hk5 cs
  refine (values_any _ l w5 HV5.out).mono ?_
  rintro e w6 ⟨rfl, hw6⟩
  have HK6 := Lib.hid (show Nw w5 w6 by rw [hw6]; exact nw_alloc _ _)
  have hB6 : Blk w6 w5.heap.size 22 #[.slice A n c] := by rw [hw6]; exact Blk.new _ _ _
  obtain ⟨B, hB⟩ : ∃ x, w5.heap.size = x := ⟨_, rfl⟩
  rw [hB] at hB6 ⊢
  clear hw6 hB
  have cf := sortedFunc_any B (.slice A n c) l w6 hB6 (HV5.out.nw HK6.out) (by have := H4.out; omega)
  clear hB6
  go_wp2_with fail
  refine cf.mono ?_
  rintro e w7 ⟨u, rfl, hu, hk7⟩
  have cb := bothChains_any (sortV l) u w6 w7 hu hk7 (by rw [sortV_len]; have := H4.out; omega) HS.out
  obtain ⟨A7, c7, rfl⟩ := hu.src.shape
  clear hu hk7 cf
  go_wp2_with fail
  refine cb.mono ?_
  rintro e w8 ⟨v8, rfl, hs8, hk8⟩
  obtain ⟨A8, c8, rfl⟩ := hs8.shape
  have HK8 := Lib.hid ((HK5.out.tr HK6.out).tr hk8)
  have HS8 := Lib.hid hs8
  obtain ⟨q, hq⟩ : ∃ q, (ringD (sortV l)).length = q := ⟨_, rfl⟩
  rw [hq] at HS8 ⊢
  have hh := HH.out
  rw [hq] at hh
  clear cb hs8 hk8
  by_cases h3 : q < 3
  · have f3 : ((q : Int) < 3) := by omega
    rw [if_pos h3] at hh
    have e0 := HRR.out.2
    have hh2 := Lib.hid hh
    rw [hh] at e0
    simp only at e0
    subst e0
    clear hq hh h3
    go_wp2_with fail
    go_ret2
    refine ⟨_, rfl, ?_, HK8.out⟩
    rw [hh2.out]
    exact Src.nil _ _
  have f3 : ¬ ((q : Int) < 3) := by omega
  rw [if_neg h3] at hh
  by_cases h1 : 160 < q
  · have f1 : ((q : Int) > 160) := by omega
    rw [if_pos h1] at hh
    have e0 := HRR.out.2
    have hh2 := Lib.hid hh
    rw [hh] at e0
    simp only at e0
    subst e0
    clear hq hh h1 h3
    go_wp2_with fail
    go_ret2
    refine ⟨_, rfl, ?_, HK8.out⟩
    rw [hh2.out]
    exact Src.nil _ _
  have f1 : ¬ ((q : Int) > 160) := by omega
  rw [if_neg h1] at hh
  have e0 := HRR.out.2
  have hh2 := Lib.hid hh
  rw [hh] at e0
  simp only at e0
  subst e0
  have HQ := Lib.hid hq
  clear hq hh h1 h3
  go_wp2_with fail
  go_ret2
  refine ⟨_, rfl, ?_, HK8.out⟩
  rw [hh2.out]
  show SrcV w8 (.slice A8 q c8) (ringD (sortV l))
  have := HS8.out
  exact this

end Go.Proofs.Ythbgapcplgigoaa.W
