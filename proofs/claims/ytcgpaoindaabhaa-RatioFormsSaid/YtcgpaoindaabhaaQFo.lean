/-
  RatioForms: the call returns true. Condition: the parts are ints.
-/
import Derived.Test.YtcgpaoindaabhaaQAw
import Derived.Test.YtcgpaoindaabhaaRNr
import Derived.Test.YtcgpaoindaabhaaRNq
namespace Go.Proofs.Ytcgpaoindaabhaa.W
open Go.RowKit Go.Proofs.Ytcgpaoindaabhaa.Q

theorem ofR_i64 (n d : Int) : I64 (ofR n d).1 ∧ I64 (ofR n d).2.1 := by
  unfold ofR
  split
  · exact ⟨i64_0, i64_0⟩
  · exact out_i64 _
theorem ofR_vld {n d : Int} (h : (ofR n d).2.2 = 0) : Vld (ofR n d).1 (ofR n d).2.1 := by
  unfold ofR at h ⊢
  split at h
  · cases h
  · rename_i h0
    rw [if_neg h0]
    exact (val_some (out_val h)).2.2.2

set_option maxRecDepth 100000 in
set_option maxHeartbeats 6400000 in
theorem ratioForms_any (n0 n1 an ad bn bd : Int) (hn0 : I64 n0) (hn1 : I64 n1) (ha1 : I64 an) (ha2 : I64 ad) (hb1 : I64 bn) (hb2 : I64 bd) (w : World) : Calls Try.prog 4 #[.agg #[.int .i64 n0, .int .i64 n1], raV an ad, raV bn bd] w fun e w' => e = .returned (.bool true) ∧ Nw w w' := by
  have c0 := fun w1 => awake_any w1
  have c1 := fun w1 => of_any n0 n1 hn0 hn1 w1
  have c2 := fun w1 => refOf_any n0 n1 hn0 hn1 w1
  have c3 := fun w1 => int_any n0 hn0 w1
  have c4 := fun w1 => refOf_any n0 1 hn0 ⟨by omega, by omega⟩ w1
  obtain ⟨x1, x2⟩ := ofR_i64 n0 n1
  have hv := fun h : (ofR n0 n1).2.2 = 0 => ofR_vld h
  have c5 := fun w1 => valid_any _ _ x1 x2 w1
  have d1 := fun w1 => valid_any an ad ha1 ha2 w1
  have d2 := fun w1 => refValid_any an ad ha1 ha2 w1
  have d3 := fun w1 => neg_any an ad ha1 ha2 w1
  have d4 := fun w1 => refNeg_any an ad ha1 ha2 w1
  have d5 := fun w1 => cmp_any an ad bn bd ha1 ha2 hb1 hb2 w1
  have d6 := fun w1 => refCmp_any an ad bn bd ha1 ha2 hb1 hb2 w1
  have d7 := fun w1 => sign_any an ad ha1 ha2 w1
  have d8 := fun w1 => refSign_any an ad ha1 ha2 w1
  have d9 := fun w1 => floor_any an ad ha1 ha2 w1
  have dA := fun w1 => refFloor_any an ad ha1 ha2 w1
  have dB := fun w1 => ceil_any an ad ha1 ha2 w1
  have dC := fun w1 => refCeil_any an ad ha1 ha2 w1
  generalize decide (Vld an ad) = vb at *
  generalize (negR an ad).1 = m1 at *
  generalize (negR an ad).2 = m2 at *
  generalize cmpR an ad bn bd = cm at *
  generalize signR an ad = sg at *
  generalize floorR an ad = fl at *
  generalize ceilR an ad = ce at *
  generalize hr1 : ofR n0 n1 = r1 at *
  generalize hr2 : ofR n0 1 = r2 at *
  obtain ⟨a1, a2, a3⟩ := r1
  obtain ⟨b1, b2, b3⟩ := r2
  have hB : Blk (((w.alloc (.cells #[.int .i64 n0, .int .i64 n1] 29)).alloc (.cells #[.int .i64 an, .int .i64 ad] 23)).alloc (.cells #[.int .i64 bn, .int .i64 bd] 23)) w.heap.size 29 #[.int .i64 n0, .int .i64 n1] ∧ Blk (((w.alloc (.cells #[.int .i64 n0, .int .i64 n1] 29)).alloc (.cells #[.int .i64 an, .int .i64 ad] 23)).alloc (.cells #[.int .i64 bn, .int .i64 bd] 23)) (w.heap.size + 1) 23 #[.int .i64 an, .int .i64 ad] ∧ Blk (((w.alloc (.cells #[.int .i64 n0, .int .i64 n1] 29)).alloc (.cells #[.int .i64 an, .int .i64 ad] 23)).alloc (.cells #[.int .i64 bn, .int .i64 bd] 23)) (w.heap.size + 2) 23 #[.int .i64 bn, .int .i64 bd] :=
    ⟨((Blk.new w _ _).alloc _).alloc _, (Blk.new_at (w.alloc _) _ _ (by simp)).alloc _, Blk.new_at ((w.alloc _).alloc _) _ _ (by simp)⟩
  have HB := Lib.hid hB
  have HK := Lib.hid (((nw_alloc w (.cells #[.int .i64 n0, .int .i64 n1] 29)).alloc (.cells #[.int .i64 an, .int .i64 ad] 23)).alloc (.cells #[.int .i64 bn, .int .i64 bd] 23))
  clear hB
  clear hr1 hr2 x1 x2 hn0 hn1 ha1 ha2 hb1 hb2
  by_cases h0 : a3 = 0
  · subst h0
    have hv := hv rfl
    have c5 : ∀ w1, Calls Try.prog 21 #[raV a1 a2] w1 fun e w' => e = .returned (.bool true) ∧ Nw w1 w' := by rw [decide_eq_true hv] at c5; exact c5
    clear hv
    go_enter Try.func4, Try.ntmps4
    go_wp2_with fail
    with_reducible refine (c0 _).mono ?_
    rintro e w1 ⟨rfl, hk⟩
    have HK := Lib.hid (HK.out.tr hk)
    have HBN := Lib.hid (Blk.kp (HB.out.1) hk id)
    have HBA := Lib.hid (Blk.kp (HB.out.2.1) hk id)
    have HBB := Lib.hid (Blk.kp (HB.out.2.2) hk id)
    clear hk
    obtain ⟨cN0, cN1, fN0, fN1⟩ := HBN.out.two
    obtain ⟨cA0, cA1, fA0, fA1⟩ := HBA.out.two
    obtain ⟨cB0, cB1, fB0, fB1⟩ := HBB.out.two
    go_wp2_with fail
    with_reducible refine (c1 _).mono ?_
    rintro e w2 ⟨rfl, hk⟩
    have hk := hk.tr (nw_alloc w2 (.cells #[.int .i64 a1, .int .i64 a2] 23))
    have HK := Lib.hid (HK.out.tr hk)
    have HBN := Lib.hid (Blk.kp (HBN.out) hk id)
    have HBA := Lib.hid (Blk.kp (HBA.out) hk id)
    have HBB := Lib.hid (Blk.kp (HBB.out) hk id)
    have HBX := Lib.hid (Blk.new w2 23 #[.int .i64 a1, .int .i64 a2])
    clear hk cN0 cN1 fN0 fN1 cA0 cA1 fA0 fA1 cB0 cB1 fB0 fB1
    obtain ⟨cN0, cN1, fN0, fN1⟩ := HBN.out.two
    obtain ⟨cA0, cA1, fA0, fA1⟩ := HBA.out.two
    obtain ⟨cB0, cB1, fB0, fB1⟩ := HBB.out.two
    obtain ⟨cX0, cX1, fX0, fX1⟩ := HBX.out.two
    go_wp2_with fail
    with_reducible refine (c2 _).mono ?_
    rintro e w3 ⟨rfl, hk⟩
    have hk := hk.tr (nw_alloc w3 (.cells #[.int .i64 a1, .int .i64 a2] 23))
    have HK := Lib.hid (HK.out.tr hk)
    have HBN := Lib.hid (Blk.kp (HBN.out) hk id)
    have HBA := Lib.hid (Blk.kp (HBA.out) hk id)
    have HBB := Lib.hid (Blk.kp (HBB.out) hk id)
    have HBX := Lib.hid (Blk.kp (HBX.out) hk id)
    have HBY := Lib.hid (Blk.new w3 23 #[.int .i64 a1, .int .i64 a2])
    clear hk cN0 cN1 fN0 fN1 cA0 cA1 fA0 fA1 cB0 cB1 fB0 fB1 cX0 cX1 fX0 fX1
    obtain ⟨cN0, cN1, fN0, fN1⟩ := HBN.out.two
    obtain ⟨cA0, cA1, fA0, fA1⟩ := HBA.out.two
    obtain ⟨cB0, cB1, fB0, fB1⟩ := HBB.out.two
    obtain ⟨cX0, cX1, fX0, fX1⟩ := HBX.out.two
    obtain ⟨cY0, cY1, fY0, fY1⟩ := HBY.out.two
    go_wp2_with fail
    with_reducible refine (c3 _).mono ?_
    rintro e w4 ⟨rfl, hk⟩
    have hk := hk.tr (nw_alloc w4 (.cells #[.int .i64 b1, .int .i64 b2] 23))
    have HK := Lib.hid (HK.out.tr hk)
    have HBN := Lib.hid (Blk.kp (HBN.out) hk id)
    have HBA := Lib.hid (Blk.kp (HBA.out) hk id)
    have HBB := Lib.hid (Blk.kp (HBB.out) hk id)
    have HBX := Lib.hid (Blk.kp (HBX.out) hk id)
    have HBY := Lib.hid (Blk.kp (HBY.out) hk id)
    have HBU := Lib.hid (Blk.new w4 23 #[.int .i64 b1, .int .i64 b2])
    clear hk cN0 cN1 fN0 fN1 cA0 cA1 fA0 fA1 cB0 cB1 fB0 fB1 cX0 cX1 fX0 fX1 cY0 cY1 fY0 fY1
    obtain ⟨cN0, cN1, fN0, fN1⟩ := HBN.out.two
    obtain ⟨cA0, cA1, fA0, fA1⟩ := HBA.out.two
    obtain ⟨cB0, cB1, fB0, fB1⟩ := HBB.out.two
    obtain ⟨cX0, cX1, fX0, fX1⟩ := HBX.out.two
    obtain ⟨cY0, cY1, fY0, fY1⟩ := HBY.out.two
    obtain ⟨cU0, cU1, fU0, fU1⟩ := HBU.out.two
    go_wp2_with fail
    with_reducible refine (c4 _).mono ?_
    rintro e w5 ⟨rfl, hk⟩
    have hk := hk.tr (nw_alloc w5 (.cells #[.int .i64 b1, .int .i64 b2] 23))
    have HK := Lib.hid (HK.out.tr hk)
    have HBN := Lib.hid (Blk.kp (HBN.out) hk id)
    have HBA := Lib.hid (Blk.kp (HBA.out) hk id)
    have HBB := Lib.hid (Blk.kp (HBB.out) hk id)
    have HBX := Lib.hid (Blk.kp (HBX.out) hk id)
    have HBY := Lib.hid (Blk.kp (HBY.out) hk id)
    have HBU := Lib.hid (Blk.kp (HBU.out) hk id)
    have HBV := Lib.hid (Blk.new w5 23 #[.int .i64 b1, .int .i64 b2])
    clear hk cN0 cN1 fN0 fN1 cA0 cA1 fA0 fA1 cB0 cB1 fB0 fB1 cX0 cX1 fX0 fX1 cY0 cY1 fY0 fY1 cU0 cU1 fU0 fU1
    obtain ⟨cN0, cN1, fN0, fN1⟩ := HBN.out.two
    obtain ⟨cA0, cA1, fA0, fA1⟩ := HBA.out.two
    obtain ⟨cB0, cB1, fB0, fB1⟩ := HBB.out.two
    obtain ⟨cX0, cX1, fX0, fX1⟩ := HBX.out.two
    obtain ⟨cY0, cY1, fY0, fY1⟩ := HBY.out.two
    obtain ⟨cU0, cU1, fU0, fU1⟩ := HBU.out.two
    obtain ⟨cV0, cV1, fV0, fV1⟩ := HBV.out.two
    go_wp2_with fail
    with_reducible refine (c5 _).mono ?_
    rintro e w6 ⟨rfl, hk⟩
    have HK := Lib.hid (HK.out.tr hk)
    have HBN := Lib.hid (Blk.kp (HBN.out) hk id)
    have HBA := Lib.hid (Blk.kp (HBA.out) hk id)
    have HBB := Lib.hid (Blk.kp (HBB.out) hk id)
    have HBX := Lib.hid (Blk.kp (HBX.out) hk id)
    have HBY := Lib.hid (Blk.kp (HBY.out) hk id)
    have HBU := Lib.hid (Blk.kp (HBU.out) hk id)
    have HBV := Lib.hid (Blk.kp (HBV.out) hk id)
    clear hk cN0 cN1 fN0 fN1 cA0 cA1 fA0 fA1 cB0 cB1 fB0 fB1 cX0 cX1 fX0 fX1 cY0 cY1 fY0 fY1 cU0 cU1 fU0 fU1 cV0 cV1 fV0 fV1
    obtain ⟨cN0, cN1, fN0, fN1⟩ := HBN.out.two
    obtain ⟨cA0, cA1, fA0, fA1⟩ := HBA.out.two
    obtain ⟨cB0, cB1, fB0, fB1⟩ := HBB.out.two
    obtain ⟨cX0, cX1, fX0, fX1⟩ := HBX.out.two
    obtain ⟨cY0, cY1, fY0, fY1⟩ := HBY.out.two
    obtain ⟨cU0, cU1, fU0, fU1⟩ := HBU.out.two
    obtain ⟨cV0, cV1, fV0, fV1⟩ := HBV.out.two
    have hP : ∀ w' : World, Nw w6 w' → w'.cell? (⟨w.heap.size + 1, 0, none⟩ : Addr) = some (.int .i64 an) ∧ w'.cell? (⟨w.heap.size + 1, 1, none⟩ : Addr) = some (.int .i64 ad) ∧ w'.cell? (⟨w.heap.size + 1 + 1, 0, none⟩ : Addr) = some (.int .i64 bn) ∧ w'.cell? (⟨w.heap.size + 1 + 1, 1, none⟩ : Addr) = some (.int .i64 bd) := fun w' h => by
      obtain ⟨a, b, _, _⟩ := (HBA.out.kp h id).two
      obtain ⟨c, d, _, _⟩ := (HBB.out.kp h id).two
      exact ⟨a, b, c, d⟩
    have HP := Lib.hid hP
    clear hP
    go_wp2_with fail
    go_region_held3 (fun w' : World => w'.cell? (⟨w.heap.size + 1, 0, none⟩ : Addr) = some (.int .i64 an) ∧ w'.cell? (⟨w.heap.size + 1, 1, none⟩ : Addr) = some (.int .i64 ad) ∧ w'.cell? (⟨w.heap.size + 1 + 1, 0, none⟩ : Addr) = some (.int .i64 bn) ∧ w'.cell? (⟨w.heap.size + 1 + 1, 1, none⟩ : Addr) = some (.int .i64 bd))
      (first | exact HP.out _ (Kp.refl _ _) | exact HP.out _ (Kp.drew (Kp.refl _ _)) | exact HP.out _ hb | fail)
      (first
        | (go_at_call 21; ((with_reducible refine (d1 _).mono ?_); rintro e x0 ⟨rfl, hk⟩; have hb : Nw w6 x0 := (Kp.drew (Kp.refl _ _)).tr hk))
        | (go_at_call 22; ((with_reducible refine (d2 _).mono ?_); rintro e x1 ⟨rfl, hk⟩; have hb : Nw w6 x1 := hb.tr hk))
        | (go_at_call 23; ((with_reducible refine (d3 _).mono ?_); rintro e x2 ⟨rfl, hk⟩; have hb : Nw w6 x2 := hb.tr hk))
        | (go_at_call 24; ((with_reducible refine (d4 _).mono ?_); rintro e x3 ⟨rfl, hk⟩; have hb : Nw w6 x3 := hb.tr hk))
        | (go_at_call 25; ((with_reducible refine (d5 _).mono ?_); rintro e x4 ⟨rfl, hk⟩; have hb : Nw w6 x4 := hb.tr hk))
        | (go_at_call 26; ((with_reducible refine (d6 _).mono ?_); rintro e x5 ⟨rfl, hk⟩; have hb : Nw w6 x5 := hb.tr hk))
        | (go_at_call 27; ((with_reducible refine (d7 _).mono ?_); rintro e x6 ⟨rfl, hk⟩; have hb : Nw w6 x6 := hb.tr hk))
        | (go_at_call 28; ((with_reducible refine (d8 _).mono ?_); rintro e x7 ⟨rfl, hk⟩; have hb : Nw w6 x7 := hb.tr hk))
        | (go_at_call 29; ((with_reducible refine (d9 _).mono ?_); rintro e x8 ⟨rfl, hk⟩; have hb : Nw w6 x8 := hb.tr hk))
        | (go_at_call 30; ((with_reducible refine (dA _).mono ?_); rintro e x9 ⟨rfl, hk⟩; have hb : Nw w6 x9 := hb.tr hk))
        | (go_at_call 31; ((with_reducible refine (dB _).mono ?_); rintro e x10 ⟨rfl, hk⟩; have hb : Nw w6 x10 := hb.tr hk))
        | (go_at_call 32; ((with_reducible refine (dC _).mono ?_); rintro e x11 ⟨rfl, hk⟩; have hb : Nw w6 x11 := hb.tr hk)))
    go_wp2
    go_ret
    exact ⟨rfl, HK.out.tr hb⟩
  · have e0 : (a3 == 0) = false := by simp [h0]
    clear hv c5 h0
    go_enter Try.func4, Try.ntmps4
    go_wp2_with fail
    with_reducible refine (c0 _).mono ?_
    rintro e w1 ⟨rfl, hk⟩
    have HK := Lib.hid (HK.out.tr hk)
    have HBN := Lib.hid (Blk.kp (HB.out.1) hk id)
    have HBA := Lib.hid (Blk.kp (HB.out.2.1) hk id)
    have HBB := Lib.hid (Blk.kp (HB.out.2.2) hk id)
    clear hk
    obtain ⟨cN0, cN1, fN0, fN1⟩ := HBN.out.two
    obtain ⟨cA0, cA1, fA0, fA1⟩ := HBA.out.two
    obtain ⟨cB0, cB1, fB0, fB1⟩ := HBB.out.two
    go_wp2_with fail
    with_reducible refine (c1 _).mono ?_
    rintro e w2 ⟨rfl, hk⟩
    have hk := hk.tr (nw_alloc w2 (.cells #[.int .i64 a1, .int .i64 a2] 23))
    have HK := Lib.hid (HK.out.tr hk)
    have HBN := Lib.hid (Blk.kp (HBN.out) hk id)
    have HBA := Lib.hid (Blk.kp (HBA.out) hk id)
    have HBB := Lib.hid (Blk.kp (HBB.out) hk id)
    have HBX := Lib.hid (Blk.new w2 23 #[.int .i64 a1, .int .i64 a2])
    clear hk cN0 cN1 fN0 fN1 cA0 cA1 fA0 fA1 cB0 cB1 fB0 fB1
    obtain ⟨cN0, cN1, fN0, fN1⟩ := HBN.out.two
    obtain ⟨cA0, cA1, fA0, fA1⟩ := HBA.out.two
    obtain ⟨cB0, cB1, fB0, fB1⟩ := HBB.out.two
    obtain ⟨cX0, cX1, fX0, fX1⟩ := HBX.out.two
    go_wp2_with fail
    with_reducible refine (c2 _).mono ?_
    rintro e w3 ⟨rfl, hk⟩
    have hk := hk.tr (nw_alloc w3 (.cells #[.int .i64 a1, .int .i64 a2] 23))
    have HK := Lib.hid (HK.out.tr hk)
    have HBN := Lib.hid (Blk.kp (HBN.out) hk id)
    have HBA := Lib.hid (Blk.kp (HBA.out) hk id)
    have HBB := Lib.hid (Blk.kp (HBB.out) hk id)
    have HBX := Lib.hid (Blk.kp (HBX.out) hk id)
    have HBY := Lib.hid (Blk.new w3 23 #[.int .i64 a1, .int .i64 a2])
    clear hk cN0 cN1 fN0 fN1 cA0 cA1 fA0 fA1 cB0 cB1 fB0 fB1 cX0 cX1 fX0 fX1
    obtain ⟨cN0, cN1, fN0, fN1⟩ := HBN.out.two
    obtain ⟨cA0, cA1, fA0, fA1⟩ := HBA.out.two
    obtain ⟨cB0, cB1, fB0, fB1⟩ := HBB.out.two
    obtain ⟨cX0, cX1, fX0, fX1⟩ := HBX.out.two
    obtain ⟨cY0, cY1, fY0, fY1⟩ := HBY.out.two
    go_wp2_with fail
    with_reducible refine (c3 _).mono ?_
    rintro e w4 ⟨rfl, hk⟩
    have hk := hk.tr (nw_alloc w4 (.cells #[.int .i64 b1, .int .i64 b2] 23))
    have HK := Lib.hid (HK.out.tr hk)
    have HBN := Lib.hid (Blk.kp (HBN.out) hk id)
    have HBA := Lib.hid (Blk.kp (HBA.out) hk id)
    have HBB := Lib.hid (Blk.kp (HBB.out) hk id)
    have HBX := Lib.hid (Blk.kp (HBX.out) hk id)
    have HBY := Lib.hid (Blk.kp (HBY.out) hk id)
    have HBU := Lib.hid (Blk.new w4 23 #[.int .i64 b1, .int .i64 b2])
    clear hk cN0 cN1 fN0 fN1 cA0 cA1 fA0 fA1 cB0 cB1 fB0 fB1 cX0 cX1 fX0 fX1 cY0 cY1 fY0 fY1
    obtain ⟨cN0, cN1, fN0, fN1⟩ := HBN.out.two
    obtain ⟨cA0, cA1, fA0, fA1⟩ := HBA.out.two
    obtain ⟨cB0, cB1, fB0, fB1⟩ := HBB.out.two
    obtain ⟨cX0, cX1, fX0, fX1⟩ := HBX.out.two
    obtain ⟨cY0, cY1, fY0, fY1⟩ := HBY.out.two
    obtain ⟨cU0, cU1, fU0, fU1⟩ := HBU.out.two
    go_wp2_with fail
    with_reducible refine (c4 _).mono ?_
    rintro e w5 ⟨rfl, hk⟩
    have hk := hk.tr (nw_alloc w5 (.cells #[.int .i64 b1, .int .i64 b2] 23))
    have HK := Lib.hid (HK.out.tr hk)
    have HBN := Lib.hid (Blk.kp (HBN.out) hk id)
    have HBA := Lib.hid (Blk.kp (HBA.out) hk id)
    have HBB := Lib.hid (Blk.kp (HBB.out) hk id)
    have HBX := Lib.hid (Blk.kp (HBX.out) hk id)
    have HBY := Lib.hid (Blk.kp (HBY.out) hk id)
    have HBU := Lib.hid (Blk.kp (HBU.out) hk id)
    have HBV := Lib.hid (Blk.new w5 23 #[.int .i64 b1, .int .i64 b2])
    clear hk cN0 cN1 fN0 fN1 cA0 cA1 fA0 fA1 cB0 cB1 fB0 fB1 cX0 cX1 fX0 fX1 cY0 cY1 fY0 fY1 cU0 cU1 fU0 fU1
    obtain ⟨cN0, cN1, fN0, fN1⟩ := HBN.out.two
    obtain ⟨cA0, cA1, fA0, fA1⟩ := HBA.out.two
    obtain ⟨cB0, cB1, fB0, fB1⟩ := HBB.out.two
    obtain ⟨cX0, cX1, fX0, fX1⟩ := HBX.out.two
    obtain ⟨cY0, cY1, fY0, fY1⟩ := HBY.out.two
    obtain ⟨cU0, cU1, fU0, fU1⟩ := HBU.out.two
    obtain ⟨cV0, cV1, fV0, fV1⟩ := HBV.out.two
    have hP : ∀ w' : World, Nw (w5.alloc (.cells #[.int .i64 b1, .int .i64 b2] 23)) w' → w'.cell? (⟨w.heap.size + 1, 0, none⟩ : Addr) = some (.int .i64 an) ∧ w'.cell? (⟨w.heap.size + 1, 1, none⟩ : Addr) = some (.int .i64 ad) ∧ w'.cell? (⟨w.heap.size + 1 + 1, 0, none⟩ : Addr) = some (.int .i64 bn) ∧ w'.cell? (⟨w.heap.size + 1 + 1, 1, none⟩ : Addr) = some (.int .i64 bd) := fun w' h => by
      obtain ⟨a, b, _, _⟩ := (HBA.out.kp h id).two
      obtain ⟨c, d, _, _⟩ := (HBB.out.kp h id).two
      exact ⟨a, b, c, d⟩
    have HP := Lib.hid hP
    clear hP
    go_wp2_with fail
    go_region_held3 (fun w' : World => w'.cell? (⟨w.heap.size + 1, 0, none⟩ : Addr) = some (.int .i64 an) ∧ w'.cell? (⟨w.heap.size + 1, 1, none⟩ : Addr) = some (.int .i64 ad) ∧ w'.cell? (⟨w.heap.size + 1 + 1, 0, none⟩ : Addr) = some (.int .i64 bn) ∧ w'.cell? (⟨w.heap.size + 1 + 1, 1, none⟩ : Addr) = some (.int .i64 bd))
      (first | exact HP.out _ (Kp.refl _ _) | exact HP.out _ (Kp.drew (Kp.refl _ _)) | exact HP.out _ hb | fail)
      (first
        | (go_at_call 21; ((with_reducible refine (d1 _).mono ?_); rintro e x0 ⟨rfl, hk⟩; have hb : Nw (w5.alloc (.cells #[.int .i64 b1, .int .i64 b2] 23)) x0 := (Kp.drew (Kp.refl _ _)).tr hk))
        | (go_at_call 22; ((with_reducible refine (d2 _).mono ?_); rintro e x1 ⟨rfl, hk⟩; have hb : Nw (w5.alloc (.cells #[.int .i64 b1, .int .i64 b2] 23)) x1 := hb.tr hk))
        | (go_at_call 23; ((with_reducible refine (d3 _).mono ?_); rintro e x2 ⟨rfl, hk⟩; have hb : Nw (w5.alloc (.cells #[.int .i64 b1, .int .i64 b2] 23)) x2 := hb.tr hk))
        | (go_at_call 24; ((with_reducible refine (d4 _).mono ?_); rintro e x3 ⟨rfl, hk⟩; have hb : Nw (w5.alloc (.cells #[.int .i64 b1, .int .i64 b2] 23)) x3 := hb.tr hk))
        | (go_at_call 25; ((with_reducible refine (d5 _).mono ?_); rintro e x4 ⟨rfl, hk⟩; have hb : Nw (w5.alloc (.cells #[.int .i64 b1, .int .i64 b2] 23)) x4 := hb.tr hk))
        | (go_at_call 26; ((with_reducible refine (d6 _).mono ?_); rintro e x5 ⟨rfl, hk⟩; have hb : Nw (w5.alloc (.cells #[.int .i64 b1, .int .i64 b2] 23)) x5 := hb.tr hk))
        | (go_at_call 27; ((with_reducible refine (d7 _).mono ?_); rintro e x6 ⟨rfl, hk⟩; have hb : Nw (w5.alloc (.cells #[.int .i64 b1, .int .i64 b2] 23)) x6 := hb.tr hk))
        | (go_at_call 28; ((with_reducible refine (d8 _).mono ?_); rintro e x7 ⟨rfl, hk⟩; have hb : Nw (w5.alloc (.cells #[.int .i64 b1, .int .i64 b2] 23)) x7 := hb.tr hk))
        | (go_at_call 29; ((with_reducible refine (d9 _).mono ?_); rintro e x8 ⟨rfl, hk⟩; have hb : Nw (w5.alloc (.cells #[.int .i64 b1, .int .i64 b2] 23)) x8 := hb.tr hk))
        | (go_at_call 30; ((with_reducible refine (dA _).mono ?_); rintro e x9 ⟨rfl, hk⟩; have hb : Nw (w5.alloc (.cells #[.int .i64 b1, .int .i64 b2] 23)) x9 := hb.tr hk))
        | (go_at_call 31; ((with_reducible refine (dB _).mono ?_); rintro e x10 ⟨rfl, hk⟩; have hb : Nw (w5.alloc (.cells #[.int .i64 b1, .int .i64 b2] 23)) x10 := hb.tr hk))
        | (go_at_call 32; ((with_reducible refine (dC _).mono ?_); rintro e x11 ⟨rfl, hk⟩; have hb : Nw (w5.alloc (.cells #[.int .i64 b1, .int .i64 b2] 23)) x11 := hb.tr hk)))
    go_wp2
    go_ret
    exact ⟨rfl, HK.out.tr hb⟩
end Go.Proofs.Ytcgpaoindaabhaa.W
