/-
  RatioOps: the call returns true. Condition: the parts are ints.
-/
import Derived.Test.YthefkomalakfeaaQAw
import Derived.Test.YthefkomalakfeaaRNu
import Derived.Test.YthefkomalakfeaaRNt
namespace Go.Proofs.Ythefkomalakfeaa.W
open Go.RowKit Go.Proofs.Ythefkomalakfeaa.Q

set_option maxRecDepth 100000 in
set_option maxHeartbeats 6400000 in
theorem ratioOps_any (an ad bn bd : Int) (ha1 : I64 an) (ha2 : I64 ad) (hb1 : I64 bn) (hb2 : I64 bd) (w : World) : Calls Try.prog 3 #[raV an ad, raV bn bd] w fun e w' => e = .returned (.bool true) ∧ Nw w w' := by
  have c0 := fun w1 => awake_any w1
  have c1 := fun w1 => add_any an ad bn bd ha1 ha2 hb1 hb2 w1
  have c2 := fun w1 => refAdd_any an ad bn bd ha1 ha2 hb1 hb2 w1
  have c3 := fun w1 => sub_any an ad bn bd ha1 ha2 hb1 hb2 w1
  have c4 := fun w1 => refSub_any an ad bn bd ha1 ha2 hb1 hb2 w1
  have c5 := fun w1 => mul_any an ad bn bd ha1 ha2 hb1 hb2 w1
  have c6 := fun w1 => refMul_any an ad bn bd ha1 ha2 hb1 hb2 w1
  have c7 := fun w1 => div_any an ad bn bd ha1 ha2 hb1 hb2 w1
  have c8 := fun w1 => refDiv_any an ad bn bd ha1 ha2 hb1 hb2 w1
  generalize addR an ad bn bd = r0 at *
  obtain ⟨a1, a2, a3⟩ := r0
  generalize subR an ad bn bd = r1 at *
  obtain ⟨s1, s2, s3⟩ := r1
  generalize mulR an ad bn bd = r2 at *
  obtain ⟨m1, m2, m3⟩ := r2
  generalize divR an ad bn bd = r3 at *
  obtain ⟨d1, d2, d3⟩ := r3
  have HB := Lib.hid (blk2 w 23 #[.int .i64 an, .int .i64 ad] #[.int .i64 bn, .int .i64 bd])
  have HK := Lib.hid ((nw_alloc w (.cells #[.int .i64 an, .int .i64 ad] 23)).alloc (.cells #[.int .i64 bn, .int .i64 bd] 23))
  clear ha1 ha2 hb1 hb2
  go_enter Try.func3, Try.ntmps3
  go_wp2_with fail
  with_reducible refine (c0 _).mono ?_
  rintro e w1 ⟨rfl, hk⟩
  have HK := Lib.hid (HK.out.tr hk)
  have HBA := Lib.hid (Blk.kp (HB.out.1) hk id)
  have HBB := Lib.hid (Blk.kp (HB.out.2) hk id)
  clear hk
  obtain ⟨cA0, cA1, fA0, fA1⟩ := HBA.out.two
  obtain ⟨cB0, cB1, fB0, fB1⟩ := HBB.out.two
  go_wp2_with fail
  with_reducible refine (c1 _).mono ?_
  rintro e w2 ⟨rfl, hk⟩
  have hk := hk.tr (nw_alloc w2 (.cells #[.int .i64 a1, .int .i64 a2] 23))
  have HK := Lib.hid (HK.out.tr hk)
  have HBA := Lib.hid (Blk.kp (HBA.out) hk id)
  have HBB := Lib.hid (Blk.kp (HBB.out) hk id)
  have HBX := Lib.hid (Blk.new w2 23 #[.int .i64 a1, .int .i64 a2])
  clear hk cA0 cA1 fA0 fA1 cB0 cB1 fB0 fB1
  obtain ⟨cA0, cA1, fA0, fA1⟩ := HBA.out.two
  obtain ⟨cB0, cB1, fB0, fB1⟩ := HBB.out.two
  obtain ⟨cX0, cX1, fX0, fX1⟩ := HBX.out.two
  go_wp2_with fail
  with_reducible refine (c2 _).mono ?_
  rintro e w3 ⟨rfl, hk⟩
  have hk := hk.tr (nw_alloc w3 (.cells #[.int .i64 a1, .int .i64 a2] 23))
  have HK := Lib.hid (HK.out.tr hk)
  have HBA := Lib.hid (Blk.kp (HBA.out) hk id)
  have HBB := Lib.hid (Blk.kp (HBB.out) hk id)
  have HBX := Lib.hid (Blk.kp (HBX.out) hk id)
  have HBY := Lib.hid (Blk.new w3 23 #[.int .i64 a1, .int .i64 a2])
  clear hk cA0 cA1 fA0 fA1 cB0 cB1 fB0 fB1 cX0 cX1 fX0 fX1
  obtain ⟨cA0, cA1, fA0, fA1⟩ := HBA.out.two
  obtain ⟨cB0, cB1, fB0, fB1⟩ := HBB.out.two
  obtain ⟨cX0, cX1, fX0, fX1⟩ := HBX.out.two
  obtain ⟨cY0, cY1, fY0, fY1⟩ := HBY.out.two
  go_wp2_with fail
  with_reducible refine (c3 _).mono ?_
  rintro e w4 ⟨rfl, hk⟩
  have hk := hk.tr (nw_alloc w4 (.cells #[.int .i64 s1, .int .i64 s2] 23))
  have HK := Lib.hid (HK.out.tr hk)
  have HBA := Lib.hid (Blk.kp (HBA.out) hk id)
  have HBB := Lib.hid (Blk.kp (HBB.out) hk id)
  have HBX := Lib.hid (Blk.kp (HBX.out) hk id)
  have HBY := Lib.hid (Blk.kp (HBY.out) hk id)
  have HBU := Lib.hid (Blk.new w4 23 #[.int .i64 s1, .int .i64 s2])
  clear hk cA0 cA1 fA0 fA1 cB0 cB1 fB0 fB1 cX0 cX1 fX0 fX1 cY0 cY1 fY0 fY1
  obtain ⟨cA0, cA1, fA0, fA1⟩ := HBA.out.two
  obtain ⟨cB0, cB1, fB0, fB1⟩ := HBB.out.two
  obtain ⟨cX0, cX1, fX0, fX1⟩ := HBX.out.two
  obtain ⟨cY0, cY1, fY0, fY1⟩ := HBY.out.two
  obtain ⟨cU0, cU1, fU0, fU1⟩ := HBU.out.two
  go_wp2_with fail
  with_reducible refine (c4 _).mono ?_
  rintro e w5 ⟨rfl, hk⟩
  have hk := hk.tr (nw_alloc w5 (.cells #[.int .i64 s1, .int .i64 s2] 23))
  have HK := Lib.hid (HK.out.tr hk)
  have HBA := Lib.hid (Blk.kp (HBA.out) hk id)
  have HBB := Lib.hid (Blk.kp (HBB.out) hk id)
  have HBX := Lib.hid (Blk.kp (HBX.out) hk id)
  have HBY := Lib.hid (Blk.kp (HBY.out) hk id)
  have HBU := Lib.hid (Blk.kp (HBU.out) hk id)
  have HBV := Lib.hid (Blk.new w5 23 #[.int .i64 s1, .int .i64 s2])
  clear hk cA0 cA1 fA0 fA1 cB0 cB1 fB0 fB1 cX0 cX1 fX0 fX1 cY0 cY1 fY0 fY1 cU0 cU1 fU0 fU1
  obtain ⟨cA0, cA1, fA0, fA1⟩ := HBA.out.two
  obtain ⟨cB0, cB1, fB0, fB1⟩ := HBB.out.two
  obtain ⟨cX0, cX1, fX0, fX1⟩ := HBX.out.two
  obtain ⟨cY0, cY1, fY0, fY1⟩ := HBY.out.two
  obtain ⟨cU0, cU1, fU0, fU1⟩ := HBU.out.two
  obtain ⟨cV0, cV1, fV0, fV1⟩ := HBV.out.two
  go_wp2_with fail
  with_reducible refine (c5 _).mono ?_
  rintro e w6 ⟨rfl, hk⟩
  have hk := hk.tr (nw_alloc w6 (.cells #[.int .i64 m1, .int .i64 m2] 23))
  have HK := Lib.hid (HK.out.tr hk)
  have HBA := Lib.hid (Blk.kp (HBA.out) hk id)
  have HBB := Lib.hid (Blk.kp (HBB.out) hk id)
  have HBX := Lib.hid (Blk.kp (HBX.out) hk id)
  have HBY := Lib.hid (Blk.kp (HBY.out) hk id)
  have HBU := Lib.hid (Blk.kp (HBU.out) hk id)
  have HBV := Lib.hid (Blk.kp (HBV.out) hk id)
  have HBP := Lib.hid (Blk.new w6 23 #[.int .i64 m1, .int .i64 m2])
  clear hk cA0 cA1 fA0 fA1 cB0 cB1 fB0 fB1 cX0 cX1 fX0 fX1 cY0 cY1 fY0 fY1 cU0 cU1 fU0 fU1 cV0 cV1 fV0 fV1
  obtain ⟨cA0, cA1, fA0, fA1⟩ := HBA.out.two
  obtain ⟨cB0, cB1, fB0, fB1⟩ := HBB.out.two
  obtain ⟨cX0, cX1, fX0, fX1⟩ := HBX.out.two
  obtain ⟨cY0, cY1, fY0, fY1⟩ := HBY.out.two
  obtain ⟨cU0, cU1, fU0, fU1⟩ := HBU.out.two
  obtain ⟨cV0, cV1, fV0, fV1⟩ := HBV.out.two
  obtain ⟨cP0, cP1, fP0, fP1⟩ := HBP.out.two
  go_wp2_with fail
  with_reducible refine (c6 _).mono ?_
  rintro e w7 ⟨rfl, hk⟩
  have hk := hk.tr (nw_alloc w7 (.cells #[.int .i64 m1, .int .i64 m2] 23))
  have HK := Lib.hid (HK.out.tr hk)
  have HBA := Lib.hid (Blk.kp (HBA.out) hk id)
  have HBB := Lib.hid (Blk.kp (HBB.out) hk id)
  have HBX := Lib.hid (Blk.kp (HBX.out) hk id)
  have HBY := Lib.hid (Blk.kp (HBY.out) hk id)
  have HBU := Lib.hid (Blk.kp (HBU.out) hk id)
  have HBV := Lib.hid (Blk.kp (HBV.out) hk id)
  have HBP := Lib.hid (Blk.kp (HBP.out) hk id)
  have HBQ := Lib.hid (Blk.new w7 23 #[.int .i64 m1, .int .i64 m2])
  clear hk cA0 cA1 fA0 fA1 cB0 cB1 fB0 fB1 cX0 cX1 fX0 fX1 cY0 cY1 fY0 fY1 cU0 cU1 fU0 fU1 cV0 cV1 fV0 fV1 cP0 cP1 fP0 fP1
  obtain ⟨cA0, cA1, fA0, fA1⟩ := HBA.out.two
  obtain ⟨cB0, cB1, fB0, fB1⟩ := HBB.out.two
  obtain ⟨cX0, cX1, fX0, fX1⟩ := HBX.out.two
  obtain ⟨cY0, cY1, fY0, fY1⟩ := HBY.out.two
  obtain ⟨cU0, cU1, fU0, fU1⟩ := HBU.out.two
  obtain ⟨cV0, cV1, fV0, fV1⟩ := HBV.out.two
  obtain ⟨cP0, cP1, fP0, fP1⟩ := HBP.out.two
  obtain ⟨cQ0, cQ1, fQ0, fQ1⟩ := HBQ.out.two
  go_wp2_with fail
  with_reducible refine (c7 _).mono ?_
  rintro e w8 ⟨rfl, hk⟩
  have hk := hk.tr (nw_alloc w8 (.cells #[.int .i64 d1, .int .i64 d2] 23))
  have HK := Lib.hid (HK.out.tr hk)
  have HBA := Lib.hid (Blk.kp (HBA.out) hk id)
  have HBB := Lib.hid (Blk.kp (HBB.out) hk id)
  have HBX := Lib.hid (Blk.kp (HBX.out) hk id)
  have HBY := Lib.hid (Blk.kp (HBY.out) hk id)
  have HBU := Lib.hid (Blk.kp (HBU.out) hk id)
  have HBV := Lib.hid (Blk.kp (HBV.out) hk id)
  have HBP := Lib.hid (Blk.kp (HBP.out) hk id)
  have HBQ := Lib.hid (Blk.kp (HBQ.out) hk id)
  have HBS := Lib.hid (Blk.new w8 23 #[.int .i64 d1, .int .i64 d2])
  clear hk cA0 cA1 fA0 fA1 cB0 cB1 fB0 fB1 cX0 cX1 fX0 fX1 cY0 cY1 fY0 fY1 cU0 cU1 fU0 fU1 cV0 cV1 fV0 fV1 cP0 cP1 fP0 fP1 cQ0 cQ1 fQ0 fQ1
  obtain ⟨cA0, cA1, fA0, fA1⟩ := HBA.out.two
  obtain ⟨cB0, cB1, fB0, fB1⟩ := HBB.out.two
  obtain ⟨cX0, cX1, fX0, fX1⟩ := HBX.out.two
  obtain ⟨cY0, cY1, fY0, fY1⟩ := HBY.out.two
  obtain ⟨cU0, cU1, fU0, fU1⟩ := HBU.out.two
  obtain ⟨cV0, cV1, fV0, fV1⟩ := HBV.out.two
  obtain ⟨cP0, cP1, fP0, fP1⟩ := HBP.out.two
  obtain ⟨cQ0, cQ1, fQ0, fQ1⟩ := HBQ.out.two
  obtain ⟨cS0, cS1, fS0, fS1⟩ := HBS.out.two
  go_wp2_with fail
  with_reducible refine (c8 _).mono ?_
  rintro e w9 ⟨rfl, hk⟩
  have hk := hk.tr (nw_alloc w9 (.cells #[.int .i64 d1, .int .i64 d2] 23))
  have HK := Lib.hid (HK.out.tr hk)
  have HBA := Lib.hid (Blk.kp (HBA.out) hk id)
  have HBB := Lib.hid (Blk.kp (HBB.out) hk id)
  have HBX := Lib.hid (Blk.kp (HBX.out) hk id)
  have HBY := Lib.hid (Blk.kp (HBY.out) hk id)
  have HBU := Lib.hid (Blk.kp (HBU.out) hk id)
  have HBV := Lib.hid (Blk.kp (HBV.out) hk id)
  have HBP := Lib.hid (Blk.kp (HBP.out) hk id)
  have HBQ := Lib.hid (Blk.kp (HBQ.out) hk id)
  have HBS := Lib.hid (Blk.kp (HBS.out) hk id)
  have HBT := Lib.hid (Blk.new w9 23 #[.int .i64 d1, .int .i64 d2])
  clear hk cA0 cA1 fA0 fA1 cB0 cB1 fB0 fB1 cX0 cX1 fX0 fX1 cY0 cY1 fY0 fY1 cU0 cU1 fU0 fU1 cV0 cV1 fV0 fV1 cP0 cP1 fP0 fP1 cQ0 cQ1 fQ0 fQ1 cS0 cS1 fS0 fS1
  obtain ⟨cA0, cA1, fA0, fA1⟩ := HBA.out.two
  obtain ⟨cB0, cB1, fB0, fB1⟩ := HBB.out.two
  obtain ⟨cX0, cX1, fX0, fX1⟩ := HBX.out.two
  obtain ⟨cY0, cY1, fY0, fY1⟩ := HBY.out.two
  obtain ⟨cU0, cU1, fU0, fU1⟩ := HBU.out.two
  obtain ⟨cV0, cV1, fV0, fV1⟩ := HBV.out.two
  obtain ⟨cP0, cP1, fP0, fP1⟩ := HBP.out.two
  obtain ⟨cQ0, cQ1, fQ0, fQ1⟩ := HBQ.out.two
  obtain ⟨cS0, cS1, fS0, fS1⟩ := HBS.out.two
  obtain ⟨cT0, cT1, fT0, fT1⟩ := HBT.out.two
  go_wp2
  go_ret
  exact ⟨rfl, HK.out⟩
end Go.Proofs.Ythefkomalakfeaa.W
