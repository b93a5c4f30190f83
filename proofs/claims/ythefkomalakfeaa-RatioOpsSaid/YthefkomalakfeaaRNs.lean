/-
  The reference's Mul: what it returns. Condition: the parts are ints.
-/
import Derived.Test.YthefkomalakfeaaRNo
namespace Go.Proofs.Ythefkomalakfeaa.W
open Go.RowKit Go.Proofs.Ythefkomalakfeaa.Q

theorem mul_mk {an ad bn bd : Int} (ha : Vld an ad) (hb : Vld bn bd) : mulR an ad bn bd = lowR (decide (an < 0) != decide (bn < 0)) (an.natAbs * bn.natAbs / Nat.gcd (an.natAbs * bn.natAbs) (ad.natAbs * bd.natAbs)) (ad.natAbs * bd.natAbs / Nat.gcd (an.natAbs * bn.natAbs) (ad.natAbs * bd.natAbs)) := by
  have hp := mul_pos_abs ha.1 hb.1
  rw [mul_parts ha hb, div_mk (an * bn), if_neg (by omega), mk_out (an * bn) (ad * bd).natAbs (by omega) (decide (an < 0) != decide (bn < 0)), Int.natAbs_mul, Int.natAbs_mul]
  intro h0
  have ha0 : an ≠ 0 := by rintro rfl; simp at h0
  have hb0 : bn ≠ 0 := by rintro rfl; simp at h0
  by_cases x : an < 0 <;> by_cases y : bn < 0
  · have := Int.mul_pos_of_neg_of_neg x y
    simp [x, y]; omega
  · have := Int.mul_neg_of_neg_of_pos x (show 0 < bn by omega)
    simp [x, y]; omega
  · have := Int.mul_neg_of_pos_of_neg (show 0 < an by omega) y
    simp [x, y]; omega
  · have := Int.mul_pos (show 0 < an by omega) (show 0 < bn by omega)
    simp [x, y]; omega

theorem bf_mk {w : World} {A A2 : Option Addr} {n c n2 c2 N D : Nat} {s : Bool} (h1 : Js w (.slice A n c) N) (h2 : Js w (.slice A2 n2 c2) D) : BF w (.agg #[.bool s, .slice A n c, .slice A2 n2 c2]) s N D := ⟨_, _, _, _, _, _, rfl, h1, h2⟩
theorem few2 {N : Nat} (h : N ≤ 85070591730234615865843651857942052864) : FewD (3 * N + 2) := by
  have h5 : B15 ^ 10 = 1427247692705959881058285969449495136382746624 := by rw [b15_eq]
  refine dfew_of (m := 10) ?_ (by omega)
  rw [h5]
  omega

/-- two fractions in boxes, and nothing else has changed -/
def Rel (bp bq : Bool) (a b c d : Nat) (w0 : World) (px py : Value) (wx : World) : Prop := ∃ BX BY V1 n1 k1 W1 m1 l1 V2 n2 k2 W2 m2 l2, px = .pointer (some ⟨BX, 0, none⟩) ∧ py = .pointer (some ⟨BY, 0, none⟩) ∧ Blk wx BX 45 #[.bool bp, .slice V1 n1 k1, .slice W1 m1 l1] ∧ Blk wx BY 45 #[.bool bq, .slice V2 n2 k2, .slice W2 m2 l2] ∧ Js wx (.slice V1 n1 k1) a ∧ Js wx (.slice W1 m1 l1) b ∧ Js wx (.slice V2 n2 k2) c ∧ Js wx (.slice W2 m2 l2) d ∧ Nw w0 wx
theorem Blk.lay3 {w : World} {g : Nat} {t : TypeId} {a b c : Value} (h : Blk w g t #[a, b, c]) (x y z : Value) : Blk (((w.setCell ⟨g, 0, none⟩ x).setCell ⟨g, 1, none⟩ y).setCell ⟨g, 2, none⟩ z) g t #[x, y, z] := ((h.set_ 0 x).set_ 1 y).set_ 2 z
theorem Blk.far3 {w : World} {g k : Nat} {t : TypeId} {cs : Array Value} (h : Blk w g t cs) (hne : g ≠ k) (x y z : Value) : Blk (((w.setCell ⟨k, 0, none⟩ x).setCell ⟨k, 1, none⟩ y).setCell ⟨k, 2, none⟩ z) g t cs := ((h.far (p := ⟨k, 0, none⟩) hne x).far (p := ⟨k, 1, none⟩) hne y).far (p := ⟨k, 2, none⟩) hne z
theorem Kp.new3 {S : Nat → Prop} {a w : World} (h : Kp S a w) {b : Nat} (hb : a.heap.size ≤ b) (x y z : Value) : Kp S a (((w.setCell ⟨b, 0, none⟩ x).setCell ⟨b, 1, none⟩ y).setCell ⟨b, 2, none⟩ z) := ((h.new hb 0 x).new hb 1 y).new hb 2 z
section
variable {bp bq : Bool} {a b c d : Nat} {w0 w5 : World} {V1 W1 V2 W2 : Option Addr} {n1 k1 m1 l1 n2 k2 m2 l2 : Nat} {u v x u' v' x' : Value}
variable (g1 : Js w5 (.slice V1 n1 k1) a) (g2 : Js w5 (.slice W1 m1 l1) b) (g3 : Js w5 (.slice V2 n2 k2) c) (g4 : Js w5 (.slice W2 m2 l2) d) (hk : Nw w0 w5)
include g1 g2 g3 g4 hk
theorem rel1 : Rel bp bq a b c d w0 (.pointer (some ⟨w5.heap.size, 0, none⟩)) (.pointer (some ⟨w5.heap.size + 1, 0, none⟩)) ((w5.alloc (.cells #[.bool bp, .slice V1 n1 k1, .slice W1 m1 l1] 45)).alloc (.cells #[.bool bq, .slice V2 n2 k2, .slice W2 m2 l2] 45)) :=
  have e := (nw_alloc w5 (.cells #[.bool bp, .slice V1 n1 k1, .slice W1 m1 l1] 45)).alloc (.cells #[.bool bq, .slice V2 n2 k2, .slice W2 m2 l2] 45)
  ⟨_, _, V1, n1, k1, W1, m1, l1, V2, n2, k2, W2, m2, l2, rfl, rfl, (Blk.new _ _ _).alloc _, Blk.new_at _ _ _ (by simp), g1.nw e, g2.nw e, g3.nw e, g4.nw e, hk.tr e⟩
theorem rel2 : Rel bp bq a b c d w0 (.pointer (some ⟨w5.heap.size + 1, 0, none⟩)) (.pointer (some ⟨w5.heap.size, 0, none⟩)) ((w5.alloc (.cells #[.bool bq, .slice V2 n2 k2, .slice W2 m2 l2] 45)).alloc (.cells #[.bool bp, .slice V1 n1 k1, .slice W1 m1 l1] 45)) :=
  have e := (nw_alloc w5 (.cells #[.bool bq, .slice V2 n2 k2, .slice W2 m2 l2] 45)).alloc (.cells #[.bool bp, .slice V1 n1 k1, .slice W1 m1 l1] 45)
  ⟨_, _, V1, n1, k1, W1, m1, l1, V2, n2, k2, W2, m2, l2, rfl, rfl, Blk.new_at _ _ _ (by simp), (Blk.new _ _ _).alloc _, g1.nw e, g2.nw e, g3.nw e, g4.nw e, hk.tr e⟩
theorem rel4 {h1 h2 : Nat} (b1 : Blk w5 h1 45 #[u, v, x]) (b2 : Blk w5 h2 45 #[u', v', x']) (hne : h1 ≠ h2) (s1 : w0.heap.size ≤ h1) (s2 : w0.heap.size ≤ h2) : Rel bp bq a b c d w0 (.pointer (some ⟨h1, 0, none⟩)) (.pointer (some ⟨h2, 0, none⟩)) ((((((w5.setCell ⟨h1, 0, none⟩ (.bool bp)).setCell ⟨h1, 1, none⟩ (.slice V1 n1 k1)).setCell ⟨h1, 2, none⟩ (.slice W1 m1 l1)).setCell ⟨h2, 0, none⟩ (.bool bq)).setCell ⟨h2, 1, none⟩ (.slice V2 n2 k2)).setCell ⟨h2, 2, none⟩ (.slice W2 m2 l2)) :=
  have f : ∀ {z : Value} {N : Nat}, Js w5 z N → Js ((((((w5.setCell ⟨h1, 0, none⟩ (.bool bp)).setCell ⟨h1, 1, none⟩ (.slice V1 n1 k1)).setCell ⟨h1, 2, none⟩ (.slice W1 m1 l1)).setCell ⟨h2, 0, none⟩ (.bool bq)).setCell ⟨h2, 1, none⟩ (.slice V2 n2 k2)).setCell ⟨h2, 2, none⟩ (.slice W2 m2 l2)) z N := fun g =>
    (g.three_ b1 (Kp.refl _ _) _ _ _ (by decide)).three_ (b2.far3 (Ne.symm hne) _ _ _) (Kp.refl _ _) _ _ _ (by decide)
  ⟨_, _, V1, n1, k1, W1, m1, l1, V2, n2, k2, W2, m2, l2, rfl, rfl, (b1.lay3 _ _ _).far3 hne _ _ _, (b2.far3 (Ne.symm hne) _ _ _).lay3 _ _ _, f g1, f g2, f g3, f g4, (hk.new3 s1 _ _ _).new3 s2 _ _ _⟩
theorem rel5 {h2 : Nat} (b2 : Blk w5 h2 45 #[u', v', x']) (s2 : w0.heap.size ≤ h2) : Rel bp bq a b c d w0 (.pointer (some ⟨w5.heap.size, 0, none⟩)) (.pointer (some ⟨h2, 0, none⟩)) ((((w5.alloc (.cells #[.bool bp, .slice V1 n1 k1, .slice W1 m1 l1] 45)).setCell ⟨h2, 0, none⟩ (.bool bq)).setCell ⟨h2, 1, none⟩ (.slice V2 n2 k2)).setCell ⟨h2, 2, none⟩ (.slice W2 m2 l2)) :=
  have hne : w5.heap.size ≠ h2 := Nat.ne_of_gt b2.lt
  have f : ∀ {z : Value} {N : Nat}, Js w5 z N → Js ((((w5.alloc (.cells #[.bool bp, .slice V1 n1 k1, .slice W1 m1 l1] 45)).setCell ⟨h2, 0, none⟩ (.bool bq)).setCell ⟨h2, 1, none⟩ (.slice V2 n2 k2)).setCell ⟨h2, 2, none⟩ (.slice W2 m2 l2)) z N := fun g =>
    (g.nw (nw_alloc w5 _)).three_ (b2.alloc _) (Kp.refl _ _) _ _ _ (by decide)
  ⟨_, _, V1, n1, k1, W1, m1, l1, V2, n2, k2, W2, m2, l2, rfl, rfl, (Blk.new _ _ _).far3 hne _ _ _, (b2.alloc _).lay3 _ _ _, f g1, f g2, f g3, f g4, (hk.alloc _).new3 s2 _ _ _⟩
theorem rel3 {h1 : Nat} (b1 : Blk w5 h1 45 #[u, v, x]) (s1 : w0.heap.size ≤ h1) : Rel bp bq a b c d w0 (.pointer (some ⟨h1, 0, none⟩)) (.pointer (some ⟨w5.heap.size, 0, none⟩)) (((((((w5.alloc (.cells #[.bool false, .slice none 0 0, .slice none 0 0] 45)).setCell ⟨h1, 0, none⟩ (.bool bp)).setCell ⟨h1, 1, none⟩ (.slice V1 n1 k1)).setCell ⟨h1, 2, none⟩ (.slice W1 m1 l1)).setCell ⟨w5.heap.size, 0, none⟩ (.bool bq)).setCell ⟨w5.heap.size, 1, none⟩ (.slice V2 n2 k2)).setCell ⟨w5.heap.size, 2, none⟩ (.slice W2 m2 l2)) :=
  have e := nw_alloc w5 (.cells #[.bool false, .slice none 0 0, .slice none 0 0] 45)
  rel4 (g1.nw e) (g2.nw e) (g3.nw e) (g4.nw e) (hk.tr e) (b1.alloc _) (Blk.new w5 _ _) (Nat.ne_of_lt b1.lt) s1 hk.size
end

set_option maxRecDepth 100000 in
set_option maxHeartbeats 3200000 in
theorem refMul_any (an ad bn bd : Int) (ha1 : I64 an) (ha2 : I64 ad) (hb1 : I64 bn) (hb2 : I64 bd) (w : World) : Calls Try.prog 15 #[raV an ad, raV bn bd] w fun e w' => e = .returned (resV (mulR an ad bn bd)) ∧ Nw w w' := by
  have HB := Lib.hid (blk3 w 23 #[.int .i64 an, .int .i64 ad] #[.int .i64 bn, .int .i64 bd] #[.int .i64 0, .int .i64 0])
  have HK0 := Lib.hid (((nw_alloc w (.cells #[.int .i64 an, .int .i64 ad] 23)).alloc (.cells #[.int .i64 bn, .int .i64 bd] 23)).alloc (.cells #[.int .i64 0, .int .i64 0] 23))
  have hva := fun w1 => refValid_any an ad ha1 ha2 w1
  have hvb := fun w1 => refValid_any bn bd hb1 hb2 w1
  have hsm := fun w1 => small_any an ad bn bd w1
  by_cases ha : Vld an ad
  · rw [decide_eq_true ha] at hva
    by_cases hb : Vld bn bd
    · rw [decide_eq_true hb] at hvb
      by_cases hs : Sml an ad bn bd
      · rw [decide_eq_true hs] at hsm
        have hr := mul_parts ha hb
        obtain ⟨s1, s2, s3, s4, s5, s6⟩ := hs
        have hp := (mul_pos_abs ha.1 hb.1).1
        have m1 := small_mul (a := an) (b := bn) ⟨s5, s3⟩ ⟨s6, s4⟩
        have m2 := trivial
        have m3 := small_mul (a := ad) (b := bd) ⟨by have := ha.1; omega, s1⟩ ⟨by have := hb.1; omega, s2⟩
        have e1 : IntKind.i64.wrap (an * bn) = an * bn := by rw [IntKind.wrap_i64]; omega
        have e3 : IntKind.i64.wrap (ad * bd) = ad * bd := by rw [IntKind.wrap_i64]; omega
        have hc := fun w1 => reduced_any (an * bn) (ad * bd) (by omega) (by omega) w1
        rw [← hr] at hc
        generalize mulR an ad bn bd = r at *
        clear hr s1 s2 s3 s4 s5 s6 hp m1 m2 m3 ha hb ha1 ha2 hb1 hb2
        go_enter Try.func15, Try.ntmps15
        go_wp2_with fail
        with_reducible refine (hva _).mono ?_
        rintro e w1 ⟨rfl, hk1⟩
        obtain ⟨r0, r1, r2, r3⟩ := (HB.out.2.1.kp hk1 id).two
        have HK1 := Lib.hid hk1
        clear hk1
        go_wp2_with fail
        with_reducible refine (hvb _).mono ?_
        rintro e w2 ⟨rfl, hk2⟩
        have HK2 := Lib.hid (HK1.out.tr hk2)
        clear hk2 r0 r1 r2 r3 hva hvb
        obtain ⟨q0, q1, q2, q3⟩ := (HB.out.1.kp HK2.out id).two
        obtain ⟨r0, r1, r2, r3⟩ := (HB.out.2.1.kp HK2.out id).two
        go_wp2_with fail
        with_reducible refine (hsm _).mono ?_
        rintro e w3 ⟨rfl, hk3⟩
        have HK3 := Lib.hid (HK2.out.tr hk3)
        clear hk3 r0 r1 r2 r3 q0 q1 q2 q3 hsm
        obtain ⟨q0, q1, q2, q3⟩ := (HB.out.1.kp HK3.out id).two
        obtain ⟨r0, r1, r2, r3⟩ := (HB.out.2.1.kp HK3.out id).two
        go_wp2_with fail
        with_reducible refine (hc _).mono ?_
        rintro e w4 ⟨rfl, hk4⟩
        have HK4 := Lib.hid (HK3.out.tr hk4)
        clear hk4
        obtain ⟨t0, t1, t2, t3⟩ := (HB.out.2.2.kp HK4.out id).two
        go_wp2
        refine bodyPost_ret (v := resV r) (by simp [results, Try.results15, go_sem, t0, t1]) rfl ⟨rfl, ?_⟩
        exact ((HK0.out.tr HK4.out).new (by omega) _ _).new (by omega) _ _
      · rw [decide_eq_false hs] at hsm
        have hr2 := mul_mk ha hb
        obtain ⟨a1, a2⟩ := vld_n ha
        obtain ⟨a3, a4⟩ := vld_d ha
        obtain ⟨b1, b2⟩ := vld_n hb
        obtain ⟨b3, b4⟩ := vld_d hb
        have fa : FewD an.natAbs := FewD.mono (few2 (N := an.natAbs) (by omega)) (by omega)
        have fb : FewD bn.natAbs := FewD.mono (few2 (N := bn.natAbs) (by omega)) (by omega)
        have fc : FewD ad.natAbs := FewD.mono (few2 (N := ad.natAbs) (by omega)) (by omega)
        have fd : FewD bd.natAbs := FewD.mono (few2 (N := bd.natAbs) (by omega)) (by omega)
        have hD : 0 < ad.natAbs * bd.natAbs := Nat.mul_pos (by omega) (by omega)
        have n1 := Nat.mul_le_mul (show an.natAbs ≤ 4611686018427387904 by omega) (show bn.natAbs ≤ 4611686018427387904 by omega)
        have n2 := Nat.mul_le_mul (show ad.natAbs ≤ 4611686018427387904 by omega) (show bd.natAbs ≤ 4611686018427387904 by omega)
        have hF : FewD (3 * (an.natAbs * bn.natAbs + ad.natAbs * bd.natAbs) + 2) := few2 (by omega)
        have c3 := fun x y w1 h1 h2 => natMul_any an.natAbs bn.natAbs x y w1 h1 h2 fa fb
        have c5 := fun x y w1 h1 h2 => natMul_any ad.natAbs bd.natAbs x y w1 h1 h2 fc fd
        have c4 := fun v w1 h => narrow_any (decide (an < 0) != decide (bn < 0)) (an.natAbs * bn.natAbs) (ad.natAbs * bd.natAbs) v w1 h hD hF
        rw [← hr2] at c4
        clear fa fb fc fd n1 n2 hF hD a1 a2 a3 a4 b1 b2 b3 b4
        have c1 := fun w1 => wide_any an ad ha1 ha2 w1
        have c2 := fun w1 => wide_any bn bd hb1 hb2 w1
        obtain ⟨bp, hbp⟩ : ∃ b, decide (an < 0) = b := ⟨_, rfl⟩
        obtain ⟨bq, hbq⟩ : ∃ b, decide (bn < 0) = b := ⟨_, rfl⟩
        rw [hbp] at c1
        rw [hbq] at c2
        rw [hbp, hbq] at c4
        clear hr2 hbp hbq
        generalize mulR an ad bn bd = r at *
        clear ha hb hs ha1 ha2 hb1 hb2
        go_enter Try.func15, Try.ntmps15
        go_wp2_with fail
        with_reducible refine (hva _).mono ?_
        rintro e w1 ⟨rfl, hk1⟩
        obtain ⟨r0, r1, r2, r3⟩ := (HB.out.2.1.kp hk1 id).two
        have HK1 := Lib.hid hk1
        clear hk1
        go_wp2_with fail
        with_reducible refine (hvb _).mono ?_
        rintro e w2 ⟨rfl, hk2⟩
        have HK2 := Lib.hid (HK1.out.tr hk2)
        clear hk2 r0 r1 r2 r3 hva hvb
        obtain ⟨q0, q1, q2, q3⟩ := (HB.out.1.kp HK2.out id).two
        obtain ⟨r0, r1, r2, r3⟩ := (HB.out.2.1.kp HK2.out id).two
        go_wp2_with fail
        with_reducible refine (hsm _).mono ?_
        rintro e w3 ⟨rfl, hk3⟩
        have HK3 := Lib.hid (HK2.out.tr hk3)
        clear hk3 r0 r1 r2 r3 q0 q1 q2 q3 hsm
        obtain ⟨q0, q1, q2, q3⟩ := (HB.out.1.kp HK3.out id).two
        obtain ⟨r0, r1, r2, r3⟩ := (HB.out.2.1.kp HK3.out id).two
        have l0 := Nat.lt_of_lt_of_le HB.out.1.lt HK3.out.size
        have l1 := Nat.lt_of_lt_of_le HB.out.2.1.lt HK3.out.size
        have hP : ∀ w' : World, Nw w3 w' → w'.cell? (⟨w.heap.size, 0, none⟩ : Addr) = some (.int .i64 an) ∧ w'.cell? (⟨w.heap.size, 1, none⟩ : Addr) = some (.int .i64 ad) ∧ w'.cell? (⟨w.heap.size + 1, 0, none⟩ : Addr) = some (.int .i64 bn) ∧ w'.cell? (⟨w.heap.size + 1, 1, none⟩ : Addr) = some (.int .i64 bd) := fun w' h => by
          obtain ⟨a, b, _, _⟩ := (HB.out.1.kp (HK3.out.tr h) id).two
          obtain ⟨c, d, _, _⟩ := (HB.out.2.1.kp (HK3.out.tr h) id).two
          exact ⟨a, b, c, d⟩
        have HP := Lib.hid hP
        clear hP l0 l1
        go_upto_region 5 with fail
        go_cut [6, 7] from 33 to 36 (fun px py wx => Rel bp bq an.natAbs ad.natAbs bn.natAbs bd.natAbs w3 px py wx)
        case first =>
          go_wp2_with fail
          obtain ⟨ua, ub, uc, ud⟩ := HP.out _ (nw_alloc w3 (.cells #[.bool false, .slice none 0 0, .slice none 0 0] 45))
          obtain ⟨ue, uf, ug, uh⟩ := HP.out _ ((nw_alloc w3 (.cells #[.bool false, .slice none 0 0, .slice none 0 0] 45)).alloc (.cells #[.bool false, .slice none 0 0, .slice none 0 0] 45))
          go_region_law (first
              | (go_simp; go_at_call 40; ((with_reducible refine (c1 _).mono ?_); rintro e w4 ⟨v1, rfl, ⟨V1, n1, k1, W1, m1, l1, rfl, g1, g2⟩, hk4⟩; (first | (have hk : Nw w3 w4 := (Kp.drew (Kp.refl _ _)).tr hk4; have h34 := hk.size) | (have hk : Nw w3 w4 := ((nw_alloc w3 _).drew).tr hk4; have h34 := hk.size; have z1 := (Blk.drew (Blk.new w3 45 #[.bool false, .slice none 0 0, .slice none 0 0])).kp hk4 id; have zl1 := z1.lt) | (have hk : Nw w3 w4 := (((nw_alloc w3 _).alloc _).drew).tr hk4; have h34 := hk.size; have z1 := (Blk.drew ((Blk.new w3 45 #[.bool false, .slice none 0 0, .slice none 0 0]).alloc (.cells #[.bool false, .slice none 0 0, .slice none 0 0] 45))).kp hk4 id; have zl1 := z1.lt; have z2 := (Blk.drew (Blk.new_at (w3.alloc (.cells #[.bool false, .slice none 0 0, .slice none 0 0] 45)) 45 #[.bool false, .slice none 0 0, .slice none 0 0] (n := w3.heap.size + 1) (by simp))).kp hk4 id; have zl2 := z2.lt)); obtain ⟨r0, r1, r2, r3⟩ := HP.out w4 hk; obtain ⟨ra, rb, rc, rd⟩ := HP.out _ (hk.alloc (.cells #[.bool false, .slice none 0 0, .slice none 0 0] 45)); obtain ⟨re, rf, rg, rh⟩ := HP.out _ ((hk.alloc (.cells #[.bool false, .slice none 0 0, .slice none 0 0] 45)).alloc (.cells #[.bool false, .slice none 0 0, .slice none 0 0] 45))))
              | (go_simp; go_at_call 40; ((with_reducible refine (c2 _).mono ?_); rintro e w5 ⟨v2, rfl, ⟨V2, n2, k2, W2, m2, l2, rfl, g3, g4⟩, hk5⟩; (first | (have hk45 : Nw w4 w5 := hk5) | (have hk45 : Nw w4 w5 := (nw_alloc w4 _).tr hk5; have y1 := (Blk.new w4 45 #[.bool false, .slice none 0 0, .slice none 0 0]).kp hk5 id) | (have hk45 : Nw w4 w5 := ((nw_alloc w4 _).alloc _).tr hk5; have y1 := ((Blk.new w4 45 #[.bool false, .slice none 0 0, .slice none 0 0]).alloc (.cells #[.bool false, .slice none 0 0, .slice none 0 0] 45)).kp hk5 id; have y2 := (Blk.new_at (w4.alloc (.cells #[.bool false, .slice none 0 0, .slice none 0 0] 45)) 45 #[.bool false, .slice none 0 0, .slice none 0 0] (n := w4.heap.size + 1) (by simp)).kp hk5 id)); have h45 := hk45.size; have hk : Nw w3 w5 := hk.tr hk45; have g1 := g1.nw hk45; have g2 := g2.nw hk45; (try (have z1 := z1.kp hk45 id; have yt := Blk.three z1; obtain ⟨oa, ob, oc, od, oe, of⟩ := yt; have yt := Blk.three (z1.alloc (.cells #[.bool false, .slice none 0 0, .slice none 0 0] 45)); obtain ⟨og, oh, oi, oj, ok, ol⟩ := yt; have yt := Blk.three (z1.alloc (.cells #[.bool bp, .slice V1 n1 k1, .slice W1 m1 l1] 45)); obtain ⟨om, o_n, oo, op, oq, o_r⟩ := yt; have nz := Nat.ne_of_lt z1.lt; have nzz := Ne.symm nz; have nzl := Nat.ne_of_lt zl1; have nzll := Ne.symm nzl)); (try (have z2 := z2.kp hk45 id; have yt := Blk.three z2; obtain ⟨da, db, dc, dd, de, df⟩ := yt)); (try (have yt := Blk.three y1; obtain ⟨xa, xb, xc, xd, xe, xf⟩ := yt; have yt := Blk.three (y1.alloc (.cells #[.bool false, .slice none 0 0, .slice none 0 0] 45)); obtain ⟨xg, xh, xi, xj, xk, xl⟩ := yt; have yt := Blk.three (y1.alloc (.cells #[.bool bp, .slice V1 n1 k1, .slice W1 m1 l1] 45)); obtain ⟨xm, xn, xo, xp, xq, xr⟩ := yt; have ny := Nat.ne_of_lt y1.lt; have nyy := Ne.symm ny)); (try (have yt := Blk.three y2; obtain ⟨sa, sb, sc, sd, se, sf⟩ := yt)))))
          all_goals (go_wp2_with fail; go_meet; case rel => (first | with_reducible exact rel1 g1 g2 g3 g4 hk | with_reducible exact rel2 g1 g2 g3 g4 hk | with_reducible exact rel3 g1 g2 g3 g4 hk y1 (by omega) | with_reducible exact rel3 g1 g2 g3 g4 hk y2 (by omega) | with_reducible exact rel3 g1 g2 g3 g4 hk z1 (by omega) | with_reducible exact rel3 g1 g2 g3 g4 hk z2 (by omega) | with_reducible exact rel5 g1 g2 g3 g4 hk y1 (by omega) | with_reducible exact rel5 g1 g2 g3 g4 hk y2 (by omega) | with_reducible exact rel5 g1 g2 g3 g4 hk z1 (by omega) | with_reducible exact rel5 g1 g2 g3 g4 hk z2 (by omega) | with_reducible exact rel4 g1 g2 g3 g4 hk y1 y2 (by omega) (by omega) (by omega) | with_reducible exact rel4 g1 g2 g3 g4 hk y1 z1 (by omega) (by omega) (by omega) | with_reducible exact rel4 g1 g2 g3 g4 hk y1 z2 (by omega) (by omega) (by omega) | with_reducible exact rel4 g1 g2 g3 g4 hk y2 y1 (by omega) (by omega) (by omega) | with_reducible exact rel4 g1 g2 g3 g4 hk y2 z1 (by omega) (by omega) (by omega) | with_reducible exact rel4 g1 g2 g3 g4 hk y2 z2 (by omega) (by omega) (by omega) | with_reducible exact rel4 g1 g2 g3 g4 hk z1 y1 (by omega) (by omega) (by omega) | with_reducible exact rel4 g1 g2 g3 g4 hk z1 y2 (by omega) (by omega) (by omega) | with_reducible exact rel4 g1 g2 g3 g4 hk z1 z2 (by omega) (by omega) (by omega) | with_reducible exact rel4 g1 g2 g3 g4 hk z2 y1 (by omega) (by omega) (by omega) | with_reducible exact rel4 g1 g2 g3 g4 hk z2 y2 (by omega) (by omega) (by omega) | with_reducible exact rel4 g1 g2 g3 g4 hk z2 z1 (by omega) (by omega) (by omega)))
        case rest =>
          obtain ⟨BX, BY, V1, n1, k1, W1, m1, l1, V2, n2, k2, W2, m2, l2, rfl, rfl, bx, bz, g1, g2, g3, g4, hk⟩ := hcut
          obtain ⟨s, hs⟩ : ∃ s, (bp != bq) = s := ⟨_, rfl⟩
          have hs2 : (!(bp == bq)) = s := hs
          rw [hs] at c4
          have hR := HB.out.2.2.kp (HK3.out.tr hk) id
          have ne1 : BX ≠ w.heap.size + 1 + 1 := Blk.ne_ bx hR (by decide)
          have ne2 : BY ≠ w.heap.size + 1 + 1 := Blk.ne_ bz hR (by decide)
          have hP : ∀ w' : World, Nw wc w' → w'.cell? (⟨BX, 0, none⟩ : Addr) = some (.bool bp) ∧ w'.cell? (⟨BX, 1, none⟩ : Addr) = some (.slice V1 n1 k1) ∧ w'.cell? (⟨BX, 2, none⟩ : Addr) = some (.slice W1 m1 l1) ∧ w'.cell? (⟨BY, 0, none⟩ : Addr) = some (.bool bq) ∧ w'.cell? (⟨BY, 1, none⟩ : Addr) = some (.slice V2 n2 k2) ∧ w'.cell? (⟨BY, 2, none⟩ : Addr) = some (.slice W2 m2 l2) := fun w' h => by
            have b1 := bx.kp h id
            have b2 := bz.kp h id
            exact ⟨b1.cell 0, b1.cell 1, b1.cell 2, b2.cell 0, b2.cell 1, b2.cell 2⟩
          have hQ : ∀ w' : World, Nw wc w' → ∀ x y : Value, ((w'.setCell ⟨w.heap.size + 1 + 1, 0, none⟩ x).setCell ⟨w.heap.size + 1 + 1, 1, none⟩ y).cell? (⟨BX, 0, none⟩ : Addr) = some (.bool bp) ∧ ((w'.setCell ⟨w.heap.size + 1 + 1, 0, none⟩ x).setCell ⟨w.heap.size + 1 + 1, 1, none⟩ y).cell? (⟨BX, 1, none⟩ : Addr) = some (.slice V1 n1 k1) ∧ ((w'.setCell ⟨w.heap.size + 1 + 1, 0, none⟩ x).setCell ⟨w.heap.size + 1 + 1, 1, none⟩ y).cell? (⟨BX, 2, none⟩ : Addr) = some (.slice W1 m1 l1) ∧ ((w'.setCell ⟨w.heap.size + 1 + 1, 0, none⟩ x).setCell ⟨w.heap.size + 1 + 1, 1, none⟩ y).cell? (⟨BY, 0, none⟩ : Addr) = some (.bool bq) ∧ ((w'.setCell ⟨w.heap.size + 1 + 1, 0, none⟩ x).setCell ⟨w.heap.size + 1 + 1, 1, none⟩ y).cell? (⟨BY, 1, none⟩ : Addr) = some (.slice V2 n2 k2) ∧ ((w'.setCell ⟨w.heap.size + 1 + 1, 0, none⟩ x).setCell ⟨w.heap.size + 1 + 1, 1, none⟩ y).cell? (⟨BY, 2, none⟩ : Addr) = some (.slice W2 m2 l2) := fun w' h x y => by
            have b1 := ((bx.kp h id).far (p := ⟨w.heap.size + 1 + 1, 0, none⟩) ne1 x).far (p := ⟨w.heap.size + 1 + 1, 1, none⟩) ne1 y
            have b2 := ((bz.kp h id).far (p := ⟨w.heap.size + 1 + 1, 0, none⟩) ne2 x).far (p := ⟨w.heap.size + 1 + 1, 1, none⟩) ne2 y
            exact ⟨b1.cell 0, b1.cell 1, b1.cell 2, b2.cell 0, b2.cell 1, b2.cell 2⟩
          have HP := Lib.hid hP
          have HQ := Lib.hid hQ
          have HR := Lib.hid hR
          have HKC := Lib.hid (HK3.out.tr hk)
          have G := Lib.hid (And.intro g1 (And.intro g2 (And.intro g3 g4)))
          clear hP hQ hR hk bx bz g1 g2 g3 g4 ne1 ne2 c1 c2 hs
          go_wp2_with fail
          go_region_held3 (fun w' : World => w'.cell? (⟨BX, 0, none⟩ : Addr) = some (.bool bp) ∧ w'.cell? (⟨BX, 1, none⟩ : Addr) = some (.slice V1 n1 k1) ∧ w'.cell? (⟨BX, 2, none⟩ : Addr) = some (.slice W1 m1 l1) ∧ w'.cell? (⟨BY, 0, none⟩ : Addr) = some (.bool bq) ∧ w'.cell? (⟨BY, 1, none⟩ : Addr) = some (.slice V2 n2 k2) ∧ w'.cell? (⟨BY, 2, none⟩ : Addr) = some (.slice W2 m2 l2))
            (first | exact HP.out _ (Kp.refl _ _) | exact HP.out _ (Kp.drew (Kp.refl _ _)) | exact HP.out _ hb | exact HQ.out _ hb _ _ | fail)
            (first
              | (go_at_call 45; ((with_reducible refine (c3 _ _ _ (G.out.1.nw (Kp.drew (Kp.refl _ _))) (G.out.2.2.1.nw (Kp.drew (Kp.refl _ _)))).mono ?_); rintro e x1 ⟨v3, rfl, j3, hk⟩; have hb : Nw wc x1 := (Kp.drew (Kp.refl _ _)).tr hk; obtain ⟨A3, n3, c3_, rfl⟩ := j3.shape))
              | (go_at_call 45; ((with_reducible refine (c5 _ _ _ (G.out.2.1.nw hb) (G.out.2.2.2.nw hb)).mono ?_); rintro e x2 ⟨v4, rfl, j4, hk⟩; have j3 := j3.nw hk; have hb : Nw wc x2 := hb.tr hk; obtain ⟨A4, n4, c4_, rfl⟩ := j4.shape))
              | (go_at_call 38; ((with_reducible refine (c4 _ _ (bf_mk j3 j4)).mono ?_); rintro e x3 ⟨rfl, hk⟩; have hb : Nw wc x3 := hb.tr hk; obtain ⟨t0, t1, t2, t3⟩ := (HR.out.kp hb id).two)))
          go_wp2
          refine bodyPost_ret (v := resV r) (by simp [results, Try.results15, go_sem, t0, t1]) rfl ⟨rfl, ?_⟩
          exact ((HK0.out.tr (HKC.out.tr hb)).new (by omega) _ _).new (by omega) _ _
    · rw [decide_eq_false hb] at hvb
      rw [show mulR an ad bn bd = (0, 0, 1) from both_bad (fun h => hb h.2)]
      clear ha hb ha1 ha2 hb1 hb2
      go_enter Try.func15, Try.ntmps15
      go_wp2_with fail
      with_reducible refine (hva _).mono ?_
      rintro e w1 ⟨rfl, hk1⟩
      obtain ⟨r0, r1, r2, r3⟩ := (HB.out.2.1.kp hk1 id).two
      have HK1 := Lib.hid hk1
      clear hk1
      go_wp2_with fail
      with_reducible refine (hvb _).mono ?_
      rintro e w2 ⟨rfl, hk2⟩
      have HK2 := Lib.hid (HK1.out.tr hk2)
      clear hk2 r0 r1 r2 r3 hva hvb
      obtain ⟨q0, q1, q2, q3⟩ := (HB.out.1.kp HK2.out id).two
      obtain ⟨r0, r1, r2, r3⟩ := (HB.out.2.1.kp HK2.out id).two
      obtain ⟨t0, t1, t2, t3⟩ := (HB.out.2.2.kp HK2.out id).two
      go_wp2
      exact bodyPost_ret (v := resV (0, 0, 1)) (by simp [results, Try.results15, go_sem, t0, t1]) rfl ⟨rfl, ((HK0.out.tr HK2.out).new (by omega) _ _).new (by omega) _ _⟩
  · rw [decide_eq_false ha] at hva
    rw [show mulR an ad bn bd = (0, 0, 1) from both_bad (fun h => ha h.1)]
    clear ha ha1 ha2 hb1 hb2
    go_enter Try.func15, Try.ntmps15
    go_wp2_with fail
    with_reducible refine (hva _).mono ?_
    rintro e w1 ⟨rfl, hk1⟩
    obtain ⟨r0, r1, r2, r3⟩ := (HB.out.2.1.kp hk1 id).two
    have HK1 := Lib.hid hk1
    clear hk1
    obtain ⟨t0, t1, t2, t3⟩ := (HB.out.2.2.kp HK1.out id).two
    go_wp2
    exact bodyPost_ret (v := resV (0, 0, 1)) (by simp [results, Try.results15, go_sem, t0, t1]) rfl ⟨rfl, ((HK0.out.tr HK1.out).new (by omega) _ _).new (by omega) _ _⟩

end Go.Proofs.Ythefkomalakfeaa.W
