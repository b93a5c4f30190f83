/-
  The reference's plus: what it returns. Condition: few digits; denominators are not 0.
-/
import Derived.Test.YthefkomalakfeaaRNk
namespace Go.Proofs.Ythefkomalakfeaa.W
open Go.RowKit Go.Proofs.Ythefkomalakfeaa.Q

/-- the sum's sign and size before it is brought into lowest terms -/
def plusN (s : Bool) (P : Nat) (t : Bool) (R : Nat) : Bool × Nat := if s == t then (s, P + R) else if R ≤ P then (s, P - R) else (t, R - P)

set_option maxRecDepth 100000 in
set_option maxHeartbeats 6400000 in
theorem refPlus_any (s t : Bool) (N D M E : Nat) (v u : Value) (w : World) (hv : BF w v s N D) (hu : BF w u t M E) (hD : 0 < D) (hE : 0 < E) (hF : FewD (3 * (N * E + M * D + D * E) + 2)) :
    ∀ sg z, plusN s (N * E) t (M * D) = (sg, z) → Calls Try.prog 39 #[v, u] w fun e w' => ∃ v', e = .returned v' ∧ BF w' v' (sg && decide (0 < z / Nat.gcd z (D * E))) (z / Nat.gcd z (D * E)) (D * E / Nat.gcd z (D * E)) ∧ Nw w w' := by
  intro sg z hz
  obtain ⟨A, n, c, A2, n2, c2, rfl, hN, hDD⟩ := hv
  obtain ⟨A3, n3, c3, A4, n4, c4, rfl, hM, hEE⟩ := hu
  have hQ0 := Nat.mul_pos hD hE
  have l1 : N ≤ N * E := Nat.le_mul_of_pos_right N hE
  have l2 : M ≤ M * D := Nat.le_mul_of_pos_right M hD
  have l3 : D ≤ D * E := Nat.le_mul_of_pos_right D hE
  have l4 : E ≤ D * E := Nat.le_mul_of_pos_left E hD
  have m1 := fun w1 h1 h2 => natMul_any N E (.slice A n c) (.slice A4 n4 c4) w1 h1 h2 (FewD.mono hF (by omega)) (FewD.mono hF (by omega))
  have m2 := fun w1 h1 h2 => natMul_any M D (.slice A3 n3 c3) (.slice A2 n2 c2) w1 h1 h2 (FewD.mono hF (by omega)) (FewD.mono hF (by omega))
  have m3 := fun w1 h1 h2 => natMul_any D E (.slice A2 n2 c2) (.slice A4 n4 c4) w1 h1 h2 (FewD.mono hF (by omega)) (FewD.mono hF (by omega))
  clear l1 l2 l3 l4
  generalize N * E = P at *
  generalize M * D = R at *
  generalize D * E = Q at *
  have FP : FewD P := FewD.mono hF (by omega)
  have FR : FewD R := FewD.mono hF (by omega)
  have hzl : z ≤ P + R := by
    unfold plusN at hz
    split at hz
    · injection hz with _ h; omega
    · split at hz
      · injection hz with _ h; omega
      · injection hz with _ h; omega
  have cl := fun v w1 h1 => refLowest_any sg z Q v w1 h1 hQ0 (FewD.mono hF (by omega))
  have ca := fun x y w1 h1 h2 => natAdd_any P R x y w1 h1 h2 FP FR
  have cc := fun x y w1 h1 h2 => natCmp_any P R x y w1 h1 h2 FP FR
  have cs := fun (hle : R ≤ P) x y w1 h1 h2 => natSub_any P R x y w1 h1 h2 FP hle
  have ct := fun (hle : P ≤ R) x y w1 h1 h2 => natSub_any R P x y w1 h1 h2 FR hle
  clear hF FP FR hzl hQ0 hD hE
  obtain ⟨b, hb⟩ : ∃ b, (s == t) = b := ⟨_, rfl⟩
  generalize z / Nat.gcd z Q = Z1 at *
  generalize Q / Nat.gcd z Q = Q1 at *
  obtain ⟨bb, hbb⟩ : ∃ bb, (sg && decide (0 < Z1)) = bb := ⟨_, rfl⟩
  rw [hbb] at cl ⊢
  clear hbb
  have HZ := Lib.hid hz
  have HCA := Lib.hid ca
  have HCC := Lib.hid cc
  have HCS := Lib.hid cs
  have HCT := Lib.hid ct
  have HCL := Lib.hid cl
  clear hz ca cc cs ct cl
  have hB := blk3 (w := w) (t := 45) (a := #[.bool s, .slice A n c, .slice A2 n2 c2]) (b := #[.bool t, .slice A3 n3 c3, .slice A4 n4 c4]) (c := #[.bool false, .slice none 0 0, .slice none 0 0])
  have HK0 := Lib.hid (((nw_alloc w (.cells #[.bool s, .slice A n c, .slice A2 n2 c2] 45)).alloc (.cells #[.bool t, .slice A3 n3 c3, .slice A4 n4 c4] 45)).alloc (.cells #[.bool false, .slice none 0 0, .slice none 0 0] 45))
  have HB := Lib.hid hB
  clear hB
  go_enter Try.func39, Try.ntmps39
  go_wp2_with fail
  generalize hw0 : ((w.alloc (.cells #[.bool s, .slice A n c, .slice A2 n2 c2] 45)).alloc (.cells #[.bool t, .slice A3 n3 c3, .slice A4 n4 c4] 45)).alloc (.cells #[.bool false, .slice none 0 0, .slice none 0 0] 45) = w0
  rw [hw0] at HK0 HB
  clear hw0
  have HN := Lib.hid (hN.nw HK0.out)
  have HD := Lib.hid (hDD.nw HK0.out)
  have HM := Lib.hid (hM.nw HK0.out)
  have HE := Lib.hid (hEE.nw HK0.out)
  clear hN hDD hM hEE
  have hP : ∀ w' : World, Nw w0 w' → w'.cell? (⟨w.heap.size, 1, none⟩ : Addr) = some (.slice A n c) ∧ w'.cell? (⟨w.heap.size, 2, none⟩ : Addr) = some (.slice A2 n2 c2) ∧ w'.cell? (⟨w.heap.size + 1, 1, none⟩ : Addr) = some (.slice A3 n3 c3) ∧ w'.cell? (⟨w.heap.size + 1, 2, none⟩ : Addr) = some (.slice A4 n4 c4) := fun w' h => by
    obtain ⟨_, a, b, _⟩ := (HB.out.1.kp h id).three
    obtain ⟨_, d, e, _⟩ := (HB.out.2.1.kp h id).three
    exact ⟨a, b, d, e⟩
  have HP := Lib.hid hP
  obtain ⟨k0, k1, k2, k3⟩ := hP w0 (Kp.refl _ _)
  clear hP
  go_region_held3 (fun w' : World => w'.cell? (⟨w.heap.size, 1, none⟩ : Addr) = some (.slice A n c) ∧ w'.cell? (⟨w.heap.size, 2, none⟩ : Addr) = some (.slice A2 n2 c2) ∧ w'.cell? (⟨w.heap.size + 1, 1, none⟩ : Addr) = some (.slice A3 n3 c3) ∧ w'.cell? (⟨w.heap.size + 1, 2, none⟩ : Addr) = some (.slice A4 n4 c4))
    (first | exact HP.out _ (Kp.refl _ _) | exact HP.out _ (Kp.drew (Kp.refl _ _)) | exact HP.out _ hk | fail)
    (first
      | (go_at_call 45; ((with_reducible refine (m1 _ (HN.out.nw (Kp.drew (Kp.refl _ _))) (HE.out.nw (Kp.drew (Kp.refl _ _)))).mono ?_); rintro e w1 ⟨v1, rfl, hj1, hk1⟩; obtain ⟨X, x, cx, rfl⟩ := hj1.shape; have hk : Nw w0 w1 := (Kp.drew (Kp.refl _ _)).tr hk1))
      | (go_at_call 45; ((with_reducible refine (m2 _ (HM.out.nw hk) (HD.out.nw hk)).mono ?_); rintro e w2 ⟨v2, rfl, hj2, hk2⟩; obtain ⟨Y, y, cy, rfl⟩ := hj2.shape; have hk : Nw w0 w2 := hk.tr hk2; have hj1 := hj1.nw hk2)))
  clear k0 k1 k2 k3
  have HK := Lib.hid hk
  have HX := Lib.hid hj1
  have HY := Lib.hid hj2
  clear hk hj1 hj2 hk1 hk2
  obtain ⟨p0, p1, p2, _⟩ := (HB.out.1.kp HK.out id).three
  obtain ⟨r0, r1, r2, _⟩ := (HB.out.2.1.kp HK.out id).three
  go_wp2_with fail
  refine (m3 _ (HD.out.nw HK.out) (HE.out.nw HK.out)).mono ?_
  rintro e w3 ⟨v3, rfl, hj3, hk3⟩
  obtain ⟨G, x3, c5, rfl⟩ := hj3.shape
  have HG := Lib.hid hj3
  have HX := Lib.hid (HX.out.nw hk3)
  have HY := Lib.hid (HY.out.nw hk3)
  have HK := Lib.hid (HK.out.tr hk3)
  clear p0 p1 p2 r0 r1 r2 hk3 hj3 m1 m2 m3
  have l0 := Nat.lt_of_lt_of_le HB.out.1.lt HK.out.size
  have l1 := Nat.lt_of_lt_of_le HB.out.2.1.lt HK.out.size
  have hP : ∀ w' : World, Nw w3 w' → w'.cell? (⟨w.heap.size, 0, none⟩ : Addr) = some (.bool s) ∧ w'.cell? (⟨w.heap.size + 1, 0, none⟩ : Addr) = some (.bool t) := fun w' h => by
    obtain ⟨a, _⟩ := (HB.out.1.kp (HK.out.tr h) id).three
    obtain ⟨d, _⟩ := (HB.out.2.1.kp (HK.out.tr h) id).three
    exact ⟨a, d⟩
  have hQ : ∀ w' : World, Nw w3 w' → ∀ x y z : Value, (((w'.setCell ⟨w.heap.size + 1 + 1, 0, none⟩ x).setCell ⟨w.heap.size + 1 + 1, 1, none⟩ y).setCell ⟨w.heap.size + 1 + 1, 2, none⟩ z).cell? (⟨w.heap.size, 0, none⟩ : Addr) = some (.bool s) ∧ (((w'.setCell ⟨w.heap.size + 1 + 1, 0, none⟩ x).setCell ⟨w.heap.size + 1 + 1, 1, none⟩ y).setCell ⟨w.heap.size + 1 + 1, 2, none⟩ z).cell? (⟨w.heap.size + 1, 0, none⟩ : Addr) = some (.bool t) := fun w' h x y z =>
    ⟨(k3cell w' x y z (Nat.lt_of_lt_of_le l0 h.size) (by omega)).trans (hP w' h).1, (k3cell w' x y z (Nat.lt_of_lt_of_le l1 h.size) (by omega)).trans (hP w' h).2⟩
  have HP := Lib.hid hP
  have HQ := Lib.hid hQ
  have HB3 := Lib.hid HB.out.2.2
  obtain ⟨p0, r0⟩ := hP w3 (Kp.refl _ _)
  clear hP hQ l0 l1
  have hlo : ∀ w1 v1, Js w1 v1 z → ∀ w2, Nw w1 w2 → Js w2 (.slice G x3 c5) Q → Calls Try.prog 52 #[.agg #[.bool sg, v1, .slice G x3 c5]] w2 fun e w' => ∃ v', e = .returned v' ∧ BF w' v' bb Z1 Q1 ∧ Nw w2 w' := fun w1 v1 h1 w2 hk h2 => by
    obtain ⟨a, b, c, rfl⟩ := h1.shape
    exact HCL.out _ w2 ⟨a, b, c, G, x3, c5, rfl, h1.nw hk, h2⟩
  have HLO := Lib.hid hlo
  clear hlo
  cases b
  · obtain ⟨q, hq⟩ : ∃ q, sgn ((P : Int) - R) = q := ⟨_, rfl⟩
    have HCC2 := HCC.out
    rw [hq] at HCC2
    have HC2 := Lib.hid HCC2
    by_cases hle : R ≤ P
    · have hzz : sg = s ∧ z = P - R := by
        have h := HZ.out
        unfold plusN at h
        rw [hb, if_neg (by decide), if_pos hle] at h
        injection h with h1 h2
        exact ⟨h1.symm, h2.symm⟩
      obtain ⟨rfl, rfl⟩ := hzz
      have hqq : decide (q ≥ 0) = true := decide_eq_true (by rw [← hq]; unfold sgn; split <;> (try split) <;> omega)
      clear hq HCC2
      go_wp2_with fail
      refine (HC2.out _ _ _ HX.out HY.out).mono ?_
      rintro e w9 ⟨rfl, hk9⟩
      have HG := Lib.hid (HG.out.nw hk9)
      have HX := Lib.hid (HX.out.nw hk9)
      have HY := Lib.hid (HY.out.nw hk9)
      have HK := Lib.hid (HK.out.tr hk9)
      have HP := Lib.hid fun w' h => HP.out w' (hk9.tr h)
      have HQ := Lib.hid fun w' h => HQ.out w' (hk9.tr h)
      obtain ⟨p0, r0⟩ := HP.out w9 (Kp.refl _ _)
      clear hk9
      go_wp2_with fail
      go_region_held3 (fun w' : World => w'.cell? (⟨w.heap.size, 0, none⟩ : Addr) = some (.bool sg) ∧ w'.cell? (⟨w.heap.size + 1, 0, none⟩ : Addr) = some (.bool t))
        (first | exact HP.out _ (Kp.refl _ _) | exact HP.out _ (Kp.drew (Kp.refl _ _)) | exact HP.out _ hk | exact HQ.out _ hk _ _ _ | fail)
        (first
          | (go_at_call 56; ((with_reducible refine (HCS.out hle _ _ _ (HX.out.nw (Kp.drew (Kp.refl _ _))) (HY.out.nw (Kp.drew (Kp.refl _ _)))).mono ?_); rintro e w4 ⟨v4, rfl, hj4, hk4⟩; obtain ⟨U, nu, cu, rfl⟩ := hj4.shape; have hk : Nw w9 w4 := (Kp.drew (Kp.refl _ _)).tr hk4))
          | (go_at_call 52; ((with_reducible refine (HLO.out _ _ hj4 _ (Kp.refl _ _) (HG.out.nw hk)).mono ?_); rintro e w5 ⟨v5, rfl, ⟨A6, n6, c6, A7, n7, c7, rfl, hj6, hj7⟩, hk5⟩; have hk : Nw w9 w5 := hk.tr hk5; obtain ⟨t0, t1, t2, t3, t4, t5⟩ := Blk.three (HB3.out.kp (HK.out.tr hk) id))))
      go_wp2
      refine bodyPost_ret (v := .agg #[.bool bb, .slice A6 n6 c6, .slice A7 n7 c7]) (by simp [results, Try.results39, go_sem, t0, t1, t2]) rfl ⟨_, rfl, ⟨A6, n6, c6, A7, n7, c7, rfl, hj6.three_ HB3.out (HK.out.tr hk) _ _ _ (by decide), hj7.three_ HB3.out (HK.out.tr hk) _ _ _ (by decide)⟩, ?_⟩
      exact (((HK0.out.tr (HK.out.tr hk)).new (by omega) _ _).new (by omega) _ _).new (by omega) _ _
    · have hzz : sg = t ∧ z = R - P := by
        have h := HZ.out
        unfold plusN at h
        rw [hb, if_neg (by decide), if_neg hle] at h
        injection h with h1 h2
        exact ⟨h1.symm, h2.symm⟩
      obtain ⟨rfl, rfl⟩ := hzz
      have hqq : decide (q ≥ 0) = false := decide_eq_false (by rw [← hq]; unfold sgn; split <;> (try split) <;> omega)
      clear hq HCC2
      go_wp2_with fail
      refine (HC2.out _ _ _ HX.out HY.out).mono ?_
      rintro e w9 ⟨rfl, hk9⟩
      have HG := Lib.hid (HG.out.nw hk9)
      have HX := Lib.hid (HX.out.nw hk9)
      have HY := Lib.hid (HY.out.nw hk9)
      have HK := Lib.hid (HK.out.tr hk9)
      have HP := Lib.hid fun w' h => HP.out w' (hk9.tr h)
      have HQ := Lib.hid fun w' h => HQ.out w' (hk9.tr h)
      obtain ⟨p0, r0⟩ := HP.out w9 (Kp.refl _ _)
      clear hk9
      go_wp2_with fail
      go_region_held3 (fun w' : World => w'.cell? (⟨w.heap.size, 0, none⟩ : Addr) = some (.bool s) ∧ w'.cell? (⟨w.heap.size + 1, 0, none⟩ : Addr) = some (.bool sg))
        (first | exact HP.out _ (Kp.refl _ _) | exact HP.out _ (Kp.drew (Kp.refl _ _)) | exact HP.out _ hk | exact HQ.out _ hk _ _ _ | fail)
        (first
          | (go_at_call 56; ((with_reducible refine (HCT.out (by omega) _ _ _ (HY.out.nw (Kp.drew (Kp.refl _ _))) (HX.out.nw (Kp.drew (Kp.refl _ _)))).mono ?_); rintro e w4 ⟨v4, rfl, hj4, hk4⟩; obtain ⟨U, nu, cu, rfl⟩ := hj4.shape; have hk : Nw w9 w4 := (Kp.drew (Kp.refl _ _)).tr hk4))
          | (go_at_call 52; ((with_reducible refine (HLO.out _ _ hj4 _ (Kp.refl _ _) (HG.out.nw hk)).mono ?_); rintro e w5 ⟨v5, rfl, ⟨A6, n6, c6, A7, n7, c7, rfl, hj6, hj7⟩, hk5⟩; have hk : Nw w9 w5 := hk.tr hk5; obtain ⟨t0, t1, t2, t3, t4, t5⟩ := Blk.three (HB3.out.kp (HK.out.tr hk) id))))
      go_wp2
      refine bodyPost_ret (v := .agg #[.bool bb, .slice A6 n6 c6, .slice A7 n7 c7]) (by simp [results, Try.results39, go_sem, t0, t1, t2]) rfl ⟨_, rfl, ⟨A6, n6, c6, A7, n7, c7, rfl, hj6.three_ HB3.out (HK.out.tr hk) _ _ _ (by decide), hj7.three_ HB3.out (HK.out.tr hk) _ _ _ (by decide)⟩, ?_⟩
      exact (((HK0.out.tr (HK.out.tr hk)).new (by omega) _ _).new (by omega) _ _).new (by omega) _ _
  · have hzz : sg = s ∧ z = P + R := by
      have h := HZ.out
      unfold plusN at h
      rw [hb] at h
      injection h with h1 h2
      exact ⟨h1.symm, h2.symm⟩
    obtain ⟨rfl, rfl⟩ := hzz
    go_wp2_with fail
    go_region_held3 (fun w' : World => w'.cell? (⟨w.heap.size, 0, none⟩ : Addr) = some (.bool sg) ∧ w'.cell? (⟨w.heap.size + 1, 0, none⟩ : Addr) = some (.bool t))
      (first | exact HP.out _ (Kp.refl _ _) | exact HP.out _ (Kp.drew (Kp.refl _ _)) | exact HP.out _ hk | exact HQ.out _ hk _ _ _ | fail)
      (first
        | (go_at_call 54; ((with_reducible refine (HCA.out _ _ _ (HX.out.nw (Kp.drew (Kp.refl _ _))) (HY.out.nw (Kp.drew (Kp.refl _ _)))).mono ?_); rintro e w4 ⟨v4, rfl, hj4, hk4⟩; obtain ⟨U, nu, cu, rfl⟩ := hj4.shape; have hk : Nw w3 w4 := (Kp.drew (Kp.refl _ _)).tr hk4))
        | (go_at_call 52; ((with_reducible refine (HLO.out _ _ hj4 _ (Kp.refl _ _) (HG.out.nw hk)).mono ?_); rintro e w5 ⟨v5, rfl, ⟨A6, n6, c6, A7, n7, c7, rfl, hj6, hj7⟩, hk5⟩; have hk : Nw w3 w5 := hk.tr hk5; obtain ⟨t0, t1, t2, t3, t4, t5⟩ := Blk.three (HB3.out.kp (HK.out.tr hk) id))))
    go_wp2
    refine bodyPost_ret (v := .agg #[.bool bb, .slice A6 n6 c6, .slice A7 n7 c7]) (by simp [results, Try.results39, go_sem, t0, t1, t2]) rfl ⟨_, rfl, ⟨A6, n6, c6, A7, n7, c7, rfl, hj6.three_ HB3.out (HK.out.tr hk) _ _ _ (by decide), hj7.three_ HB3.out (HK.out.tr hk) _ _ _ (by decide)⟩, ?_⟩
    exact (((HK0.out.tr (HK.out.tr hk)).new (by omega) _ _).new (by omega) _ _).new (by omega) _ _
end Go.Proofs.Ythefkomalakfeaa.W
