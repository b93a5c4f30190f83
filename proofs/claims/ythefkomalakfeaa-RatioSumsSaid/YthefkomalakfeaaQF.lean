/-
  ratio.fraction: plus: what it returns. Condition: at most 100000 words.
-/
import Derived.Test.YthefkomalakfeaaQZ
import Derived.Deep.CutRange
namespace Go.Proofs.Ythefkomalakfeaa.W
open Go.RowKit Go.Proofs.Ythefkomalakfeaa.Q

/-- a rational number as the program holds it -/
def FQ (w : World) (v : Value) (q : Rat) : Prop := ∃ s A n c A2 n2 c2, v = .agg #[.bool s, .slice A n c, .slice A2 n2 c2] ∧ Is w (.slice A n c) q.num.natAbs ∧ (q.num ≠ 0 → (s = true ↔ q.num < 0)) ∧ Is w (.slice A2 n2 c2) q.den
theorem FQ.nw {w w' : World} {v : Value} {q : Rat} (h : FQ w v q) (hk : Nw w w') : FQ w' v q := by
  obtain ⟨s, A, n, c, A2, n2, c2, h1, h2, h3, h4⟩ := h
  exact ⟨s, A, n, c, A2, n2, c2, h1, h2.nw hk, h3, h4.nw hk⟩

/-- the numbers of an addition, as the program reckons them -/
theorem plus_way (q : Rat) (n d : Int) (h : Vld n d) :
    let r := Rat.divInt n d
    let D := d.natAbs
    let g := Nat.gcd q.den D
    let f := q.den / g
    let m := q.num * (D / g : Nat) + n * (f : Nat)
    let c := Nat.gcd m.natAbs g
    0 < D ∧ D ≤ 4611686018427387904 ∧ 0 < g ∧ g ≤ D ∧ 0 < f ∧ 0 < c ∧ c ≤ g ∧ (q + r).num.natAbs = m.natAbs / c ∧ ((q + r).num ≠ 0 → ((q + r).num < 0 ↔ m < 0)) ∧ (q + r).den = f * (D / c) := by
  intro r D g f m c
  obtain ⟨h1, h2, h3⟩ := good_div h
  obtain ⟨d1, d2⟩ := vld_d h
  have hD : r.den = D := by show (Rat.divInt n d).den = d.natAbs; omega
  obtain ⟨e1, e2⟩ := add_way q r
  rw [hD, show r.num = n from h1] at e1
  rw [hD, show r.num = n from h1] at e2
  have hg : 0 < g := Nat.gcd_pos_of_pos_left _ q.den_pos
  have hc : 0 < c := Nat.gcd_pos_of_pos_right _ hg
  have hcm : (c : Int) ∣ m := Int.ofNat_dvd_left.2 (Nat.gcd_dvd_left _ _)
  refine ⟨by omega, by omega, hg, Nat.gcd_le_right _ (by omega), Nat.div_pos (Nat.gcd_le_left _ q.den_pos) hg, hc, Nat.gcd_le_right _ hg, ?_, ?_, e2⟩
  · rw [e1, Int.natAbs_ediv_of_dvd hcm, Int.natAbs_natCast]
  · intro _
    rw [e1]
    obtain ⟨k, hk⟩ := hcm
    show m / (c : Int) < 0 ↔ m < 0
    have hp : (0 : Int) < c := by omega
    rw [hk, Int.mul_ediv_cancel_left _ (by omega), Int.mul_comm, mul_neg_pos hp]

theorem sgn_times {n : Int} {f : Nat} (hf : 0 < f) : (n * (f : Int)).natAbs = f * n.natAbs ∧ (n * (f : Int) ≠ 0 → (decide (n < 0) = true ↔ n * (f : Int) < 0)) := by
  refine ⟨by rw [Int.natAbs_mul, Int.natAbs_natCast, Nat.mul_comm], fun _ => ?_⟩
  rw [decide_eq_true_iff, mul_neg_pos (by omega)]
theorem sgn_scale {z : Int} {f : Nat} {s : Bool} (hf : 0 < f) (hs : z ≠ 0 → (s = true ↔ z < 0)) : (z * (f : Int)).natAbs = z.natAbs * f ∧ (z * (f : Int) ≠ 0 → (s = true ↔ z * (f : Int) < 0)) := by
  refine ⟨by rw [Int.natAbs_mul, Int.natAbs_natCast], fun h => ?_⟩
  rw [mul_neg_pos (by omega)]
  exact hs fun e => h (by rw [e, Int.zero_mul])

theorem blk2' (w : World) (t t' : TypeId) (a b : Array Value) : Blk ((w.alloc (.cells a t)).alloc (.cells b t')) w.heap.size t a ∧ Blk ((w.alloc (.cells a t)).alloc (.cells b t')) (w.heap.size + 1) t' b :=
  ⟨(Blk.new w t a).alloc _, Blk.new_at _ t' b (by simp)⟩
theorem Blk.three' {w : World} {g : Nat} {t : TypeId} {u v x : Value} (h : Blk w g t #[u, v, x]) : w.cell? ⟨g, 0, none⟩ = some u ∧ w.cell? ⟨g, 1, none⟩ = some v ∧ w.cell? ⟨g, 2, none⟩ = some x ∧ w.frozen? ⟨g, 0, none⟩ = false ∧ w.frozen? ⟨g, 1, none⟩ = false ∧ w.frozen? ⟨g, 2, none⟩ = false := h.three

theorem kp_three (w : World) (b : Nat) (x y z : Value) : Kp (fun k => k = b) w (((w.setCell ⟨b, 0, none⟩ x).setCell ⟨b, 1, none⟩ y).setCell ⟨b, 2, none⟩ z) := (kp_two w b x y).tr (kp_set _ b 2 z)
/-- three cells of a block that holds no words are laid -/
theorem Is.three_ {w0 w : World} {v : Value} {N g : Nat} {t : TypeId} {cs : Array Value} (h : Is w v N) (hb : Blk w0 g t cs) (hk : Nw w0 w) (x y z : Value) (ht : 48 ≠ t) : Is (((w.setCell ⟨g, 0, none⟩ x).setCell ⟨g, 1, none⟩ y).setCell ⟨g, 2, none⟩ z) v N := by
  refine h.kp (kp_three w g x y z) fun k c hc e => ?_
  subst e
  exact Blk.ne_ hc (hb.kp hk id) ht rfl
theorem k3cell (w : World) {b p i : Nat} (x y z : Value) (hp : p < w.heap.size) (hb : p ≠ b) : (((w.setCell ⟨b, 0, none⟩ x).setCell ⟨b, 1, none⟩ y).setCell ⟨b, 2, none⟩ z).cell? ⟨p, i, none⟩ = w.cell? ⟨p, i, none⟩ := (kp_three w b x y z).cell (p := ⟨p, i, none⟩) hp hb

set_option maxRecDepth 100000 in
set_option maxHeartbeats 6400000 in
theorem fplus_any (q : Rat) (n d : Int) (v : Value) (w : World) (hv : Vld n d) (hq : FQ w v q) (hfew : Few ((q.num.natAbs + q.den) * 4611686018427387904)) :
    Calls Try.prog 50 #[v, raV n d] w fun e w' => ∃ v', e = .returned v' ∧ FQ w' v' (q + Rat.divInt n d) ∧ Nw w w' := by
  obtain ⟨s, A, k, c, A2, k2, c2, rfl, hX, hs, hD⟩ := hq
  obtain ⟨n1, n2⟩ := vld_n hv
  obtain ⟨d1, d2⟩ := vld_d hv
  have e1 : IntKind.u64.wrap d = (d.natAbs : Int) := by rw [IntKind.wrap_u64]; omega
  obtain ⟨D, hDD⟩ : ∃ D, d.natAbs = D := ⟨_, rfl⟩
  have hway := plus_way q n d hv
  simp only [hDD] at hway
  obtain ⟨D1, D2, g1, g2, f1, c1, c2', wn, ws, wd⟩ := hway
  rw [hDD] at e1
  have hgm : Nat.gcd (q.den % D) D = Nat.gcd q.den D := by rw [← Nat.gcd_rec, Nat.gcd_comm]
  have hmod := fun w1 h1 => mod_any q.den D (.slice A2 k2 c2) w1 h1 (hfew.mono (by omega)) D1 (by omega)
  have hgcd := fun w1 => gcd_any (q.den % D) D (by unfold U64; have := Nat.mod_lt q.den D1; omega) (by unfold U64; omega) w1
  rw [hgm] at hgcd
  obtain ⟨g, hg⟩ : ∃ g, Nat.gcd q.den D = g := ⟨_, rfl⟩
  simp only [hg] at hgcd g1 g2 f1 c1 c2' wn ws wd
  have hover := fun w1 h1 => over_any q.den g (.slice A2 k2 c2) w1 h1 (hfew.mono (by omega)) g1 (by omega)
  obtain ⟨f, hf⟩ : ∃ f, q.den / g = f := ⟨_, rfl⟩
  have hfle : f ≤ q.den := by rw [← hf]; exact Nat.div_le_self _ _
  rw [hf] at hover
  simp only [hf] at f1 c1 c2' wn ws wd
  obtain ⟨m0, hm0⟩ : ∃ m0, q.den % D = m0 := ⟨_, rfl⟩
  rw [hm0] at hgcd
  simp only [hm0] at hmod
  obtain ⟨b0, b1, b2⟩ : Blk (((w.alloc (.cells #[.bool s, .slice A k c, .slice A2 k2 c2] 62)).alloc (.cells #[.int .i64 n, .int .i64 d] 23)).alloc (.cells #[.bool false, .slice none 0 0, .slice none 0 0] 62)) w.heap.size 62 #[.bool s, .slice A k c, .slice A2 k2 c2] ∧ Blk (((w.alloc (.cells #[.bool s, .slice A k c, .slice A2 k2 c2] 62)).alloc (.cells #[.int .i64 n, .int .i64 d] 23)).alloc (.cells #[.bool false, .slice none 0 0, .slice none 0 0] 62)) (w.heap.size + 1) 23 #[.int .i64 n, .int .i64 d] ∧ Blk (((w.alloc (.cells #[.bool s, .slice A k c, .slice A2 k2 c2] 62)).alloc (.cells #[.int .i64 n, .int .i64 d] 23)).alloc (.cells #[.bool false, .slice none 0 0, .slice none 0 0] 62)) (w.heap.size + 2) 62 #[.bool false, .slice none 0 0, .slice none 0 0] :=
    ⟨((Blk.new w _ _).alloc _).alloc _, (Blk.new_at (w.alloc _) _ _ (by simp)).alloc _, Blk.new_at ((w.alloc _).alloc _) _ _ (by simp)⟩
  have HB := Lib.hid (And.intro b0 (And.intro b1 b2))
  have HX := Lib.hid hX
  have HD := Lib.hid hD
  have HK0 := Lib.hid (((nw_alloc w (.cells #[.bool s, .slice A k c, .slice A2 k2 c2] 62)).alloc (.cells #[.int .i64 n, .int .i64 d] 23)).alloc (.cells #[.bool false, .slice none 0 0, .slice none 0 0] 62))
  have HS := Lib.hid hs
  have HW := Lib.hid (And.intro wn (And.intro ws (And.intro wd (And.intro D1 (And.intro D2 (And.intro g1 (And.intro g2 (And.intro f1 (And.intro c1 c2')))))))))
  have HF := Lib.hid hfew
  have HFL := Lib.hid hfle
  have HNB := Lib.hid (And.intro n1 n2)
  clear b0 b1 b2 hX hD hs wn ws wd D1 D2 g1 g2 f1 c1 c2' hfew hfle n1 n2 d1 d2 hDD hgm hg hf hm0
  go_enter Try.func50, Try.ntmps50
  go_wp2_with fail
  refine (hmod _ (HD.out.nw HK0.out)).mono ?_
  rintro e w1 ⟨rfl, hk1⟩
  have HK1 := Lib.hid hk1
  clear hk1 hmod
  go_wp2_with fail
  with_reducible refine (hgcd _).mono ?_
  rintro e w2 ⟨rfl, kk, hw2⟩
  have HK2 := Lib.hid (HK1.out.tr (show Nw w1 w2 by rw [hw2]; exact nw_drewN _ _))
  clear hw2 hgcd HK1
  obtain ⟨_, _, q2, _⟩ := Blk.three (HB.out.1.kp HK2.out id)
  go_wp2_with fail
  refine (hover _ (HD.out.nw (HK0.out.tr HK2.out))).mono ?_
  rintro e w3 ⟨v3, rfl, hF3, hk3⟩
  obtain ⟨A3, k3, c3, rfl⟩ := hF3.shape
  have HF3 := Lib.hid hF3
  have HK3 := Lib.hid (HK2.out.tr hk3)
  clear q2 hk3 hover HK2 hF3
  obtain ⟨s1, es1⟩ : ∃ b, decide (n < 0) = b := ⟨_, rfl⟩
  have hmag := fun w1 => magnitude_any n (by have := HNB.out; exact ⟨by omega, by omega⟩) w1
  have htm := fun w1 h1 => times_any f n.natAbs (.slice A3 k3 c3) w1 h1 (HF.out.mono (by have := HFL.out; omega)) (by have := HNB.out; omega)
  obtain ⟨r0, r1, _, _⟩ := (HB.out.2.1.kp HK3.out id).two
  have l1 := (HB.out.2.1.kp HK3.out id).lt
  obtain ⟨W0, hW0⟩ : ∃ W0, ((w.alloc (.cells #[.bool s, .slice A k c, .slice A2 k2 c2] 62)).alloc (.cells #[.int .i64 n, .int .i64 d] 23)).alloc (.cells #[.bool false, .slice none 0 0, .slice none 0 0] 62) = W0 := ⟨_, rfl⟩
  rw [hW0] at HB HK0 HK3
  have hsz : W0.heap.size = w.heap.size + 3 := by rw [← hW0]; simp
  have HSZ := Lib.hid hsz
  clear hsz hW0
  go_upto_region 4 with fail
  go_cut [8] from 24 to 32 (fun p wx => ∃ B A4 k4 c4, p = .pointer (some ⟨B, 0, none⟩) ∧ Blk wx B 60 #[.bool s1, .slice A4 k4 c4] ∧ Is wx (.slice A4 k4 c4) (f * n.natAbs) ∧ w3.heap.size ≤ B ∧ Nw w3 wx)
  case first =>
    go_region_held3 (fun w' : World => w'.cell? (⟨w.heap.size + 1, 0, none⟩ : Addr) = some (.int .i64 n))
      (first | exact r0 | exact m0 | exact ((nw_alloc w4 _).cell (p := ⟨w.heap.size + 1, 0, none⟩) l4 (fun e => e)).trans m0 | exact (((nw_alloc w3 _).drew).cell (p := ⟨w.heap.size + 1, 0, none⟩) l1 (fun e => e)).trans r0 | exact ((nw_alloc w3 _).cell (p := ⟨w.heap.size + 1, 0, none⟩) l1 (fun e => e)).trans r0 | exact (kcell w4 _ _ l4 (Nat.ne_of_lt l1)).trans m0 | fail)
      (first
        | (go_at_call 41; ((with_reducible refine (hmag _).mono ?_); rintro e w4 ⟨rfl, rfl⟩))
        | (go_at_call 64; ((with_reducible refine (htm _ (HF3.out.nw (Kp.drew (Kp.refl _ _)))).mono ?_); rintro e w4 ⟨v4, rfl, hF4, hk4⟩; obtain ⟨A4, k4, c4, rfl⟩ := hF4.shape; have hb4 : Nw w3 w4 := (Kp.drew (Kp.refl _ _)).tr hk4; have m0 := (hb4.cell (p := ⟨w.heap.size + 1, 0, none⟩) l1 (fun e => e)).trans r0; have l4 := Nat.lt_of_lt_of_le l1 hb4.size))
        | (go_at_call 64; ((with_reducible refine (htm _ (HF3.out.nw (nw_alloc w3 _).drew)).mono ?_); rintro e w4 ⟨v4, rfl, hF4, hk4⟩; obtain ⟨A4, k4, c4, rfl⟩ := hF4.shape; have hb4 : Nw w3 w4 := ((nw_alloc w3 _).drew).tr hk4; have m0 := (hb4.cell (p := ⟨w.heap.size + 1, 0, none⟩) l1 (fun e => e)).trans r0; have l4 := Nat.lt_of_lt_of_le l1 hb4.size; have hb8 := (Blk.drew (Blk.new w3 60 #[.bool false, .slice none 0 0])).kp hk4 (fun e => e); obtain ⟨t0, t1, t2, t3⟩ := hb8.two)))
    · go_wp2_with fail
      go_meet
      case rel => exact ⟨_, A4, k4, c4, rfl, Blk.new w4 _ _, hF4.nw (nw_alloc _ _), hb4.size, hb4.alloc _⟩
    · go_wp2_with fail
      go_meet
      case rel => exact ⟨_, A4, k4, c4, rfl, hb8.lay2 _ _, hF4.two_ hb8 (Kp.refl _ _) _ _ (by decide), Nat.le_refl _, (hb4.new (Nat.le_refl _) _ _).new (Nat.le_refl _) _ _⟩
    · go_wp2_with fail
      go_meet
      case rel => exact ⟨_, A4, k4, c4, rfl, hb8.lay2 _ _, hF4.two_ hb8 (Kp.refl _ _) _ _ (by decide), Nat.le_refl _, (hb4.new (Nat.le_refl _) _ _).new (Nat.le_refl _) _ _⟩
  case rest =>
    obtain ⟨B, A4, k4, c4, rfl, hb, hF4, hB, hkc⟩ := hcut
    generalize wc = w5 at *
    have HFc := Lib.hid (HF3.out.nw hkc)
    have HKc := Lib.hid (HK3.out.tr hkc)
    have HTM := Lib.hid hF4
    have HBB := Lib.hid (Nat.le_trans (Nat.le_trans HK3.out.size hB) (Nat.le_refl B))
    have HXc := Lib.hid ((HX.out.nw (HK0.out.tr HKc.out)))
    clear hkc hF4 hB r0 r1 l1 hmag htm
    obtain ⟨ka0, ka1, _, _, _, _⟩ := Blk.three (HB.out.1.kp HKc.out id)
    obtain ⟨kb0, kb1, _, _⟩ := hb.two
    have l1 := (HB.out.1.kp HKc.out id : Blk w5 _ _ _).lt
    have l2 := hb.lt
    have HBc := Lib.hid hb
    clear hb
    have hP : ∀ w' : World, Nw w5 w' → w'.cell? (⟨w.heap.size, 0, none⟩ : Addr) = some (.bool s) ∧ w'.cell? (⟨w.heap.size, 1, none⟩ : Addr) = some (.slice A k c) ∧ w'.cell? (⟨B, 0, none⟩ : Addr) = some (.bool s1) ∧ w'.cell? (⟨B, 1, none⟩ : Addr) = some (.slice A4 k4 c4) :=
      fun w' h => ⟨(h.cell (p := ⟨w.heap.size, 0, none⟩) l1 id).trans ka0, (h.cell (p := ⟨w.heap.size, 1, none⟩) l1 id).trans ka1, (h.cell (p := ⟨B, 0, none⟩) l2 id).trans kb0, (h.cell (p := ⟨B, 1, none⟩) l2 id).trans kb1⟩
    have HP := Lib.hid hP
    clear hP
    have hz : ¬ g = 0 := by have := HW.out.2.2.2.2.2.1; omega
    have hdv := divU' D g (by have := HW.out.2.2.2.2.1; omega)
    obtain ⟨u, hu⟩ : ∃ u, D / g = u := ⟨_, rfl⟩
    rw [hu] at hdv
    have hu0 : 0 < u := by rw [← hu]; exact Nat.div_pos HW.out.2.2.2.2.2.2.1 HW.out.2.2.2.2.2.1
    have hule : u ≤ 4611686018427387904 := by rw [← hu]; exact Nat.le_trans (Nat.div_le_self _ _) HW.out.2.2.2.2.1
    have hit := fun w1 h1 => itimes_any s (.slice A k c) q.num.natAbs u w1 h1 (HF.out.mono (by omega)) (by omega)
    -- the two terms
    have z1 := sgn_scale (z := q.num) (f := u) hu0 HS.out
    have z2 := sgn_times (n := n) (f := f) HW.out.2.2.2.2.2.2.2.1
    rw [es1] at z2
    have HU := Lib.hid hu
    have HUL := Lib.hid hule
    have HNA := Lib.hid (show n.natAbs ≤ 4611686018427387904 by have := HNB.out; omega)
    clear hu hu0 hule
    have hip := fun A6 k6 c6 w1 h1 h2 => iplus_any (q.num * (u : Int)) (n * (f : Int)) (.agg #[.bool s, .slice A6 k6 c6]) (.agg #[.bool s1, .slice A4 k4 c4]) w1 h1 h2 (by rw [z1.1]; exact HF.out.mono (Nat.le_trans (Nat.mul_le_mul_left _ HUL.out) (Nat.mul_le_mul_right _ (Nat.le_add_right _ _)))) (by rw [z2.1]; exact HF.out.mono (Nat.le_trans (Nat.mul_le_mul HFL.out HNA.out) (Nat.mul_le_mul_right _ (Nat.le_add_left _ _))))
    have hiz1 : ∀ w1 A6 k6 c6, Is w1 (.slice A6 k6 c6) (q.num.natAbs * u) → IZ w1 (.agg #[.bool s, .slice A6 k6 c6]) (q.num * (u : Int)) := fun w1 A6 k6 c6 h => ⟨s, A6, k6, c6, rfl, by rw [z1.1]; exact h, z1.2⟩
    have hiz2 : ∀ w1, Nw w5 w1 → IZ w1 (.agg #[.bool s1, .slice A4 k4 c4]) (n * (f : Int)) := fun w1 h => ⟨s1, A4, k4, c4, rfl, by rw [z2.1]; exact HTM.out.nw h, z2.2⟩
    have HZ1 := Lib.hid hiz1
    have HZ2 := Lib.hid hiz2
    have HIP := Lib.hid hip
    clear z1 z2 hiz1 hiz2 hip
    go_upto_region 5 with fail
    go_cut [9] from 33 to 40 (fun p wx => ∃ B9 s9 A9 k9 c9, p = .pointer (some ⟨B9, 0, none⟩) ∧ Blk wx B9 60 #[.bool s9, .slice A9 k9 c9] ∧ Is wx (.slice A9 k9 c9) (q.num * (u : Int) + n * (f : Int)).natAbs ∧ (q.num * (u : Int) + n * (f : Int) ≠ 0 → (s9 = true ↔ q.num * (u : Int) + n * (f : Int) < 0)) ∧ w5.heap.size ≤ B9 ∧ Nw w5 wx)
    case first =>
      go_region_held3 (fun w' : World => w'.cell? (⟨w.heap.size, 0, none⟩ : Addr) = some (.bool s) ∧ w'.cell? (⟨w.heap.size, 1, none⟩ : Addr) = some (.slice A k c) ∧ w'.cell? (⟨B, 0, none⟩ : Addr) = some (.bool s1) ∧ w'.cell? (⟨B, 1, none⟩ : Addr) = some (.slice A4 k4 c4))
        (first | exact HP.out _ (Kp.refl _ _) | exact HP.out _ (Kp.drew (Kp.refl _ _)) | exact HP.out _ hb6 | exact HP.out _ hb7 | exact HP.out _ (nw_alloc w5 _).drew | exact HP.out _ (nw_alloc w5 _) | exact HP.out _ (hb6.alloc _) | exact HP.out _ (hb7.alloc _) | exact HP.out _ ((hb7.new (Nat.le_refl _) _ _).new (Nat.le_refl _) _ _) | exact HP.out _ ((hb7.new hb6.size _ _).new hb6.size _ _) | fail)
        (first
          | (go_at_call 65; ((with_reducible refine (hit _ (HXc.out.nw (Kp.drew (Kp.refl _ _)))).mono ?_); rintro e w6 ⟨v6, rfl, hF6, hk6⟩; obtain ⟨A6, k6, c6, rfl⟩ := hF6.shape; have hb6 : Nw w5 w6 := (Kp.drew (Kp.refl _ _)).tr hk6))
          | (go_at_call 65; ((with_reducible refine (hit _ (HXc.out.nw (nw_alloc w5 _).drew)).mono ?_); rintro e w6 ⟨v6, rfl, hF6, hk6⟩; obtain ⟨A6, k6, c6, rfl⟩ := hF6.shape; have hb6 : Nw w5 w6 := ((nw_alloc w5 _).drew).tr hk6; have hb8 := (Blk.drew (Blk.new w5 60 #[.bool false, .slice none 0 0])).kp hk6 (fun e => e)))
          | (go_at_call 66; ((with_reducible refine (HIP.out _ _ _ _ (HZ1.out _ _ _ _ hF6) (HZ2.out _ hb6)).mono ?_); rintro e w7 ⟨v7, rfl, ⟨s9, A9, k9, c9, rfl, hF9, hs9⟩, hk7⟩; have hb7 : Nw w5 w7 := hb6.tr hk7; try (have hb8 := hb8.kp hk7 (fun e => e); obtain ⟨t0, t1, t2, t3⟩ := hb8.two)))
          | (go_at_call 66; ((with_reducible refine (HIP.out _ _ _ _ (HZ1.out _ _ _ _ (hF6.nw (nw_alloc w6 _))) (HZ2.out _ (hb6.alloc _))).mono ?_); rintro e w7 ⟨v7, rfl, ⟨s9, A9, k9, c9, rfl, hF9, hs9⟩, hk7⟩; have hb7 : Nw w5 w7 := (hb6.alloc _).tr hk7; have hb8 := (Blk.new w6 60 #[.bool false, .slice none 0 0]).kp hk7 (fun e => e); obtain ⟨t0, t1, t2, t3⟩ := hb8.two)))
      · go_wp2_with fail
        go_meet
        case rel => exact ⟨_, s9, A9, k9, c9, rfl, Blk.new w7 _ _, hF9.nw (nw_alloc _ _), hs9, hb7.size, hb7.alloc _⟩
      · go_wp2_with fail
        go_meet
        case rel => exact ⟨_, s9, A9, k9, c9, rfl, hb8.lay2 _ _, hF9.two_ hb8 (Kp.refl _ _) _ _ (by decide), hs9, hb6.size, (hb7.new hb6.size _ _).new hb6.size _ _⟩
      · go_wp2_with fail
        go_meet
        case rel => exact ⟨_, s9, A9, k9, c9, rfl, hb8.lay2 _ _, hF9.two_ hb8 (Kp.refl _ _) _ _ (by decide), hs9, Nat.le_refl _, (hb7.new (Nat.le_refl _) _ _).new (Nat.le_refl _) _ _⟩
    case rest =>
      obtain ⟨B9, s9, A9, k9, c9, rfl, hb9, hF9, hs9, hB9, hkc⟩ := hcut
      generalize wc = w6 at *
      have hww := HW.out
      rw [HU.out] at hww
      obtain ⟨wn, ws, wd, D1, D2, g1, g2, f1, c1, c2'⟩ := hww
      obtain ⟨M, hM⟩ : ∃ M : Int, q.num * (u : Int) + n * (f : Int) = M := ⟨_, rfl⟩
      simp only [hM] at wn ws wd c1 c2' hF9 hs9
      obtain ⟨cc, hcc⟩ : ∃ x, Nat.gcd M.natAbs g = x := ⟨_, rfl⟩
      simp only [hcc] at wn wd c1 c2'
      have hMle : M.natAbs ≤ (q.num.natAbs + q.den) * 4611686018427387904 := by
        rw [← hM, Nat.add_mul]
        refine Nat.le_trans (Int.natAbs_add_le _ _) ?_
        rw [Int.natAbs_mul, Int.natAbs_mul, Int.natAbs_natCast, Int.natAbs_natCast, Nat.mul_comm n.natAbs]
        exact Nat.add_le_add (Nat.mul_le_mul_left _ HUL.out) (Nat.mul_le_mul HFL.out HNA.out)
      have hmod := fun w1 h1 => mod_any M.natAbs g (.slice A9 k9 c9) w1 h1 (HF.out.mono hMle) g1 (by omega)
      have hgcd := fun w1 => gcd_any (M.natAbs % g) g (by unfold U64; have := Nat.mod_lt M.natAbs g1; omega) (by unfold U64; omega) w1
      rw [show Nat.gcd (M.natAbs % g) g = cc by rw [← Nat.gcd_rec, Nat.gcd_comm, hcc]] at hgcd
      have hover := fun w1 h1 => over_any M.natAbs cc (.slice A9 k9 c9) w1 h1 (HF.out.mono hMle) c1 (by omega)
      obtain ⟨m6, hm6⟩ : ∃ x, M.natAbs % g = x := ⟨_, rfl⟩
      simp only [hm6] at hmod hgcd
      have hz2 : ¬ cc = 0 := by omega
      have hdv2 := divU' D cc (by omega)
      obtain ⟨u2, hu2⟩ : ∃ x, D / cc = x := ⟨_, rfl⟩
      rw [hu2] at hdv2 wd
      have hu2le : u2 ≤ 4611686018427387904 := by rw [← hu2]; exact Nat.le_trans (Nat.div_le_self _ _) D2
      have htm := fun w1 h1 => times_any f u2 (.slice A3 k3 c3) w1 h1 (HF.out.mono (by have := HFL.out; omega)) (by omega)
      have HK6 := Lib.hid hkc
      have H9 := Lib.hid hF9
      have HB9 := Lib.hid hb9
      have HWW := Lib.hid (And.intro wn (And.intro ws wd))
      have HS9 := Lib.hid hs9
      have HB9L := Lib.hid hB9
      obtain ⟨_, q1, _, _⟩ := hb9.two
      clear hkc hF9 hb9 wn ws wd hs9 hMle hm6 hu2 hu2le D1 D2 g1 g2 f1 c1 c2' hM hcc hB9
      go_wp2_with fail
      refine (hmod _ H9.out).mono ?_
      rintro e w7 ⟨rfl, hk7⟩
      have HK7 := Lib.hid hk7
      clear hk7 hmod q1
      go_wp2_with fail
      with_reducible refine (hgcd _).mono ?_
      rintro e w8 ⟨rfl, kk8, hw8⟩
      have HK8 := Lib.hid (HK7.out.tr (show Nw w7 w8 by rw [hw8]; exact nw_drewN _ _))
      clear hw8 hgcd HK7
      have HK08 := Lib.hid ((HKc.out.tr HK6.out).tr HK8.out)
      have HR8 := Lib.hid (HB.out.2.2.kp HK08.out id)
      have H98 := Lib.hid (H9.out.nw HK8.out)
      have HF8 := Lib.hid (HFc.out.nw (HK6.out.tr HK8.out))
      obtain ⟨q0, q1, _, _⟩ := (HB9.out.kp HK8.out id).two
      have l9 := (HB9.out.kp HK8.out id : Blk w8 _ _ _).lt
      have l10 : B9 ≠ w.heap.size + 2 := by have := HB9L.out; have := (HKc.out).size; have := HSZ.out; omega
      have hP : ∀ w' : World, Nw w8 w' → w'.cell? (⟨B9, 0, none⟩ : Addr) = some (.bool s9) ∧ w'.cell? (⟨B9, 1, none⟩ : Addr) = some (.slice A9 k9 c9) :=
        fun w' h => ⟨(h.cell (p := ⟨B9, 0, none⟩) l9 id).trans q0, (h.cell (p := ⟨B9, 1, none⟩) l9 id).trans q1⟩
      have HP8 := Lib.hid hP
      have hQ : ∀ w' : World, Nw w8 w' → ∀ x y z : Value, (((w'.setCell ⟨w.heap.size + 2, 0, none⟩ x).setCell ⟨w.heap.size + 2, 1, none⟩ y).setCell ⟨w.heap.size + 2, 2, none⟩ z).cell? (⟨B9, 0, none⟩ : Addr) = some (.bool s9) ∧ (((w'.setCell ⟨w.heap.size + 2, 0, none⟩ x).setCell ⟨w.heap.size + 2, 1, none⟩ y).setCell ⟨w.heap.size + 2, 2, none⟩ z).cell? (⟨B9, 1, none⟩ : Addr) = some (.slice A9 k9 c9) :=
        fun w' h x y z => ⟨(k3cell w' x y z (Nat.lt_of_lt_of_le l9 h.size) l10).trans (hP w' h).1, (k3cell w' x y z (Nat.lt_of_lt_of_le l9 h.size) l10).trans (hP w' h).2⟩
      have HQ8 := Lib.hid hQ
      clear hP hQ q0 q1 hit
      go_upto_region 7 with fail
      go_region_held3 (fun w' : World => w'.cell? (⟨B9, 0, none⟩ : Addr) = some (.bool s9) ∧ w'.cell? (⟨B9, 1, none⟩ : Addr) = some (.slice A9 k9 c9))
        (first | exact HP8.out _ (Kp.refl _ _) | exact HP8.out _ (Kp.drew (Kp.refl _ _)) | exact HP8.out _ hb | exact HQ8.out _ hb _ _ _ | fail)
        (first
          | (go_at_call 63; ((with_reducible refine (hover _ (H98.out.nw (Kp.drew (Kp.refl _ _)))).mono ?_); rintro e wa ⟨va, rfl, hFa, hka⟩; obtain ⟨Aa, ka, ca, rfl⟩ := hFa.shape; have hb : Nw w8 wa := (Kp.drew (Kp.refl _ _)).tr hka))
          | (go_at_call 64; ((with_reducible refine (htm _ (HF8.out.nw (Kp.drew (Kp.refl _ _)))).mono ?_); rintro e wb ⟨vb, rfl, hFb, hkb⟩; obtain ⟨Ab, kb, cb, rfl⟩ := hFb.shape; have hb : Nw w8 wb := (Kp.drew (Kp.refl _ _)).tr hkb))
          | (go_at_call 64; ((with_reducible refine (htm _ (HF8.out.nw hb)).mono ?_); rintro e wb ⟨vb, rfl, hFb, hkb⟩; obtain ⟨Ab, kb, cb, rfl⟩ := hFb.shape; have hb : Nw w8 wb := hb.tr hkb; have hFa := hFa.nw hkb; obtain ⟨t0, t1, t2, t3, t4, t5⟩ := Blk.three (HR8.out.kp hb id)))
          | (go_at_call 63; ((with_reducible refine (hover _ (H98.out.nw hb)).mono ?_); rintro e wa ⟨va, rfl, hFa, hka⟩; obtain ⟨Aa, ka, ca, rfl⟩ := hFa.shape; have hb : Nw w8 wa := hb.tr hka; have hFb := hFb.nw hka; obtain ⟨t0, t1, t2, t3, t4, t5⟩ := Blk.three (HR8.out.kp hb id))))
      go_wp2
      refine bodyPost_ret (v := .agg #[.bool s9, .slice Aa ka ca, .slice Ab kb cb]) (by simp [results, Try.results50, go_sem, t0, t1, t2]) rfl ⟨_, rfl, ⟨s9, Aa, ka, ca, Ab, kb, cb, rfl, ?_, ?_, ?_⟩, ?_⟩
      · rw [HWW.out.1]
        exact hFa.three_ HR8.out hb _ _ _ (by decide)
      · intro h
        refine (HS9.out fun hM => ?_).trans (HWW.out.2.1 h).symm
        have h0 := HWW.out.1
        rw [hM, Int.natAbs_zero, Nat.zero_div] at h0
        exact h (Int.natAbs_eq_zero.1 h0)
      · rw [HWW.out.2.2]
        exact hFb.three_ HR8.out hb _ _ _ (by decide)
      · exact ((((HK0.out.tr HK08.out).tr hb).new (by omega) _ _).new (by omega) _ _).new (by omega) _ _
end Go.Proofs.Ythefkomalakfeaa.W
