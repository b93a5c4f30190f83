/-
  arc: the law ArcCoarser: it returns true. No condition but that the arguments are ints.
-/
import Derived.Test.YtlogihcmmoldkaaK45
namespace Go.Proofs.Ytlogihcmmoldkaa.W
open Go.RowKit Go.Proofs.Ytlogihcmmoldkaa.V Go.Proofs.Ytlogihcmmoldkaa.A

theorem flatL_coarser {fx fy tx ty cx cy t s : Int} {cw : Bool} {l m : List Pt} (hts : t ≤ s) (hl : chainOk cw fx fy tx ty cx cy t l) (hm : chainOk cw fx fy tx ty cx cy s m) : (flatL cw fx fy tx ty cx cy m).Sublist (flatL cw fx fy tx ty cx cy l) := by
  unfold flatL
  refine List.Sublist.map _ ?_
  cases cw with
  | false => exact (ch_coarser hts (show Ch _ _ _ _ m from hm) hl).cons_cons _
  | true => exact ((ch_coarser hts (show Ch _ _ _ _ m from hm) hl).cons_cons _).reverse
theorem sub_step {c f : Pt} {cs fs : List Pt} (h : (c :: cs).Sublist (f :: fs)) : (f = c → cs.Sublist fs) ∧ (f ≠ c → (c :: cs).Sublist fs) := by
  cases h with
  | cons _ h => exact ⟨fun _ => (List.sublist_cons_self c cs).trans h, fun _ => h⟩
  | cons_cons _ h => exact ⟨fun _ => h, fun e => absurd rfl e⟩
theorem list_cells {w2 : World} {A : Option Addr} {n c : Nat} {L : List Pt} (h0 : 0 < n) (hn : L.length = n) (hs : SrcV w2 (.slice A L.length c) L) : ∃ g o, A = some ⟨g, o, none⟩ ∧ ∀ w', Nw w2 w' → ∀ (k : Nat) (x y : Int), L[k]? = some (x, y) → w'.cell? ⟨g, o + k * 2, none⟩ = some (.int .i64 x) ∧ w'.cell? ⟨g, o + k * 2 + 1, none⟩ = some (.int .i64 y) := by
  obtain ⟨g, o, hA, _, hc⟩ := src_at (src_n hs hn) h0
  refine ⟨g, o, hA, fun w' hw k x y hk => ?_⟩
  have hlt := (List.getElem?_eq_some_iff.1 hk).1
  have h := hc w' hw k (by omega)
  have e : G.at_ L k = (x, y) := G.at_of hk
  rw [e] at h
  exact h

set_option maxRecDepth 100000 in
set_option maxHeartbeats 12800000 in
theorem lawCoarse_any (fx fy tx ty cx cy t more : Int) (cw : Bool) (w : World) : Calls Try.prog 10 #[arV fx fy tx ty cx cy cw, .int .i64 t, .int .i64 more] w fun e w' => e = .returned (.bool true) ∧ Nw w w' := by
  have hmix := mixed7
  obtain ⟨W0, hW0⟩ : ∃ W, w.alloc (.cells (arC fx fy tx ty cx cy cw) 25) = W := ⟨_, rfl⟩
  have HB0 := Lib.hid (show Blk W0 w.heap.size 25 (arC fx fy tx ty cx cy cw) by rw [← hW0]; exact Blk.new _ _ _)
  have HNW := Lib.hid (show Nw w W0 by rw [← hW0]; exact nw_alloc _ _)
  obtain ⟨L, ec, M, ed, hf, hg, hcase⟩ : ∃ L ec M ed, FlatR 12 (arV fx fy tx ty cx cy cw) (.int .i64 t) L ec ∧ FlatR 12 (arV fx fy tx ty cx cy cw) (.int .i64 more) M ed ∧ ((ec ≠ 0 ∨ ed ≠ 0) ∨ (ec = 0 ∧ ed = 0 ∧ 0 < L.length ∧ 0 < M.length ∧ L.length ≤ 64032009 ∧ M.length ≤ 64032009 ∧ (t ≤ more → M.Sublist L))) := by
    rcases flat_two fx fy tx ty cx cy t cw with ⟨ec, hec, -, hf, -⟩ | ⟨hv, ht, l, hc, hf, -⟩ <;> rcases flat_two fx fy tx ty cx cy more cw with ⟨ed, hed, -, hg, -⟩ | ⟨hv2, ht2, m, hd, hg, -⟩
    · exact ⟨_, _, _, _, hf, hg, .inl (.inl hec)⟩
    · exact ⟨_, _, _, _, hf, hg, .inl (.inl hec)⟩
    · exact ⟨_, _, _, _, hf, hg, .inl (.inr hed)⟩
    · obtain ⟨D1, e1, F1⟩ := chain_pack hv ht hc
      obtain ⟨D2, e2, F2⟩ := chain_pack hv2 ht2 hd
      refine ⟨_, _, _, _, hf, hg, .inr ⟨rfl, rfl, ?_, ?_, ?_, ?_, fun h => flatL_coarser h hc hd⟩⟩
      · rw [e1, List.length_map]; have := F1.two; omega
      · rw [e2, List.length_map]; have := F2.two; omega
      · rw [e1, List.length_map]; exact F1.top
      · rw [e2, List.length_map]; exact F2.top
  unfold FlatR at hf hg
  have HC := Lib.hid hcase
  clear hcase
  go_enter Try.func10, Try.ntmps10
  go_upto_region 1 with fail
  try rw [hW0]
  clear hW0
  go_upto_region 3 with (first | (go_at_call 11; ((with_reducible refine (awakeA_any _).mono ?_); rintro e w1 ⟨rfl, k1⟩; have K1 := Lib.hid k1; clear k1)) | fail)
  have z0 := (HB0.out.nwA K1.out).cell 0
  have z1 := (HB0.out.nwA K1.out).cell 1
  have z2 := (HB0.out.nwA K1.out).cell 2
  have z3 := (HB0.out.nwA K1.out).cell 3
  have z4 := (HB0.out.nwA K1.out).cell 4
  have z5 := (HB0.out.nwA K1.out).cell 5
  have z6 := (HB0.out.nwA K1.out).cell 6
  go_upto_region 4 with (first | (go_at_call 12; refine (hf _).mono ?_; rintro e w2 ⟨v2, rfl, s2, k2⟩; (obtain ⟨A2, c2, rfl⟩ := s2.shape); have S2 := Lib.hid s2; have K2 := Lib.hid k2; clear s2 k2) | fail)
  clear z0 z1 z2 z3 z4 z5 z6 hf
  have HN2 := Lib.hid (K1.out.tr K2.out)
  have z0 := (HB0.out.nwA HN2.out).cell 0
  have z1 := (HB0.out.nwA HN2.out).cell 1
  have z2 := (HB0.out.nwA HN2.out).cell 2
  have z3 := (HB0.out.nwA HN2.out).cell 3
  have z4 := (HB0.out.nwA HN2.out).cell 4
  have z5 := (HB0.out.nwA HN2.out).cell 5
  have z6 := (HB0.out.nwA HN2.out).cell 6
  go_upto_region 5 with (first | (go_at_call 12; refine (hg _).mono ?_; rintro e w3 ⟨v3, rfl, s3, k3⟩; (obtain ⟨A3, c3, rfl⟩ := s3.shape); have S3 := Lib.hid s3; have K3 := Lib.hid k3; clear s3 k3) | fail)
  clear z0 z1 z2 z3 z4 z5 z6 hg
  have HN3 := Lib.hid (HN2.out.tr K3.out)
  have hcase := HC.out
  by_cases g1 : ec = 0
  · by_cases g2 : ed = 0
    · obtain ⟨-, -, l1, l2, l3, l4, hsub⟩ := hcase.resolve_left (by rintro (h | h); exact h g1; exact h g2)
      subst g1 g2
      by_cases g3 : more < t
      · have e3 : decide (more < t) = true := decide_eq_true g3
        clear hsub
        go_wp2_with fail
        go_ret
        exact ⟨rfl, HNW.out.tr HN3.out⟩
      · have e3 : decide (more < t) = false := decide_eq_false g3
        obtain ⟨n, hn⟩ : ∃ n, L.length = n := ⟨_, rfl⟩
        obtain ⟨m, hm⟩ : ∃ m, M.length = m := ⟨_, rfl⟩
        have HSUB := Lib.hid (hsub (by omega))
        obtain ⟨gL, oL, hA2, hcL⟩ := list_cells (by omega) hn S2.out
        obtain ⟨gM, oM, hA3, hcM⟩ := list_cells (by omega) hm S3.out
        subst hA2 hA3
        rw [hn, hm]
        have HCL := Lib.hid hcL
        have HCM := Lib.hid hcM
        have HN := Lib.hid hn
        have HM := Lib.hid hm
        rw [hn] at l1 l3
        rw [hm] at l2 l4
        clear hsub hcL hcM hn hm g3
        go_wp2_with fail
        go_loopw [11, 12] (fun x y wr => ∃ i j : Nat, x = .int .i64 j ∧ y = .int .i64 i ∧ i ≤ n ∧ j ≤ m ∧ (M.drop j).Sublist (L.drop i) ∧ Nw w3 wr) (fun x y _ => n - (intOf y).toNat)
        case atStart => exact ⟨0, 0, rfl, rfl, Nat.zero_le _, Nat.zero_le _, HSUB.out, Kp.refl _ _⟩
        case round =>
          obtain ⟨i, j, rfl, rfl, hi, hj, hsb, hnw⟩ := hrel
          have HSB := Lib.hid hsb
          have HK := Lib.hid hnw
          clear hsb hnw
          by_cases hin : i < n
          · have d1 : decide ((i : Int) < (n : Int)) = true := decide_eq_true (by omega)
            by_cases hjm : j < m
            · have d2 : decide ((j : Int) < (m : Int)) = true := decide_eq_true (by omega)
              have i0 : (0 : Int) ≤ (i : Int) := by omega
              have i1 : (i : Int) < (n : Int) := by omega
              have i2 : (0 : Int) ≤ (j : Int) := by omega
              have i3 : (j : Int) < (m : Int) := by omega
              have a1 : IntKind.i64.wrap ((i : Int) + 1) = ((i + 1 : Nat) : Int) := by rw [IntKind.wrap_i64]; omega
              have a2 : IntKind.i64.wrap ((j : Int) + 1) = ((j + 1 : Nat) : Int) := by rw [IntKind.wrap_i64]; omega
              obtain ⟨⟨ax, ay⟩, ha⟩ : ∃ p, L[i]? = some p := ⟨_, List.getElem?_eq_getElem (by rw [HN.out]; exact hin)⟩
              obtain ⟨⟨bx, bz⟩, hb⟩ : ∃ p, M[j]? = some p := ⟨_, List.getElem?_eq_getElem (by rw [HM.out]; exact hjm)⟩
              have st := HSB.out
              rw [List.drop_eq_getElem_cons (show i < L.length by rw [HN.out]; exact hin), List.drop_eq_getElem_cons (show j < M.length by rw [HM.out]; exact hjm), (List.getElem?_eq_some_iff.1 ha).2, (List.getElem?_eq_some_iff.1 hb).2] at st
              have HST := Lib.hid (sub_step st)
              have q0 := fun p : KeptW wr => (HCL.out p.wd ((K3.out.tr HK.out).tr p.since) i ax ay ha).1
              have q1 := fun p : KeptW wr => (HCL.out p.wd ((K3.out.tr HK.out).tr p.since) i ax ay ha).2
              have q2 := fun p : KeptW wr => (HCM.out p.wd (HK.out.tr p.since) j bx bz hb).1
              have q3 := fun p : KeptW wr => (HCM.out p.wd (HK.out.tr p.since) j bx bz hb).2
              have x1 := fun w1 => eql_vec ax ay bx bz w1
              have HDJ := Lib.hid (show M.drop j = (bx, bz) :: M.drop (j + 1) by rw [List.drop_eq_getElem_cons (show j < M.length by rw [HM.out]; exact hjm), (List.getElem?_eq_some_iff.1 hb).2])
              clear st ha hb
              by_cases hab : ((ax, ay) : Pt) = (bx, bz)
              · have b1 : (ax == bx && ay == bz) = true := by simp only [Prod.mk.injEq] at hab; simp [hab]
                rw [b1] at x1
                have HS2 := Lib.hid (HST.out.1 hab)
                clear hab b1
                go_upto_region 11 with fail
                refine wp_region_kept (Kp.refl _ _) (by assumption) (by kernel_rfl) ?_
                repeat (with_reducible refine wpQuiet_step (fun K hK => ?_); go_simp; first | ((with_reducible refine hK _ ?_); clear hK K) | (with_reducible apply Exists.intro; (with_reducible refine ⟨fun _ => ?_, hK _ ?_⟩); (fail); clear hK K) | (simp only [undef, reduceCtorEq, if_false]; (with_reducible refine hK _ ?_); clear hK K))
                with_reducible refine wpQuiet_nil ?_
                rintro _ ⟨p, rfl⟩
                go_wp2_with fail
                go_roundw
                case rel => exact ⟨i + 1, j + 1, by simp, by simp, by omega, by omega, HS2.out, by repeat (first | exact HK.out.tr p.since | refine Kp.drew ?_)⟩
                case measure => (simp [intOf]; try omega)
              · have b1 : (ax == bx && ay == bz) = false := by
                  cases g : (ax == bx && ay == bz) with
                  | false => rfl
                  | true => simp only [Bool.and_eq_true, beq_iff_eq] at g; exact absurd (by rw [g.1, g.2]) hab
                rw [b1] at x1
                have HS2 := Lib.hid (show (M.drop j).Sublist (L.drop (i + 1)) by rw [HDJ.out]; exact HST.out.2 hab)
                clear hab b1
                go_upto_region 11 with fail
                refine wp_region_kept (Kp.refl _ _) (by assumption) (by kernel_rfl) ?_
                repeat (with_reducible refine wpQuiet_step (fun K hK => ?_); go_simp; first | ((with_reducible refine hK _ ?_); clear hK K) | (with_reducible apply Exists.intro; (with_reducible refine ⟨fun _ => ?_, hK _ ?_⟩); (fail); clear hK K) | (simp only [undef, reduceCtorEq, if_false]; (with_reducible refine hK _ ?_); clear hK K))
                with_reducible refine wpQuiet_nil ?_
                rintro _ ⟨p, rfl⟩
                go_wp2_with fail
                go_roundw
                case rel => exact ⟨i + 1, j, by simp, rfl, by omega, by omega, HS2.out, by repeat (first | exact HK.out.tr p.since | refine Kp.drew ?_)⟩
                case measure => (simp [intOf]; try omega)
            · have d2 : decide ((j : Int) < (m : Int)) = false := decide_eq_false (by omega)
              obtain rfl : j = m := by omega
              go_wp2_with fail
              go_ret
              exact ⟨by simp, HNW.out.tr (HN3.out.tr HK.out)⟩
          · have d1 : decide ((i : Int) < (n : Int)) = false := decide_eq_false (by omega)
            obtain rfl : j = m := by
              have h := HSB.out
              rw [List.drop_eq_nil_of_le (show L.length ≤ i by rw [HN.out]; omega)] at h
              have := List.drop_eq_nil_iff.1 (List.sublist_nil.1 h)
              rw [HM.out] at this
              omega
            go_wp2_with fail
            go_ret
            exact ⟨by simp, HNW.out.tr (HN3.out.tr HK.out)⟩
    · have e1 : (ed != 0) = true := by simp [g2]
      subst g1
      clear hcase g2
      go_wp2_with fail
      go_ret
      exact ⟨rfl, HNW.out.tr HN3.out⟩
  · have e1 : (ec != 0) = true := by simp [g1]
    clear hcase g1
    go_wp2_with fail
    go_ret
    exact ⟨rfl, HNW.out.tr HN3.out⟩

end Go.Proofs.Ytlogihcmmoldkaa.W
