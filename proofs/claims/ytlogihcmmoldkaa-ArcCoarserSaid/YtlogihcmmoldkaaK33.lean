/-
  ring: the reference's Begin: what it returns. Condition: the list is not longer than 2^20.
  The reference's Sorted: the list in ascending order, each vector once. Condition: the list is not longer than a slice may be.
-/
import Derived.Test.YtlogihcmmoldkaaK14
import Derived.Test.YtlogihcmmoldkaaK31
import Derived.Test.YtlogihcmmoldkaaK10
import Derived.Test.YtlogihcmmoldkaaK13
import Derived.BigRegion
import Derived.Test.YtlogihcmmoldkaaK05
namespace Go.Proofs.Ytlogihcmmoldkaa.W
open Go.RowKit Go.Proofs.Ytlogihcmmoldkaa.V Go.Proofs.Ytlogihcmmoldkaa.G


set_option maxRecDepth 100000 in
set_option maxHeartbeats 6400000 in
theorem rbegin_any (l : List (Int × Int)) (v : Value) (w : World) (hv : SrcV w v l) (hl : l.length ≤ 1048576) : Calls Try.prog 56 #[v] w fun e w' => ∃ v', e = .returned v' ∧ SrcV w' v' (beginL l) ∧ Nw w w' := by
  obtain ⟨A, c, rfl⟩ := hv.shape
  obtain ⟨n, hn⟩ : ∃ n, l.length = n := ⟨_, rfl⟩
  replace hv := src_n hv hn
  rw [hn] at hl ⊢
  have HV := Lib.hid hv
  have HN := Lib.hid hn
  have hmx := src_max hv
  clear hv hn
  have hmix := mixed7
  go_enter Try.func56, Try.ntmps56
  go_wp2_with fail
  go_loopw [3, 4] (fun s i wr => ∃ k : Nat, i = .int .i64 k ∧ k ≤ n ∧ s = .int .i64 (lowTo l k : Nat) ∧ Nw w wr) (fun s i _ => n - (intOf i).toNat)
  case atStart => exact ⟨0, rfl, Nat.zero_le _, rfl, (by repeat (first | exact Kp.refl _ _ | refine Kp.alloc ?_ _ | refine Kp.drew ?_))⟩
  case round =>
    obtain ⟨k, rfl, hk, rfl, hnw⟩ := hrel
    have HK := Lib.hid hnw
    clear hnw
    by_cases hkn : k < n
    · have i0 : (0 : Int) ≤ (k : Int) := by omega
      have i1 : (k : Int) < (n : Int) := by omega
      obtain ⟨s4, hs4⟩ : ∃ s : Nat, k + 1 = s := ⟨_, rfl⟩
      have a4 : IntKind.i64.wrap ((k : Int) + 1) = (s4 : Int) := by rw [IntKind.wrap_i64]; omega
      have H4 := Lib.hid hs4
      have hlw : lowTo l k < n := by
        rcases Nat.eq_zero_or_pos k with h | h
        · subst h; exact hkn
        · have := lowTo_lt (l := l) h; omega
      obtain ⟨q, hqq⟩ : ∃ q, lowTo l k = q := ⟨_, rfl⟩
      rw [hqq] at hlw ⊢
      have b4 : (0 : Int) ≤ (q : Int) := by omega
      have b5 : (q : Int) < (n : Int) := by omega
      obtain ⟨g, o, rfl, hg, hc⟩ := src_at HV.out (by omega)
      obtain ⟨⟨ax, ay⟩, ha⟩ : ∃ p, at_ l k = p := ⟨_, rfl⟩
      obtain ⟨⟨bx, bz⟩, hb⟩ : ∃ p, at_ l q = p := ⟨_, rfl⟩
      have hst : lowTo l (k + 1) = if lessV ax ay bx bz then k else q := by
        show (if lessV (at_ l k).1 (at_ l k).2 (at_ l (lowTo l k)).1 (at_ l (lowTo l k)).2 then k else lowTo l k) = _
        rw [hqq, ha, hb]
      have HST := Lib.hid hst
      have cl := fun w1 => rless_any ax ay bx bz w1
      have q0 := fun p : KeptW wr => (hc p.wd (HK.out.tr p.since) k hkn).1
      have q1 := fun p : KeptW wr => (hc p.wd (HK.out.tr p.since) k hkn).2
      have q2 := fun p : KeptW wr => (hc p.wd (HK.out.tr p.since) q hlw).1
      have q3 := fun p : KeptW wr => (hc p.wd (HK.out.tr p.since) q hlw).2
      rw [ha] at q0 q1
      rw [hb] at q2 q3
      obtain ⟨lt, hlt⟩ : ∃ b, lessV ax ay bx bz = b := ⟨_, rfl⟩
      rw [hlt] at cl HST
      clear hc hg hs4 ha hb hst hlt hlw hqq
      cases lt
      · go_wp2_with fail
        refine wp_region_kept (Kp.refl _ _) (by assumption) (by kernel_rfl) ?_
        repeat (with_reducible refine wpQuiet_step (fun K hK => ?_); go_simp; first | ((with_reducible refine hK _ ?_); clear hK K) | (with_reducible apply Exists.intro; (with_reducible refine ⟨fun _ => ?_, hK _ ?_⟩); ((first | (go_at_call 73; with_reducible exact Calls.kept_of (cl _)) | fail)); clear hK K) | (simp only [undef, reduceCtorEq, if_false]; (with_reducible refine hK _ ?_); clear hK K))
        with_reducible refine wpQuiet_nil ?_
        rintro _ ⟨p, rfl⟩
        go_wp2_with fail
        go_roundw
        case rel => exact ⟨k + 1, by rw [← H4.out], by omega, by rw [HST.out]; rfl, HK.out.tr p.since⟩
        case measure => (have := H4.out; simp [intOf]; try omega)
      · go_wp2_with fail
        refine wp_region_kept (Kp.refl _ _) (by assumption) (by kernel_rfl) ?_
        repeat (with_reducible refine wpQuiet_step (fun K hK => ?_); go_simp; first | ((with_reducible refine hK _ ?_); clear hK K) | (with_reducible apply Exists.intro; (with_reducible refine ⟨fun _ => ?_, hK _ ?_⟩); ((first | (go_at_call 73; with_reducible exact Calls.kept_of (cl _)) | fail)); clear hK K) | (simp only [undef, reduceCtorEq, if_false]; (with_reducible refine hK _ ?_); clear hK K))
        with_reducible refine wpQuiet_nil ?_
        rintro _ ⟨p, rfl⟩
        go_wp2_with fail
        go_roundw
        case rel => exact ⟨k + 1, by rw [← H4.out], by omega, by rw [HST.out]; rfl, HK.out.tr p.since⟩
        case measure => (have := H4.out; simp [intOf]; try omega)
    · obtain rfl : k = n := by omega
      have i5 : ¬ ((k : Int) < (k : Int)) := by omega
      have hlo : lowTo l k ≤ k := by
        rcases Nat.eq_zero_or_pos k with h | h
        · subst h; exact Nat.le_refl _
        · exact Nat.le_of_lt (lowTo_lt h)
      have hbg : beginL l = l.drop (lowTo l k) ++ l.take (lowTo l k) := by unfold beginL low rotL; rw [HN.out]
      obtain ⟨q, hqq⟩ : ∃ q, lowTo l k = q := ⟨_, rfl⟩
      rw [hqq] at hlo hbg ⊢
      have HBG := Lib.hid hbg
      have hv2 : SrcN wr A k c l := HV.out.nw HK.out
      obtain ⟨B1, d1, hr1, hs1, -⟩ := hv2.cutl elemVec Try.underlying27 infoVec q hlo
      obtain ⟨B2, d2, hr2, hs2, -⟩ := hv2.cuth elemVec Try.underlying27 infoVec q hlo
      rw [vdrop] at hs1
      rw [vtake] at hs2
      have HS1 := Lib.hid hs1
      have HS2 := Lib.hid hs2
      have hd : (l.drop q ++ l.take q).length = k := by rw [List.length_append, List.length_drop, List.length_take, HN.out]; omega
      have HD := Lib.hid hd
      have hq1 : k - q + q = k := by omega
      have HSZ := Lib.hid HK.out.size
      clear hs1 hs2 hd hv2 hqq hbg
      go_wp2_with fail
      go_region_law (first
        | (refine step_appG (by rfl) (.tmp 21) (.tmp 24) 27 23 2 16 (.agg #[.int .i64 0, .int .i64 0]) (by rfl) Try.underlying27 infoVec rfl (by omega) wr.heap.size 0 (k - q) (.slice (some ⟨wr.heap.size, 0, none⟩) 0 0) (.slice B1 (k - q) d1) [] ((l.drop q).flatMap vC) (by rfl) (own_lit_at wr wr.heap.size rfl (Nat.le_refl _)) (by rfl) (HS1.out.nw ((nw_alloc wr _).drew)) (flatV_one _) (by omega) (by omega) (by simp) ?_; intro v3 w3 own3 gr3; simp only [Nat.zero_add, List.nil_append] at own3; have hk3 : Nw wr w3 := gr3.nw ((nw_alloc wr _).drew) (by intro kk hkk; simp [Value.ownBlock] at hkk; omega))
        | (refine step_appG (by rfl) (.tmp 25) (.tmp 28) 27 23 2 16 (.agg #[.int .i64 0, .int .i64 0]) (by rfl) Try.underlying27 infoVec rfl (by omega) wr.heap.size (k - q) q v3 (.slice B2 q d2) ((l.drop q).flatMap vC) ((l.take q).flatMap vC) (by rfl) own3 (by rfl) (HS2.out.nw hk3) (flatV_one _) (by omega) (by omega) hk3.size ?_; intro v4 w4 own4 gr4; have hk4 : Nw wr w4 := gr4.nw hk3 (own_from own3)))
      all_goals (
        have HO4 := Lib.hid own4
        have HK4 := Lib.hid hk4
        clear own3 own4 gr3 gr4 hk3 hk4
        go_wp2_with fail
        go_ret
        refine ⟨_, rfl, ?_, HK.out.tr HK4.out⟩
        have h := own_src HO4.out
        rw [← List.flatMap_append, hq1] at h
        rw [HBG.out]
        show Src _ 2 _ (l.drop q ++ l.take q).length _
        rw [HD.out]
        exact h)

end Go.Proofs.Ytlogihcmmoldkaa.W

namespace Go.Proofs.Ytlogihcmmoldkaa.W
open Go.RowKit Go.Proofs.Ytlogihcmmoldkaa.V

set_option maxRecDepth 100000 in
set_option maxHeartbeats 6400000 in
theorem rsorted_any (l : List (Int × Int)) (v : Value) (w : World) (hv : SrcV w v l) (hl : l.length ≤ 1099511627776) :
    Calls Try.prog 89 #[v] w fun e w' => ∃ v', e = .returned v' ∧ SrcV w' v' (insAll l) ∧ Nw w w' := by
  obtain ⟨A, c, rfl⟩ := hv.shape
  obtain ⟨n, hn⟩ : ∃ n, l.length = n := ⟨_, rfl⟩
  have HV := Lib.hid hv
  have HN := Lib.hid hn
  rw [hn] at hl ⊢
  clear hv hn
  go_enter Try.func89, Try.ntmps89
  go_wp2
  go_loopw [4, 3] (fun i ov wr => ∃ k : Nat, i = .int .i64 k ∧ k ≤ n ∧ (insAll (l.take k)).length ≤ k ∧ SrcV wr ov (insAll (l.take k)) ∧ Nw w wr) (fun i _ _ => n - (intOf i).toNat)
  case atStart => exact ⟨0, rfl, Nat.zero_le _, by simp [insAll], src_none _ _ _ (Nat.zero_le _), Kp.refl _ _⟩
  case round =>
    obtain ⟨k, rfl, hk, hlen, hso, hnw⟩ := hrel
    obtain ⟨wo, rfl⟩ : ∃ x, x = wr := ⟨_, rfl⟩
    obtain ⟨B, d, rfl⟩ := hso.shape
    obtain ⟨L, hL⟩ : ∃ L, insAll (l.take k) = L := ⟨_, rfl⟩
    rw [hL] at hlen hso ⊢
    obtain ⟨m, hm⟩ : ∃ m, L.length = m := ⟨_, rfl⟩
    rw [hm] at hlen ⊢
    have HS := Lib.hid hso
    have HK := Lib.hid hnw
    have HLL := Lib.hid hL
    have HM := Lib.hid hm
    clear hso hnw hL hm
    by_cases hkn : k < n
    · have i0 : (0 : Int) ≤ (k : Int) := by omega
      have i1 : (k : Int) < (n : Int) := by omega
      obtain ⟨⟨ax, ay⟩, ha⟩ : ∃ x, l[k]? = some x := ⟨l[k]'(by rw [HN.out]; omega), List.getElem?_eq_getElem _⟩
      have HA := Lib.hid ha
      have HP := Lib.hid (show ∀ w', Nw wo w' → ∃ g o, A = some ⟨g, o, none⟩ ∧ w'.cell? (⟨g, o + k * 2, none⟩ : Addr) = some (.int .i64 ax) ∧ w'.cell? (⟨g, o + k * 2 + 1, none⟩ : Addr) = some (.int .i64 ay) from fun w' h => by
        obtain ⟨_, A', c', hA, _, _, hc⟩ := HV.out
        injection hA with hA1 hA2 hA3
        obtain ⟨g, o, hA4, hg, hc⟩ := hc (by rw [HN.out]; omega)
        obtain ⟨f1, f2⟩ := flatV_at l k (ax, ay) ha
        exact ⟨g, o, hA1.trans hA4, ((HK.out.tr h).cell (p := ⟨g, o + k * 2, none⟩) hg id).trans (hc _ _ f1), ((HK.out.tr h).cell (p := ⟨g, o + (k * 2 + 1), none⟩) hg id).trans (hc _ _ f2)⟩)
      obtain ⟨g, o, rfl, _, _⟩ := HP.out wo (Kp.refl _ _)
      clear ha
      go_wp2_with fail
      go_loopw [5] (fun i wx => ∃ q : Nat, i = .int .i64 q ∧ q ≤ place (ax, ay) L ∧ Nw wo wx) (fun i _ => place (ax, ay) L - (intOf i).toNat)
      case atStart => exact ⟨0, rfl, Nat.zero_le _, Kp.refl _ _⟩
      case round =>
        obtain ⟨q, rfl, hq, hnx⟩ := hrel
        have HX := Lib.hid hnx
        clear hnx
        have j0 : (0 : Int) ≤ (q : Int) := by omega
        have hpl := place_le (ax, ay) L
        rw [HM.out] at hpl
        by_cases hqm : q < m
        · have j1 : (q : Int) < (m : Int) := by omega
          obtain ⟨⟨bx, bz⟩, hb⟩ : ∃ x, L[q]? = some x := ⟨L[q]'(by rw [HM.out]; omega), List.getElem?_eq_getElem _⟩
          obtain ⟨_, B', d', hB, _, _, hc⟩ := HS.out
          injection hB with hB1 hB2 hB3
          subst hB1 hB3
          clear hB2
          obtain ⟨bg, bo, rfl, hbg, hc⟩ := hc (by rw [HM.out]; omega)
          obtain ⟨f1, f2⟩ := flatV_at L q (bx, bz) hb
          have HQ := Lib.hid (show ∀ w' : World, Nw wr w' → w'.cell? (⟨g, o + k * 2, none⟩ : Addr) = some (.int .i64 ax) ∧ w'.cell? (⟨g, o + k * 2 + 1, none⟩ : Addr) = some (.int .i64 ay) ∧ w'.cell? (⟨bg, bo + q * 2, none⟩ : Addr) = some (.int .i64 bx) ∧ w'.cell? (⟨bg, bo + q * 2 + 1, none⟩ : Addr) = some (.int .i64 bz) from fun w' h => by
            obtain ⟨g', o', hg', z1, z2⟩ := HP.out w' (HX.out.tr h)
            injection hg' with hg'
            injection hg' with hg1 hg2
            subst hg1 hg2
            exact ⟨z1, z2, ((HX.out.tr h).cell (p := ⟨bg, bo + q * 2, none⟩) hbg id).trans (hc _ _ f1), ((HX.out.tr h).cell (p := ⟨bg, bo + (q * 2 + 1), none⟩) hbg id).trans (hc _ _ f2)⟩)
          have cl := fun w1 => rless_any bx bz ax ay w1
          have HBL := Lib.hid hb
          clear hc f1 f2 hb
          by_cases hqp : q < place (ax, ay) L
          · have hle : lessV bx bz ax ay = true := by
              obtain ⟨y, hy, hl⟩ := place_lt hqp
              rw [HBL.out] at hy
              injection hy with hy
              subst hy
              exact hl
            rw [hle] at cl
            have e4 : IntKind.i64.wrap ((q : Int) + 1) = (q : Int) + 1 := by rw [IntKind.wrap_i64]; omega
            clear hle
            go_wp2_with fail
            go_region_held3 (fun w' : World => w'.cell? (⟨g, o + k * 2, none⟩ : Addr) = some (.int .i64 ax) ∧ w'.cell? (⟨g, o + k * 2 + 1, none⟩ : Addr) = some (.int .i64 ay) ∧ w'.cell? (⟨bg, bo + q * 2, none⟩ : Addr) = some (.int .i64 bx) ∧ w'.cell? (⟨bg, bo + q * 2 + 1, none⟩ : Addr) = some (.int .i64 bz))
              (first | exact HQ.out _ (Kp.refl _ _) | exact HQ.out _ (Kp.drew (Kp.refl _ _)) | exact HQ.out _ hb | fail)
              (first
                | (go_at_call 73; ((with_reducible refine (cl _).mono ?_); rintro e x0 ⟨rfl, hk⟩; have hb : Nw wr x0 := (Kp.drew (Kp.refl _ _)).tr hk)))
            go_wp2_with fail
            go_roundw
            case rel => exact ⟨q + 1, by go_num, by omega, HX.out.tr hb⟩
            case measure => simp [intOf]; omega
          · obtain rfl : q = place (ax, ay) L := by omega
            have hle : lessV bx bz ax ay = false := by
              obtain ⟨y, hy, hl⟩ := place_at (x := (ax, ay)) (l := L) (by rw [HM.out]; omega)
              rw [HBL.out] at hy
              injection hy with hy
              subst hy
              exact hl
            rw [hle] at cl
            clear hle
            obtain ⟨q, hqq⟩ : ∃ q, place (ax, ay) L = q := ⟨_, rfl⟩
            rw [hqq] at HQ HBL j0 j1 hqm ⊢
            go_wp2_with fail
            go_region_held3 (fun w' : World => w'.cell? (⟨g, o + k * 2, none⟩ : Addr) = some (.int .i64 ax) ∧ w'.cell? (⟨g, o + k * 2 + 1, none⟩ : Addr) = some (.int .i64 ay) ∧ w'.cell? (⟨bg, bo + q * 2, none⟩ : Addr) = some (.int .i64 bx) ∧ w'.cell? (⟨bg, bo + q * 2 + 1, none⟩ : Addr) = some (.int .i64 bz))
              (first | exact HQ.out _ (Kp.refl _ _) | exact HQ.out _ (Kp.drew (Kp.refl _ _)) | exact HQ.out _ hb | fail)
              (first
                | (go_at_call 73; ((with_reducible refine (cl _).mono ?_); rintro e x0 ⟨rfl, hk⟩; have hb : Nw wr x0 := (Kp.drew (Kp.refl _ _)).tr hk)))
            go_wp2_with fail
            have HX0 := Lib.hid (HX.out.tr hb)
            obtain ⟨z0, z1, z2, z3⟩ := HQ.out _ hb
            have hq := fun w1 => eql_vec bx bz ax ay w1
            clear hb hk cl
            by_cases h1 : (bx, bz) = (ax, ay)
            · rw [show (bx == ax && bz == ay) = true by injection h1 with h1 h2; simp [h1, h2]] at hq
              have HE := Lib.hid h1
              have e4 : IntKind.i64.wrap ((k : Int) + 1) = ((k + 1 : Nat) : Int) := by rw [IntKind.wrap_i64]; omega
              clear h1
              go_wp2_with fail
              go_region
              go_wp2_with fail
              go_roundw
              case rel =>
                have hi : insAll (l.take (k + 1)) = L := by
                  rw [ins_take HA.out, HLL.out]
                  unfold insU
                  rw [hqq, HBL.out, if_pos (by rw [HE.out])]
                refine ⟨k + 1, rfl, by omega, by rw [hi, HM.out]; omega, ?_, by repeat (first | exact HK.out.tr HX0.out | refine Kp.drew ?_)⟩
                rw [hi]
                have h := HS.out.nw HX0.out
                rw [HM.out] at h
                show Src _ 2 _ L.length _
                rw [HM.out]
                exact h
              case measure => simp [intOf]; omega
            · rw [show (bx == ax && bz == ay) = false by
                apply Bool.eq_false_iff.2
                intro h
                simp at h
                exact h1 (by rw [h.1, h.2])] at hq
              have HE := Lib.hid h1
              clear h1
              go_wp2_with fail
              go_region
              generalize hw9 : World.drew _ = w9
              have HW9 := Lib.hid (show Nw wo w9 by rw [← hw9]; exact HX0.out.drew)
              have hqm2 : q ≤ m := by omega
              have HI := Lib.hid (show insAll (l.take (k + 1)) = L.take q ++ (ax, ay) :: L.drop q by
                rw [ins_take HA.out, HLL.out]
                unfold insU
                rw [hqq, HBL.out, if_neg (fun e => HE.out (by injection e))])
              clear hw9 hq z0 z1 z2 z3 j1
              obtain ⟨B1, d1, hr1, hs1, _⟩ := (show Src w9 2 (.slice (some ⟨bg, bo, none⟩) m d) m (L.flatMap vC) from by have h := HS.out.nw HW9.out; rw [HM.out] at h; exact h).cuth elemVec Try.underlying27 infoVec q hqm2
              obtain ⟨B3, d3, hr3, hs3, _⟩ := (show Src w9 2 (.slice (some ⟨bg, bo, none⟩) m d) m (L.flatMap vC) from by have h := HS.out.nw HW9.out; rw [HM.out] at h; exact h).cutl elemVec Try.underlying27 infoVec q hqm2
              have HS1 := Lib.hid hs1
              have HS3 := Lib.hid hs3
              have HP9 := Lib.hid (show ∀ w', Nw w9 w' → w'.cell? (⟨g, o + k * 2, none⟩ : Addr) = some (.int .i64 ax) ∧ w'.cell? (⟨g, o + k * 2 + 1, none⟩ : Addr) = some (.int .i64 ay) from fun w' h => by
                obtain ⟨g', o', hg', z1, z2⟩ := HP.out w' (HW9.out.tr h)
                injection hg' with hg'
                injection hg' with hg1 hg2
                subst hg1 hg2
                exact ⟨z1, z2⟩)
              clear hs1 hs3
              go_wp2_with fail
              go_region_held3 (fun w' : World => w'.cell? (⟨g, o + k * 2, none⟩ : Addr) = some (.int .i64 ax) ∧ w'.cell? (⟨g, o + k * 2 + 1, none⟩ : Addr) = some (.int .i64 ay))
                (first | exact HP9.out _ (Kp.refl _ _) | exact HP9.out _ (Kp.drew (Kp.refl _ _)) | exact HP9.out _ (Kp.alloc (Kp.drew (Kp.refl _ _)) _) | exact HP9.out _ (Kp.alloc (Kp.alloc (Kp.drew (Kp.refl _ _)) _) _) | exact HP9.out _ hk5 | exact HP9.out _ hk4 | exact HP9.out _ hk3 | exact HP9.out _ (Kp.alloc hk3 _) | fail)
                (first
                  | (refine step_appV (by rfl) (.tmp 44) (.tmp 47) (by rfl) w9.heap.size 0 q _ (.slice B1 q d1) [] _ (by rfl) (own_lit_at w9.drew w9.heap.size (by simp) (by omega)) (by rfl) (HS1.out.nw (show Nw w9 _ from by repeat (first | exact Kp.refl _ _ | refine Kp.alloc ?_ _ | refine Kp.drew ?_))) (take_one _ _) (by omega) (show Nw w9 _ from by repeat (first | exact Kp.refl _ _ | refine Kp.alloc ?_ _ | refine Kp.drew ?_)).size ?_; intro v3 w3 own3 gr3; simp only [Nat.zero_add, List.nil_append] at own3; have hk3 : Nw w9 w3 := gr3.nw (show Nw w9 _ from by repeat (first | exact Kp.refl _ _ | refine Kp.alloc ?_ _ | refine Kp.drew ?_)) (fun kk hkk => by simp [Value.ownBlock] at hkk; omega))
                  | (refine step_appV (by rfl) (.tmp 44) (.tmp 47) (by rfl) w9.heap.size 0 q _ (.slice B1 q d1) [] _ (by rfl) ((own_lit_at w9.drew w9.heap.size (by simp) (by omega)).alloc (.cells #[.int .i64 ax, .int .i64 ay] 23)) (by rfl) (HS1.out.nw (show Nw w9 _ from by repeat (first | exact Kp.refl _ _ | refine Kp.alloc ?_ _ | refine Kp.drew ?_))) (take_one _ _) (by omega) (show Nw w9 _ from by repeat (first | exact Kp.refl _ _ | refine Kp.alloc ?_ _ | refine Kp.drew ?_)).size ?_; intro v3 w3 own3 gr3; simp only [Nat.zero_add, List.nil_append] at own3; have hk3 : Nw w9 w3 := gr3.nw (show Nw w9 _ from by repeat (first | exact Kp.refl _ _ | refine Kp.alloc ?_ _ | refine Kp.drew ?_)) (fun kk hkk => by simp [Value.ownBlock] at hkk; omega); have sc3 := (src_one (Blk.new_at (w9.drew.alloc (.cells #[] 23)) 23 #[.int .i64 ax, .int .i64 ay] (n := w9.heap.size + 1) (by simp))).kp gr3.by_ (fun g1 _ e1 e2 => by simp [Value.ownBlock] at e1 e2; omega))
                  | (refine step_appV (by rfl) (.tmp 44) (.tmp 47) (by rfl) w9.heap.size 0 q _ (.slice B1 q d1) [] _ (by rfl) (own_lit_at (w9.drew.alloc (.cells #[.int .i64 ax, .int .i64 ay] 23)) (w9.heap.size + 1) (by simp) (by omega)) (by rfl) (HS1.out.nw (show Nw w9 _ from by repeat (first | exact Kp.refl _ _ | refine Kp.alloc ?_ _ | refine Kp.drew ?_))) (take_one _ _) (by omega) (show Nw w9 _ from by repeat (first | exact Kp.refl _ _ | refine Kp.alloc ?_ _ | refine Kp.drew ?_)).size ?_; intro v3 w3 own3 gr3; simp only [Nat.zero_add, List.nil_append] at own3; have hk3 : Nw w9 w3 := gr3.nw (show Nw w9 _ from by repeat (first | exact Kp.refl _ _ | refine Kp.alloc ?_ _ | refine Kp.drew ?_)) (fun kk hkk => by simp [Value.ownBlock] at hkk; omega); have sc3 := (src_one ((Blk.new_at w9.drew 23 #[.int .i64 ax, .int .i64 ay] (n := w9.heap.size) (by simp)).alloc (.cells #[] 23))).kp gr3.by_ (fun g1 _ e1 e2 => by simp [Value.ownBlock] at e1 e2; omega))
                  | (refine step_appV (by rfl) (.tmp 48) (.tmp 53) (by rfl) w9.heap.size q 1 v3 _ _ [.int .i64 ax, .int .i64 ay] (by rfl) own3 (by rfl) sc3 (by intro u hu; simp at hu; rcases hu with rfl | rfl <;> rfl) (by omega) hk3.size ?_; intro v4 w4 own4 gr4; have hk4 : Nw w9 w4 := gr4.nw hk3 (own_from own3))
                  | (refine step_appV (by rfl) (.tmp 48) (.tmp 53) (by rfl) w9.heap.size q 1 v3 _ _ [.int .i64 ax, .int .i64 ay] (by rfl) (own3.alloc _) (by rfl) (src_one (Blk.new _ _ _)) (by intro u hu; simp at hu; rcases hu with rfl | rfl <;> rfl) (by omega) (hk3.alloc _).size ?_; intro v4 w4 own4 gr4; have hk4 : Nw w9 w4 := gr4.nw (hk3.alloc _) (own_from own3))
                  | (refine step_appV (by rfl) (.tmp 54) (.tmp 57) (by rfl) w9.heap.size (q + 1) (m - q) v4 (.slice B3 (m - q) d3) _ _ (by rfl) own4 (by rfl) (HS3.out.nw hk4) (drop_one _ _) (by omega) hk4.size ?_; intro v5 w5 own5 gr5; have hk5 : Nw w9 w5 := gr5.nw hk4 (own_from own4)))
              all_goals (
                have e4 : IntKind.i64.wrap ((k : Int) + 1) = ((k + 1 : Nat) : Int) := by rw [IntKind.wrap_i64]; omega
                have HK5 := Lib.hid hk5
                have HO5 := Lib.hid own5
                clear hk5 own5 own4 gr4 hk4 own3 gr3 hk3 hr1 hr3 gr5
                go_wp2_with fail
                go_roundw
                case rel =>
                  have hsr : SrcV w5 v5 (L.take q ++ (ax, ay) :: L.drop q) := by
                    have h := own_src HO5.out
                    have e1 : (L.flatMap vC).take (q * 2) = (L.take q).flatMap vC := flat_take (f := vC) (fun _ => rfl) L q
                    have e2 : (L.flatMap vC).drop (q * 2) = (L.drop q).flatMap vC := flat_drop (f := vC) (fun _ => rfl) L q
                    rw [e1, e2] at h
                    have e3 : (L.take q).flatMap vC ++ [.int .i64 ax, .int .i64 ay] ++ (L.drop q).flatMap vC = (L.take q ++ (ax, ay) :: L.drop q).flatMap vC := by
                      rw [List.flatMap_append, List.flatMap_cons, List.append_assoc]
                    rw [e3] at h
                    have e4 : (L.take q ++ (ax, ay) :: L.drop q).length = q + 1 + (m - q) := by
                      rw [List.length_append, List.length_cons, List.length_take, List.length_drop, HM.out]
                      omega
                    show Src _ 2 _ _ _
                    rw [e4]
                    exact h
                  refine ⟨k + 1, rfl, by omega, ?_, ?_, (HK.out.tr HW9.out).tr HK5.out⟩
                  · rw [HI.out, List.length_append, List.length_cons, List.length_take, List.length_drop, HM.out]
                    omega
                  · rw [HI.out]
                    exact hsr
                case measure => (simp [intOf]; try omega))
        · obtain rfl : q = m := by omega
          have hp0 : place (ax, ay) L = q := by omega
          have HI := Lib.hid (show insAll (l.take (k + 1)) = L.take q ++ (ax, ay) :: L.drop q by
            rw [ins_take HA.out, HLL.out]
            unfold insU
            rw [hp0, List.getElem?_eq_none (by rw [HM.out]; exact Nat.le_refl _), if_neg (fun e => by cases e)])
          have j1 : ¬ ((q : Int) < (q : Int)) := by omega
          have j2 : decide ((q : Int) < (q : Int)) = false := by simp
          have hqm2 : q ≤ q := Nat.le_refl q
          clear hp0 hq hpl hqm
          go_wp2_with fail
          (refine wp_region_kept (w0 := wr) (by repeat (first | exact Kp.refl _ _ | refine Kp.drew ?_)) mixed7 (by kernel_rfl) ?_)
          repeat (with_reducible refine wpQuiet_step (fun K hK => ?_); go_simp; first | ((with_reducible refine hK _ ?_); clear hK K))
          with_reducible refine wpQuiet_nil ?_
          rintro _ ⟨p, rfl⟩
          go_wp2_with fail
          (refine wp_region_kept (w0 := wr) (by repeat (first | exact Kp.refl _ _ | exact p.since | refine Kp.drew ?_)) mixed7 (by kernel_rfl) ?_)
          repeat (with_reducible refine wpQuiet_step (fun K hK => ?_); go_simp; first | ((with_reducible refine hK _ ?_); clear hK K))
          with_reducible refine wpQuiet_nil ?_
          rintro _ ⟨p, rfl⟩
          go_wp2_with fail
          have HW9' := Lib.hid (HX.out.tr p.since)
          obtain ⟨w9, hw9⟩ : ∃ w9, p.wd = w9 := ⟨_, rfl⟩
          rw [hw9] at HW9'
          rw [hw9]
          have HW9 := HW9'
          clear hw9 HW9' j2
          obtain ⟨B1, d1, hr1, hs1, _⟩ := (show Src w9 2 (.slice B q d) q (L.flatMap vC) from by have h := HS.out.nw HW9.out; rw [HM.out] at h; exact h).cuth elemVec Try.underlying27 infoVec q hqm2
          obtain ⟨B3, d3, hr3, hs3, _⟩ := (show Src w9 2 (.slice B q d) q (L.flatMap vC) from by have h := HS.out.nw HW9.out; rw [HM.out] at h; exact h).cutl elemVec Try.underlying27 infoVec q hqm2
          rw [Nat.sub_self] at hr3 hs3
          have HS1 := Lib.hid hs1
          have HS3 := Lib.hid hs3
          have HP9 := Lib.hid (show ∀ w', Nw w9 w' → w'.cell? (⟨g, o + k * 2, none⟩ : Addr) = some (.int .i64 ax) ∧ w'.cell? (⟨g, o + k * 2 + 1, none⟩ : Addr) = some (.int .i64 ay) from fun w' h => by
            obtain ⟨g', o', hg', z1, z2⟩ := HP.out w' (HW9.out.tr h)
            injection hg' with hg'
            injection hg' with hg1 hg2
            subst hg1 hg2
            exact ⟨z1, z2⟩)
          clear hs1 hs3
          go_wp2_with fail
          go_region_held3 (fun w' : World => w'.cell? (⟨g, o + k * 2, none⟩ : Addr) = some (.int .i64 ax) ∧ w'.cell? (⟨g, o + k * 2 + 1, none⟩ : Addr) = some (.int .i64 ay))
            (first | exact HP9.out _ (Kp.refl _ _) | exact HP9.out _ (Kp.drew (Kp.refl _ _)) | exact HP9.out _ (Kp.alloc (Kp.drew (Kp.refl _ _)) _) | exact HP9.out _ (Kp.alloc (Kp.alloc (Kp.drew (Kp.refl _ _)) _) _) | exact HP9.out _ hk5 | exact HP9.out _ hk4 | exact HP9.out _ hk3 | exact HP9.out _ (Kp.alloc hk3 _) | fail)
            (first
              | (refine step_appV (by rfl) (.tmp 44) (.tmp 47) (by rfl) w9.heap.size 0 q _ (.slice B1 q d1) [] _ (by rfl) (own_lit_at w9.drew w9.heap.size (by simp) (by omega)) (by rfl) (HS1.out.nw (show Nw w9 _ from by repeat (first | exact Kp.refl _ _ | refine Kp.alloc ?_ _ | refine Kp.drew ?_))) (take_one _ _) (by omega) (show Nw w9 _ from by repeat (first | exact Kp.refl _ _ | refine Kp.alloc ?_ _ | refine Kp.drew ?_)).size ?_; intro v3 w3 own3 gr3; simp only [Nat.zero_add, List.nil_append] at own3; have hk3 : Nw w9 w3 := gr3.nw (show Nw w9 _ from by repeat (first | exact Kp.refl _ _ | refine Kp.alloc ?_ _ | refine Kp.drew ?_)) (fun kk hkk => by simp [Value.ownBlock] at hkk; omega))
              | (refine step_appV (by rfl) (.tmp 44) (.tmp 47) (by rfl) w9.heap.size 0 q _ (.slice B1 q d1) [] _ (by rfl) ((own_lit_at w9.drew w9.heap.size (by simp) (by omega)).alloc (.cells #[.int .i64 ax, .int .i64 ay] 23)) (by rfl) (HS1.out.nw (show Nw w9 _ from by repeat (first | exact Kp.refl _ _ | refine Kp.alloc ?_ _ | refine Kp.drew ?_))) (take_one _ _) (by omega) (show Nw w9 _ from by repeat (first | exact Kp.refl _ _ | refine Kp.alloc ?_ _ | refine Kp.drew ?_)).size ?_; intro v3 w3 own3 gr3; simp only [Nat.zero_add, List.nil_append] at own3; have hk3 : Nw w9 w3 := gr3.nw (show Nw w9 _ from by repeat (first | exact Kp.refl _ _ | refine Kp.alloc ?_ _ | refine Kp.drew ?_)) (fun kk hkk => by simp [Value.ownBlock] at hkk; omega); have sc3 := (src_one (Blk.new_at (w9.drew.alloc (.cells #[] 23)) 23 #[.int .i64 ax, .int .i64 ay] (n := w9.heap.size + 1) (by simp))).kp gr3.by_ (fun g1 _ e1 e2 => by simp [Value.ownBlock] at e1 e2; omega))
              | (refine step_appV (by rfl) (.tmp 44) (.tmp 47) (by rfl) w9.heap.size 0 q _ (.slice B1 q d1) [] _ (by rfl) (own_lit_at (w9.drew.alloc (.cells #[.int .i64 ax, .int .i64 ay] 23)) (w9.heap.size + 1) (by simp) (by omega)) (by rfl) (HS1.out.nw (show Nw w9 _ from by repeat (first | exact Kp.refl _ _ | refine Kp.alloc ?_ _ | refine Kp.drew ?_))) (take_one _ _) (by omega) (show Nw w9 _ from by repeat (first | exact Kp.refl _ _ | refine Kp.alloc ?_ _ | refine Kp.drew ?_)).size ?_; intro v3 w3 own3 gr3; simp only [Nat.zero_add, List.nil_append] at own3; have hk3 : Nw w9 w3 := gr3.nw (show Nw w9 _ from by repeat (first | exact Kp.refl _ _ | refine Kp.alloc ?_ _ | refine Kp.drew ?_)) (fun kk hkk => by simp [Value.ownBlock] at hkk; omega); have sc3 := (src_one ((Blk.new_at w9.drew 23 #[.int .i64 ax, .int .i64 ay] (n := w9.heap.size) (by simp)).alloc (.cells #[] 23))).kp gr3.by_ (fun g1 _ e1 e2 => by simp [Value.ownBlock] at e1 e2; omega))
              | (refine step_appV (by rfl) (.tmp 48) (.tmp 53) (by rfl) w9.heap.size q 1 v3 _ _ [.int .i64 ax, .int .i64 ay] (by rfl) own3 (by rfl) sc3 (by intro u hu; simp at hu; rcases hu with rfl | rfl <;> rfl) (by omega) hk3.size ?_; intro v4 w4 own4 gr4; have hk4 : Nw w9 w4 := gr4.nw hk3 (own_from own3))
              | (refine step_appV (by rfl) (.tmp 48) (.tmp 53) (by rfl) w9.heap.size q 1 v3 _ _ [.int .i64 ax, .int .i64 ay] (by rfl) (own3.alloc _) (by rfl) (src_one (Blk.new _ _ _)) (by intro u hu; simp at hu; rcases hu with rfl | rfl <;> rfl) (by omega) (hk3.alloc _).size ?_; intro v4 w4 own4 gr4; have hk4 : Nw w9 w4 := gr4.nw (hk3.alloc _) (own_from own3))
              | (refine step_appV (by rfl) (.tmp 54) (.tmp 57) (by rfl) w9.heap.size (q + 1) 0 v4 (.slice B3 0 d3) _ _ (by rfl) own4 (by rfl) (HS3.out.nw hk4) (drop_one _ _) (by omega) hk4.size ?_; intro v5 w5 own5 gr5; have hk5 : Nw w9 w5 := gr5.nw hk4 (own_from own4)))
          all_goals (
            have e4 : IntKind.i64.wrap ((k : Int) + 1) = ((k + 1 : Nat) : Int) := by rw [IntKind.wrap_i64]; omega
            have HK5 := Lib.hid hk5
            have HO5 := Lib.hid own5
            clear hk5 own5 own4 gr4 hk4 own3 gr3 hk3 hr1 hr3 gr5
            go_wp2_with fail
            go_roundw
            case rel =>
              have hsr : SrcV w5 v5 (L.take q ++ (ax, ay) :: L.drop q) := by
                have h := own_src HO5.out
                have e1 : (L.flatMap vC).take (q * 2) = (L.take q).flatMap vC := flat_take (f := vC) (fun _ => rfl) L q
                have e2 : (L.flatMap vC).drop (q * 2) = (L.drop q).flatMap vC := flat_drop (f := vC) (fun _ => rfl) L q
                rw [e1, e2] at h
                have e3 : (L.take q).flatMap vC ++ [.int .i64 ax, .int .i64 ay] ++ (L.drop q).flatMap vC = (L.take q ++ (ax, ay) :: L.drop q).flatMap vC := by
                  rw [List.flatMap_append, List.flatMap_cons, List.append_assoc]
                rw [e3] at h
                have e4 : (L.take q ++ (ax, ay) :: L.drop q).length = q + 1 + 0 := by
                  rw [List.length_append, List.length_cons, List.length_take, List.length_drop, HM.out]
                  omega
                show Src _ 2 _ _ _
                rw [e4]
                exact h
              refine ⟨k + 1, rfl, by omega, ?_, ?_, (HK.out.tr HW9.out).tr HK5.out⟩
              · rw [HI.out, List.length_append, List.length_cons, List.length_take, List.length_drop, HM.out]
                omega
              · rw [HI.out]
                exact hsr
            case measure => (simp [intOf]; try omega))
    · obtain rfl : k = n := by omega
      have i5 : ¬ ((k : Int) < (k : Int)) := by omega
      go_wp2_with fail
      go_ret
      refine ⟨_, rfl, ?_, HK.out⟩
      have h := HLL.out
      rw [List.take_of_length_le (by rw [HN.out]; exact Nat.le_refl _)] at h
      rw [h, ← HM.out]
      exact HS.out
end Go.Proofs.Ytlogihcmmoldkaa.W
