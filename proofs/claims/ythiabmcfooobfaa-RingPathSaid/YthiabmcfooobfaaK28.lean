/-
  ring: the reference's Begin: what it returns. Condition: the list is not longer than 2^20.
-/
import Derived.Test.YthiabmcfooobfaaK16
import Derived.Test.YthiabmcfooobfaaK24
namespace Go.Proofs.Ythiabmcfooobfaa.W
open Go.RowKit Go.Proofs.Ythiabmcfooobfaa.V Go.Proofs.Ythiabmcfooobfaa.G


set_option maxRecDepth 100000 in
set_option maxHeartbeats 6400000 in
theorem rbegin_any (l : List (Int × Int)) (v : Value) (w : World) (hv : SrcV w v l) (hl : l.length ≤ 1048576) : Calls Try.prog 131 #[v] w fun e w' => ∃ v', e = .returned v' ∧ SrcV w' v' (beginL l) ∧ Nw w w' := by
  obtain ⟨A, c, rfl⟩ := hv.shape
  obtain ⟨n, hn⟩ : ∃ n, l.length = n := ⟨_, rfl⟩
  replace hv := src_n hv hn
  rw [hn] at hl ⊢
  have HV := Lib.hid hv
  have HN := Lib.hid hn
  have hmx := src_max hv
  clear hv hn
  have hmix := mixed7
  go_enter Try.func131, Try.ntmps131
  go_wp2_with fail
  go_loopw [3, 4] (fun s i wr => ∃ k : Nat, i = .int .i64 k ∧ k ≤ n ∧ s = .int .i64 (lowTo l k : Nat) ∧ Nw w wr) (fun s i _ => n - (intOf i).toNat)
  case atStart => exact ⟨0, rfl, Nat.zero_le _, rfl, (by repeat (first | exact Kp.refl _ _ | refine Kp.alloc ?_ _ | refine Kp.drew ?_))⟩
  case round =>
    obtain ⟨k, rfl, hk, rfl, hnw⟩ := hrel
    have HK := Lib.hid hnw
    clear hnw
    by_cases hkn : k < n
    · have i0 : (0 : Int) ≤ (k : Int) := by omega
      have i1 : (k : Int) < (n : Int) := by omega
      obtain ⟨s4, hs4⟩ : ∃ s : Nat, k + 1 = s := ⟨_, rfl⟩
      have a4 : IntKind.i64.wrap ((k : Int) + 1) = (s4 : Int) := by rw [IntKind.wrap_i64]; omega
      have H4 := Lib.hid hs4
      have hlw : lowTo l k < n := by
        rcases Nat.eq_zero_or_pos k with h | h
        · subst h; exact hkn
        · have := lowTo_lt (l := l) h; omega
      obtain ⟨q, hqq⟩ : ∃ q, lowTo l k = q := ⟨_, rfl⟩
      rw [hqq] at hlw ⊢
      have b4 : (0 : Int) ≤ (q : Int) := by omega
      have b5 : (q : Int) < (n : Int) := by omega
      obtain ⟨g, o, rfl, hg, hc⟩ := src_at HV.out (by omega)
      obtain ⟨⟨ax, ay⟩, ha⟩ : ∃ p, at_ l k = p := ⟨_, rfl⟩
      obtain ⟨⟨bx, bz⟩, hb⟩ : ∃ p, at_ l q = p := ⟨_, rfl⟩
      have hst : lowTo l (k + 1) = if lessV ax ay bx bz then k else q := by
        show (if lessV (at_ l k).1 (at_ l k).2 (at_ l (lowTo l k)).1 (at_ l (lowTo l k)).2 then k else lowTo l k) = _
        rw [hqq, ha, hb]
      have HST := Lib.hid hst
      have cl := fun w1 => rless_any ax ay bx bz w1
      have q0 := fun p : KeptW wr => (hc p.wd (HK.out.tr p.since) k hkn).1
      have q1 := fun p : KeptW wr => (hc p.wd (HK.out.tr p.since) k hkn).2
      have q2 := fun p : KeptW wr => (hc p.wd (HK.out.tr p.since) q hlw).1
      have q3 := fun p : KeptW wr => (hc p.wd (HK.out.tr p.since) q hlw).2
      rw [ha] at q0 q1
      rw [hb] at q2 q3
      obtain ⟨lt, hlt⟩ : ∃ b, lessV ax ay bx bz = b := ⟨_, rfl⟩
      rw [hlt] at cl HST
      clear hc hg hs4 ha hb hst hlt hlw hqq
      cases lt
      · go_wp2_with fail
        refine wp_region_kept (Kp.refl _ _) (by assumption) (by kernel_rfl) ?_
        repeat (with_reducible refine wpQuiet_step (fun K hK => ?_); go_simp; first | ((with_reducible refine hK _ ?_); clear hK K) | (with_reducible apply Exists.intro; (with_reducible refine ⟨fun _ => ?_, hK _ ?_⟩); ((first | (go_at_call 41; with_reducible exact Calls.kept_of (cl _)) | fail)); clear hK K) | (simp only [undef, reduceCtorEq, if_false]; (with_reducible refine hK _ ?_); clear hK K))
        with_reducible refine wpQuiet_nil ?_
        rintro _ ⟨p, rfl⟩
        go_wp2_with fail
        go_roundw
        case rel => exact ⟨k + 1, by rw [← H4.out], by omega, by rw [HST.out]; rfl, HK.out.tr p.since⟩
        case measure => (have := H4.out; simp [intOf]; try omega)
      · go_wp2_with fail
        refine wp_region_kept (Kp.refl _ _) (by assumption) (by kernel_rfl) ?_
        repeat (with_reducible refine wpQuiet_step (fun K hK => ?_); go_simp; first | ((with_reducible refine hK _ ?_); clear hK K) | (with_reducible apply Exists.intro; (with_reducible refine ⟨fun _ => ?_, hK _ ?_⟩); ((first | (go_at_call 41; with_reducible exact Calls.kept_of (cl _)) | fail)); clear hK K) | (simp only [undef, reduceCtorEq, if_false]; (with_reducible refine hK _ ?_); clear hK K))
        with_reducible refine wpQuiet_nil ?_
        rintro _ ⟨p, rfl⟩
        go_wp2_with fail
        go_roundw
        case rel => exact ⟨k + 1, by rw [← H4.out], by omega, by rw [HST.out]; rfl, HK.out.tr p.since⟩
        case measure => (have := H4.out; simp [intOf]; try omega)
    · obtain rfl : k = n := by omega
      have i5 : ¬ ((k : Int) < (k : Int)) := by omega
      have hlo : lowTo l k ≤ k := by
        rcases Nat.eq_zero_or_pos k with h | h
        · subst h; exact Nat.le_refl _
        · exact Nat.le_of_lt (lowTo_lt h)
      have hbg : beginL l = l.drop (lowTo l k) ++ l.take (lowTo l k) := by unfold beginL low rotL; rw [HN.out]
      obtain ⟨q, hqq⟩ : ∃ q, lowTo l k = q := ⟨_, rfl⟩
      rw [hqq] at hlo hbg ⊢
      have HBG := Lib.hid hbg
      have hv2 : SrcN wr A k c l := HV.out.nw HK.out
      obtain ⟨B1, d1, hr1, hs1, -⟩ := hv2.cutl elemVec Try.underlying36 infoVec q hlo
      obtain ⟨B2, d2, hr2, hs2, -⟩ := hv2.cuth elemVec Try.underlying36 infoVec q hlo
      rw [vdrop] at hs1
      rw [vtake] at hs2
      have HS1 := Lib.hid hs1
      have HS2 := Lib.hid hs2
      have hd : (l.drop q ++ l.take q).length = k := by rw [List.length_append, List.length_drop, List.length_take, HN.out]; omega
      have HD := Lib.hid hd
      have hq1 : k - q + q = k := by omega
      have HSZ := Lib.hid HK.out.size
      clear hs1 hs2 hd hv2 hqq hbg
      go_wp2_with fail
      go_region_law (first
        | (refine step_appG (by rfl) (.tmp 21) (.tmp 24) 36 23 2 16 (.agg #[.int .i64 0, .int .i64 0]) (by rfl) Try.underlying36 infoVec rfl (by omega) wr.heap.size 0 (k - q) (.slice (some ⟨wr.heap.size, 0, none⟩) 0 0) (.slice B1 (k - q) d1) [] ((l.drop q).flatMap vC) (by rfl) (own_lit_at wr wr.heap.size rfl (Nat.le_refl _)) (by rfl) (HS1.out.nw ((nw_alloc wr _).drew)) (flatV_one _) (by omega) (by omega) (by simp) ?_; intro v3 w3 own3 gr3; simp only [Nat.zero_add, List.nil_append] at own3; have hk3 : Nw wr w3 := gr3.nw ((nw_alloc wr _).drew) (by intro kk hkk; simp [Value.ownBlock] at hkk; omega))
        | (refine step_appG (by rfl) (.tmp 25) (.tmp 28) 36 23 2 16 (.agg #[.int .i64 0, .int .i64 0]) (by rfl) Try.underlying36 infoVec rfl (by omega) wr.heap.size (k - q) q v3 (.slice B2 q d2) ((l.drop q).flatMap vC) ((l.take q).flatMap vC) (by rfl) own3 (by rfl) (HS2.out.nw hk3) (flatV_one _) (by omega) (by omega) hk3.size ?_; intro v4 w4 own4 gr4; have hk4 : Nw wr w4 := gr4.nw hk3 (own_from own3)))
      all_goals (
        have HO4 := Lib.hid own4
        have HK4 := Lib.hid hk4
        clear own3 own4 gr3 gr4 hk3 hk4
        go_wp2_with fail
        go_ret
        refine ⟨_, rfl, ?_, HK.out.tr HK4.out⟩
        have h := own_src HO4.out
        rw [← List.flatMap_append, hq1] at h
        rw [HBG.out]
        show Src _ 2 _ (l.drop q ++ l.take q).length _
        rw [HD.out]
        exact h)

end Go.Proofs.Ythiabmcfooobfaa.W
