/-
  fretsawlaw04.LexOffsets returns true for every text. Condition: the table of the powers of ten is laid.
-/
import Derived.Test.YtggdblmjnbnddaaDoorLRo
import Derived.BigQuiet
namespace Go.Proofs.YtggdblmjnbnddaaDoor.W
open Go.RowKit Go.Proofs.YtggdblmjnbnddaaDoor.Pl

set_option maxRecDepth 100000 in
set_option maxHeartbeats 2000000 in
theorem offsets_walk (s : ByteArray) (w : World) (hT : Tab w) :
    Calls Tryd.prog 5 #[.string s] w fun e w' => e = .returned (.bool true) ∧ Nw w w' := by
  obtain ⟨l, rfl⟩ : ∃ l, tx l = s := ⟨_, tx_of s⟩
  have hsz := tx_size l
  obtain ⟨n, hn⟩ : ∃ n, l.length = n := ⟨_, rfl⟩
  rw [hn] at hsz
  have HN := Lib.hid hn
  clear hn
  by_cases hbig : 600 < n
  · go_enter Tryd.func5, Tryd.ntmps5
    go_wp2_with (go_at_call 10; ((with_reducible refine (awake_any _).mono ?_); rintro e w1 ⟨rfl, hk1⟩))
    go_ret
    exact ⟨rfl, hk1⟩
  · go_enter Tryd.func5, Tryd.ntmps5
    have hG := toks_of l (by have := HN.out; omega)
    have hform := (lx_form 0 l).2
    have hoff := lx_offs l _ 0 l (Nat.le_refl _) (List.drop_zero) (Nat.zero_le _)
    rw [← (toks_len l (by have := HN.out; omega)).2] at hform hoff
    obtain ⟨⟨ts, a, er⟩, hz⟩ : ∃ z, toks l = z := ⟨_, rfl⟩
    have h1 := fun w1 => tokens_any l w1 (by have := HN.out; omega)
    rw [hz] at hG h1 hform hoff
    have htl : ts.length ≤ 600 := hG.len
    have HF := Lib.hid (show ∀ t ∈ ts, Fit t from hG.fit)
    have HOF := Lib.hid (show offs l 0 ts from hoff)
    have HFO := Lib.hid (show er ≠ 0 → ts = [] from hform)
    clear hz hG hoff hform
    go_wp2_with fail
    refine (awake_any _).mono ?_
    rintro e w1 ⟨rfl, hk1⟩
    have HK1 := Lib.hid hk1
    clear hk1
    go_wp2_with fail
    refine (h1 _).mono ?_
    rintro e w2 ⟨v2, rfl, hown2, hk2⟩
    have HO2 := Lib.hid (OwnTk.src hown2)
    have HK2 := Lib.hid (HK1.out.tr hk2)
    obtain ⟨A, cap, rfl⟩ := HO2.out.shape
    clear hown2 hk2 h1
    by_cases her : er = 0
    · subst her
      obtain ⟨q, hq⟩ : ∃ q, ts.length = q := ⟨_, rfl⟩
      have HQ := Lib.hid hq
      have hlq : (ts, a, (0 : Int)).1.length = q := hq
      rw [hlq] at *
      clear hq hlq
      go_wp2_with fail
      go_loopw [6, 7] (fun m i wr => ∃ (k nx : Nat), i = .int .i64 k ∧ m = .int .i64 nx ∧ k ≤ q ∧ offs l nx (ts.drop k) ∧ Nw w2 wr) (fun _ i _ => q - (intOf i).toNat)
      case atStart => exact ⟨0, 0, rfl, rfl, Nat.zero_le _, HOF.out, Kp.refl _ _⟩
      case round =>
        obtain ⟨k, nx, rfl, rfl, hk, hof, hnw⟩ := hrel
        by_cases hlt : k < q
        · have hkl : k < ts.length := by have := HQ.out; omega
          obtain ⟨x, hx⟩ : ∃ x, ts[k]? = some x := ⟨_, List.getElem?_eq_getElem hkl⟩
          have hdk : ts.drop k = x :: ts.drop (k + 1) := by
            obtain ⟨h1, h2⟩ := List.getElem?_eq_some_iff.1 hx
            rw [List.drop_eq_getElem_cons h1, h2]
          rw [hdk] at hof
          obtain ⟨b, hb, hnb, hwx, hbn, hcut, hkind, hof⟩ := hof
          have hsu := (HO2.out).nw hnw
          obtain ⟨g, o, c2, hv2, _, _⟩ := hsu.form (by omega)
          simp only [Value.slice.injEq] at hv2
          have hA := hv2.1
          clear hv2
          obtain ⟨x0, x1, x2, x3⟩ := hsu.at_ hA hx
          subst hA
          rw [hb] at x3
          obtain ⟨t, ht⟩ : ∃ t, Pl.wr x = t := ⟨_, rfl⟩
          obtain ⟨m, hm⟩ : ∃ m, t.length = m := ⟨_, rfl⟩
          rw [ht] at hwx hbn hcut hkind hof
          rw [hm, HN.out] at hbn
          rw [hm] at hcut hof
          have hm1 : 1 ≤ m := by
            rw [← hm]
            cases t with
            | nil => exact absurd rfl hwx
            | cons _ _ => simp
          have hst := tx_size t
          rw [hm] at hst
          have hsl : (tx l).extract b (b + m) = tx t := by rw [tx_cut, Nat.add_sub_cancel_left, hcut]
          have hww := fun w1 => write_any x w1 (HF.out x (List.mem_of_getElem? hx))
          rw [ht, hb] at hww
          have hnm := fun w1 => isName_any t w1 (by rw [hm]; omega)
          rw [← hkind] at hnm
          have hkn : (k : Int) < (q : Int) := by omega
          have hd1 : decide ((k : Int) < (q : Int)) = true := decide_eq_true hkn
          obtain ⟨r, hr⟩ : ∃ r, n - b = r := ⟨_, rfl⟩
          obtain ⟨z, hz⟩ : ∃ z, b + m = z := ⟨_, rfl⟩
          have hn6 : n ≤ 600 := by omega
          have hbz : b ≤ z := hz ▸ Nat.le_add_right b m
          have hzn : z ≤ n := hz ▸ hbn
          have hd2 : decide (b < nx) = false := decide_eq_false (by omega)
          have hd5 : decide (r < m) = false := decide_eq_false (by omega)
          have hd3 : ((m : Int) == 0) = false := by rw [beq_eq_false_iff_ne]; omega
          have hnr : (n : Int) - (b : Int) = (r : Int) := by omega
          have hbm : (b : Int) + (m : Int) = (z : Int) := by omega
          have hw4 : IntKind.i64.wrap ((n : Int) - (b : Int)) = (r : Int) := by rw [hnr]; exact IntWalk.i64_in _ (by omega)
          have hw6 : IntKind.i64.wrap ((b : Int) + (m : Int)) = (z : Int) := by rw [hbm]; exact IntWalk.i64_in _ (by omega)
          have hw7 : wrap64 ((b : Int) + (m : Int)) = (z : Int) := by rw [hbm]; exact IntWalk.wrap64_in _ (by omega)
          clear hnr hbm
          rw [hz] at hsl hof
          have HR := Lib.hid hr
          have HZ := Lib.hid hz
          clear hr hz
          have HOF2 := Lib.hid hof
          have HX := Lib.hid hx
          have HB := Lib.hid hb
          have HW := Lib.hid hnw
          have HT := Lib.hid (hT.nw (HK2.out.tr hnw))
          clear hx hdk hof hb hwx hcut hkind hsu hnw ht hm
          go_wp2_with fail
          with_reducible refine (hww _ HT.out).mono ?_
          rintro e w3 ⟨rfl, hk3⟩
          have hn3 := HW.out.tr hk3
          obtain ⟨y0, y1, y2, y3⟩ := ((HO2.out).nw hn3).at_ rfl HX.out
          rw [HB.out] at y3
          have HN3 := Lib.hid hn3
          clear hk3 hn3 x0 x1 x2 x3 hww y1 y2
          go_wp2_with fail
          go_quiet ((go_at_call 17; exact Calls.quiet_of_same ((hnm _).mono fun _ _ h => ⟨h.1, h.2.symm⟩)))
          generalize hw5 : World.drewN w3 _ = w5
          have hk5 : Nw w3 w5 := by rw [← hw5]; exact (Kp.refl _ w3).drewN _
          have y3' : w5.cell? ⟨g, o + k * 4 + 3, none⟩ = some (.int .i64 (b : Int)) := by rw [← hw5]; exact y3
          have HN5 := Lib.hid (HN3.out.tr hk5)
          clear hw5 hk5 y0 y3 hw4 hw6 hd2 hd5 hd3 hsl hnm
          go_wp2_with fail
          go_roundw
          case rel => exact ⟨k + 1, z, by go_num, by rw [← HZ.out]; go_num, by omega, HOF2.out, HN5.out⟩
          case measure => simp [intOf]; omega
        · obtain rfl : k = q := by omega
          have hd1 : decide ((k : Int) < (k : Int)) = false := decide_eq_false (by omega)
          have HW := Lib.hid hnw
          clear hof hnw
          go_wp2_with fail
          go_ret
          exact ⟨rfl, HK2.out.tr HW.out⟩
    · have hts := HFO.out her
      subst hts
      go_wp2_with fail
      go_ret
      exact ⟨rfl, HK2.out⟩
end Go.Proofs.YtggdblmjnbnddaaDoor.W
