/-
  fretsawlaw04.LexLimits returns true for every number and byte. No condition.
-/
import Derived.Test.YtggdblmjnbnddaaDoorLRo
import Derived.Test.YtggdblmjnbnddaaDoorLCo
namespace Go.Proofs.YtggdblmjnbnddaaDoor.W
open Go.RowKit Go.Proofs.YtggdblmjnbnddaaDoor.Pl

set_option maxRecDepth 100000 in
set_option maxHeartbeats 3200000 in
theorem limits_walk (n c : Int) (hn : 0 ≤ n ∧ n < 65536) (hc : 0 ≤ c ∧ c < 256) (w : World) :
    Calls Tryd.prog 9 #[.int .u16 n, .int .u8 c] w fun e w' => e = .returned (.bool true) ∧ Nw w w' := by
  obtain ⟨k, hk⟩ : ∃ k : Nat, n % 40 + 1 = (k : Int) := ⟨(n % 40 + 1).toNat, by omega⟩
  have hk1' : 1 ≤ k := by omega
  have hk40 : k ≤ 40 := by omega
  obtain ⟨x, hx⟩ : ∃ x : Nat, 97 + c % 26 = (x : Int) := ⟨(97 + c % 26).toNat, by omega⟩
  have hx1 : 97 ≤ x := by omega
  have hx2 : x ≤ 122 := by omega
  go_enter Tryd.func9, Tryd.ntmps9
  go_wp2_with fail
  refine (awake_any _).mono ?_
  rintro e w1 ⟨rfl, hk1⟩
  have HK1 := Lib.hid hk1
  clear hk1
  go_wp2_with fail
  go_loopw [6, 7, 8] (fun a b i wr => ∃ j : Nat, i = .int .i64 j ∧ j ≤ k ∧ a = .string (tx (List.replicate j (UInt8.ofNat x))) ∧ b = .string (tx (List.replicate j 55)) ∧ Nw w wr) (fun _ _ i _ => k - (intOf i).toNat)
  case atStart => exact ⟨0, rfl, Nat.zero_le _, rfl, rfl, HK1.out⟩
  case round =>
    obtain ⟨j, rfl, hj, rfl, rfl, hnw⟩ := hrel
    by_cases hlt : j < k
    · have hd1 : decide ((j : Int) < (k : Int)) = true := decide_eq_true (by omega)
      have hcv := conv_new wr x
      have hs1 : (tx (List.replicate j (UInt8.ofNat x))).size = j := by rw [tx_size, List.length_replicate]
      have hs2 : (tx [UInt8.ofNat x]).size = 1 := by rw [tx_size]; rfl
      have hs3 : (tx (List.replicate j 55)).size = j := by rw [tx_size, List.length_replicate]
      have hc1 : tx (List.replicate j (UInt8.ofNat x)) ++ tx [UInt8.ofNat x] = tx (List.replicate (j + 1) (UInt8.ofNat x)) := by rw [tx_app, List.replicate_succ']
      have hc2 : tx (List.replicate j 55) ++ ByteArray.mk #[55] = tx (List.replicate (j + 1) 55) := by rw [tx_ap1, List.replicate_succ']
      have HW := Lib.hid hnw
      clear hnw
      go_wp2_with fail
      go_roundw
      case rel => exact ⟨j + 1, by go_num, by omega, rfl, rfl, HW.out.alloc _⟩
      case measure => simp [intOf]; omega
    · obtain rfl : j = k := by omega
      have hd1 : decide ((j : Int) < (j : Int)) = false := decide_eq_false (by omega)
      have HW := Lib.hid hnw
      clear hnw
      obtain ⟨i, hi⟩ : ∃ i, j = i + 1 := ⟨j - 1, by omega⟩
      have hltr : ltrI (UInt8.ofNat x).toNat = true := by
        have : (UInt8.ofNat x).toNat = x := by simp; omega
        rw [this]
        unfold ltrI
        simp
        omega
      obtain ⟨v, hv, hnum⟩ := lx_number i
      have hnam := lx_name hltr i
      have hisn := name_repl hltr i
      rw [← hi] at hnum hnam hisn
      have h1 := fun w1 => tokens_any (List.replicate j (UInt8.ofNat x)) w1 (by simp; omega)
      have h2 := fun w1 => tokens_any (120 :: 32 :: 45 :: List.replicate j 55) w1 (by simp; omega)
      have h3 := fun w1 => isName_any (List.replicate j (UInt8.ofNat x)) w1 (by simp; omega)
      rw [(toks_len _ (by simp; omega)).2, hnam] at h1
      rw [(toks_len _ (by simp; omega)).2, hnum] at h2
      rw [hisn] at h3
      have hs3 : (tx (List.replicate j 55)).size = j := by rw [tx_size, List.length_replicate]
      have hc3 : ByteArray.mk #[120, 32, 45] ++ tx (List.replicate j 55) = tx (120 :: 32 :: 45 :: List.replicate j 55) := by rw [tx_ap2]; rfl
      clear hnum hnam hisn hi hx hk
      by_cases h16 : j ≤ 16
      · rw [if_pos h16] at h1
        rw [decide_eq_true h16] at h3
        have hd16 : decide ((j : Int) ≤ 16) = true := decide_eq_true (by omega)
        have hts := tx_toList (List.replicate j (UInt8.ofNat x))
        by_cases h9 : j ≤ 9
        · rw [if_pos h9] at h2
          have hd9 : decide ((j : Int) ≤ 9) = true := decide_eq_true (by omega)
          go_wp2_with fail
          refine (h1 _).mono ?_
          rintro e w2 ⟨v2, rfl, hown2, hk2⟩
          obtain ⟨g, cap, hv2, hcap, hcap2, _⟩ := own_form hown2 (by simp)
          subst hv2
          have HO2 := Lib.hid (OwnTk.src hown2)
          have HK2 := Lib.hid (HW.out.tr hk2)
          clear hown2 hk2 h1
          go_wp2_with fail
          refine (h2 _).mono ?_
          rintro e w3 ⟨v3, rfl, hown3, hk3⟩
          obtain ⟨g3, cap3, hv3, hcap3, hcap4, _⟩ := own_form hown3 (by simp)
          subst hv3
          obtain ⟨_, a1, _, _⟩ := (HO2.out.nw hk3).at_ rfl (i := 0) rfl
          obtain ⟨_, _, b2, _⟩ := (OwnTk.src hown3).at_ rfl (i := 1) rfl
          have c1 : w3.cell? ⟨g, 1, none⟩ = some (.string (tx (List.replicate j (UInt8.ofNat x)))) := a1
          have d2 : w3.cell? ⟨g3, 6, none⟩ = some (.int .i64 v) := b2
          have hcap1 : 1 ≤ cap := hcap
          have hcap5 : 2 ≤ cap3 := hcap3
          have HK3 := Lib.hid (HK2.out.tr hk3)
          clear hown3 hk3 h2 a1 b2 hcap hcap3
          go_wp2_with fail
          refine (h3 _).mono ?_
          rintro e w4 ⟨rfl, rfl⟩
          go_wp2_with fail
          go_ret
          exact ⟨rfl, HK3.out⟩
        · rw [if_neg h9] at h2
          have hd9 : decide ((j : Int) ≤ 9) = false := decide_eq_false (by omega)
          go_wp2_with fail
          refine (h1 _).mono ?_
          rintro e w2 ⟨v2, rfl, hown2, hk2⟩
          obtain ⟨g, cap, hv2, hcap, hcap2, _⟩ := own_form hown2 (by simp)
          subst hv2
          have HO2 := Lib.hid (OwnTk.src hown2)
          have HK2 := Lib.hid (HW.out.tr hk2)
          clear hown2 hk2 h1
          go_wp2_with fail
          refine (h2 _).mono ?_
          rintro e w3 ⟨v3, rfl, hown3, hk3⟩
          obtain ⟨_, a1, _, _⟩ := (HO2.out.nw hk3).at_ rfl (i := 0) rfl
          have c1 : w3.cell? ⟨g, 1, none⟩ = some (.string (tx (List.replicate j (UInt8.ofNat x)))) := a1
          have hcap1 : 1 ≤ cap := hcap
          have HK3 := Lib.hid (HK2.out.tr hk3)
          clear hown3 hk3 h2 a1 hcap
          go_wp2_with fail
          refine (h3 _).mono ?_
          rintro e w4 ⟨rfl, rfl⟩
          go_wp2_with fail
          go_ret
          exact ⟨rfl, HK3.out⟩
      · have h9 : ¬ j ≤ 9 := by omega
        rw [if_neg h16] at h1
        rw [if_neg h9] at h2
        rw [decide_eq_false h16] at h3
        have hd16 : decide ((j : Int) ≤ 16) = false := decide_eq_false (by omega)
        have hd9 : decide ((j : Int) ≤ 9) = false := decide_eq_false (by omega)
        go_wp2_with fail
        refine (h1 _).mono ?_
        rintro e w2 ⟨v2, rfl, hown2, hk2⟩
        have HK2 := Lib.hid (HW.out.tr hk2)
        clear hown2 hk2 h1
        go_wp2_with fail
        refine (h2 _).mono ?_
        rintro e w3 ⟨v3, rfl, hown3, hk3⟩
        have HK3 := Lib.hid (HK2.out.tr hk3)
        clear hown3 hk3 h2
        go_wp2_with fail
        refine (h3 _).mono ?_
        rintro e w4 ⟨rfl, rfl⟩
        go_wp2_with fail
        go_ret
        exact ⟨rfl, HK3.out⟩
end Go.Proofs.YtggdblmjnbnddaaDoor.W
