/-
  fretsawref02.Parse: the number with the given digits. No condition.
-/
import Derived.Test.YtgiogocclkkkhaaDParse
namespace Go.Proofs.Ytgiogocclkkkhaa.W
open Go.RowKit Go.Proofs.Ytgiogocclkkkhaa.Pl

set_option maxRecDepth 100000 in
set_option maxHeartbeats 800000 in
theorem refParse_any (s : ByteArray) (w : World) :
    Calls Try.prog 30 #[.string s] w fun e w' => e = .returned (.tuple #[.int .u64 (prsV (strL s)), .int .i64 (prsE (strL s))]) ∧ w = w' := by
  have hlen := strL_length s
  by_cases h16 : s.size = 16
  · have hne : ((s.size : Int) != 16) = false := by simp [h16]
    have HLEN := Lib.hid (hlen.trans h16)
    have hn2 : s.size ≤ 16 := by omega
    have hn3 : 16 ≤ s.size := by omega
    clear hlen h16
    go_enter Try.func30, Try.ntmps30
    go_wp2
    go_loop [4, 5] (fun h i => ∃ (k : Nat) (m : Int), k ≤ 16 ∧ h = .int .u64 m ∧ i = .int .i64 k ∧ Hid (prsF 0 ((strL s).take k) = some m)) (fun _ i => 16 - (intOf i).toNat)
    case atStart => exact ⟨0, 0, by omega, rfl, rfl, Lib.hid rfl⟩
    case round =>
      obtain ⟨k, m, hk, rfl, rfl, HP⟩ := hrel
      by_cases hlt : k < 16
      · have hks : k < s.size := by omega
        have hx := strL_at hks
        have hr := prs_room HP.out hlt
        obtain ⟨r0, r1⟩ := hr
        obtain ⟨x, hxe⟩ : ∃ x : Nat, (s[k]'hks).toNat = x := ⟨_, rfl⟩
        have hx255 : x < 256 := by rw [← hxe]; exact (s[k]'hks).toNat_lt
        rw [hxe] at hx
        have HX := Lib.hid hx
        clear hx
        by_cases ha : 48 ≤ (x : Int)
        · by_cases hb : (x : Int) ≤ 57
          · have HN := Lib.hid (prs_take HP.out HX.out (show hexv (x : Int) = some ((x : Int) - 48) by unfold hexv; rw [if_pos ⟨ha, hb⟩]))
            go_wp2
            exact ⟨⟨k + 1, m * 16 + ((x : Int) - 48), by omega, rfl, by go_num, HN⟩, by simp [intOf]; omega⟩
          · by_cases hc : 97 ≤ (x : Int)
            · by_cases hd : (x : Int) ≤ 102
              · have HN := Lib.hid (prs_take HP.out HX.out (show hexv (x : Int) = some ((x : Int) - 97 + 10) by unfold hexv; rw [if_neg (by omega), if_pos ⟨hc, hd⟩]; congr 1; omega))
                go_wp2
                exact ⟨⟨k + 1, m * 16 + ((x : Int) - 97 + 10), by omega, by congr 1; omega, by go_num, HN⟩, by simp [intOf]; omega⟩
              · obtain ⟨e1, e2⟩ := prs_none (prs_at HX.out (show hexv (x : Int) = none by unfold hexv; rw [if_neg (by omega), if_neg (by omega)]))
                have E1 := Lib.hid e1
                have E2 := Lib.hid e2
                clear e1 e2
                go_wp2
                go_ret2
                exact ⟨ret_two (val_u64 E1.out.symm) (val_i64 E2.out.symm), rfl⟩
            · obtain ⟨e1, e2⟩ := prs_none (prs_at HX.out (show hexv (x : Int) = none by unfold hexv; rw [if_neg (by omega), if_neg (by omega)]))
              have E1 := Lib.hid e1
              have E2 := Lib.hid e2
              clear e1 e2
              go_wp2
              go_ret2
              exact ⟨ret_two (val_u64 E1.out.symm) (val_i64 E2.out.symm), rfl⟩
        · obtain ⟨e1, e2⟩ := prs_none (prs_at HX.out (show hexv (x : Int) = none by unfold hexv; rw [if_neg (by omega), if_neg (by omega)]))
          have E1 := Lib.hid e1
          have E2 := Lib.hid e2
          clear e1 e2
          go_wp2
          go_ret2
          exact ⟨ret_two (val_u64 E1.out.symm) (val_i64 E2.out.symm), rfl⟩
      · obtain rfl : k = 16 := by omega
        obtain ⟨e1, e2⟩ := prs_some (prs_end HLEN.out HP.out)
        have E1 := Lib.hid e1
        have E2 := Lib.hid e2
        clear e1 e2
        go_wp2
        go_ret2
        exact ⟨ret_two (val_u64 E1.out.symm) (val_i64 E2.out.symm), rfl⟩
  · have hne : ((s.size : Int) != 16) = true := by rw [bne_iff_ne]; omega
    obtain ⟨e1, e2⟩ := prs_none (prs_len (l := strL s) (by rw [hlen]; exact h16))
    rw [e1, e2]
    clear e1 e2 h16 hlen
    go_enter Try.func30, Try.ntmps30
    go_wp2
    go_ret2
    exact ⟨rfl, rfl⟩
end Go.Proofs.Ytgiogocclkkkhaa.W
