/-
  fretsawref02.eight, fretsawref02.Digits: the eight bytes of a number, the text of its digits, in new memory. Condition: the number has 64 bits.
-/
import Derived.Test.YtgiogocclkkkhaaDHex
namespace Go.Proofs.Ytgiogocclkkkhaa.W
open Go.RowKit Go.Proofs.Ytgiogocclkkkhaa.Pl

theorem mk8 : ∀ w, (Instr.makeSlice 22 (.int .i64 8) (.int .i64 8)).run Try.prog w = .ok (.slice (some ⟨w.heap.size, 0, none⟩) 8 8) (w.alloc (.cells (bytes (List.replicate 8 0)).toArray 5)) := fun _ => by kernel_rfl
theorem mk16 : ∀ w, (Instr.makeSlice 22 (.int .i64 16) (.int .i64 16)).run Try.prog w = .ok (.slice (some ⟨w.heap.size, 0, none⟩) 16 16) (w.alloc (.cells (bytes (List.replicate 16 0)).toArray 5)) := fun _ => by kernel_rfl
theorem div_step {h b : Int} {j : Nat} (hb : 0 < b) : h / b ^ j / b = h / b ^ (j + 1) := by
  rw [Int.pow_succ, Int.ediv_ediv_of_nonneg (Int.le_of_lt (Int.pow_pos hb))]

set_option maxRecDepth 100000 in
set_option maxHeartbeats 800000 in
theorem eight_any (h : Int) (w : World) (hh : U64 h) :
    Calls Try.prog 60 #[.int .u64 h] w fun e w' => ∃ v, e = .returned v ∧ OwnB w' w.heap.size v (dgs 256 8 h) ∧ Below w.heap.size w w' := by
  have hm := mk8 w
  go_enter Try.func60, Try.ntmps60
  go_wp2
  clear hm
  go_loopw [0, 4] (fun n i wr => ∃ (k : Nat) (L : List Int) (m : Int), k ≤ 8 ∧ i = .int .i64 (k - 1) ∧ n = .int .u64 m ∧ Hid (m = h / 256 ^ (8 - k)) ∧ U64 m ∧ Hid (L.length = 8) ∧ Hid (L.drop k = (dgs 256 8 h).drop k) ∧ Hid (BlkB wr w.heap.size 5 L) ∧ Below w.heap.size w wr) (fun _ i _ => (intOf i + 1).toNat)
  case atStart => exact ⟨8, List.replicate 8 0, h, by omega, rfl, rfl, Lib.hid (by simp), hh, Lib.hid rfl, Lib.hid (by simp [dgs_length]), Lib.hid (BlkB.new w _ (List.replicate 8 0)), (Below.refl _ _).alloc (Nat.le_refl _) _⟩
  case round =>
    obtain ⟨k, L, m, hk, rfl, rfl, HM, ⟨m0, m1⟩, HL, HT, HB, hb⟩ := hrel
    cases k with
    | succ j =>
      have e0 : ((j + 1 : Nat) : Int) - 1 = (j : Int) := by omega
      have hkL : j < L.length := by rw [HL.out]; omega
      obtain ⟨hc, hf⟩ := HB.out.cell (List.getElem?_eq_getElem hkL)
      have hx := dgs_at (b := 256) (by decide) 8 h j (by omega)
      have e7 : 8 - (j + 1) = 8 - 1 - j := by omega
      have e8 : 8 - 1 - j + 1 = 8 - j := by omega
      have HX := Lib.hid (show (dgs 256 8 h)[j]? = some (m % 256) by rw [hx, HM.out, e7])
      have HM2 := Lib.hid (show m / 256 = h / 256 ^ (8 - j) by rw [HM.out, div_step (by decide), e7, e8])
      have hm2 : U64 (m / 256) := ⟨by omega, by omega⟩
      clear hx e7 e8
      rw [e0]
      clear e0
      go_wp2
      refine ⟨⟨j, L.set j _, m / 256, by omega, rfl, rfl, HM2, hm2, Lib.hid (by rw [List.length_set]; exact HL.out), Lib.hid (set_back HT.out HX.out hkL), Lib.hid (HB.out.set_ j _), hb.setCell (Nat.le_refl _) _⟩, by simp [intOf]⟩
    | zero =>
      have hLe : L = dgs 256 8 h := by simpa using HT.out
      subst hLe
      go_wp2
      go_ret
      have ho := HB.out.own (B := w.heap.size) (Nat.le_refl _) (by rw [dgs_length]; decide)
      rw [dgs_length] at ho
      exact ⟨_, rfl, ho, hb⟩

set_option maxRecDepth 100000 in
set_option maxHeartbeats 800000 in
theorem refDigits_any (h : Int) (w : World) (hh : U64 h) :
    Calls Try.prog 32 #[.int .u64 h] w fun e w' => e = .returned (.string (strOfNums (hexL h))) ∧ Below w.heap.size w w' := by
  have hm := mk16 w
  go_enter Try.func32, Try.ntmps32
  go_wp2
  clear hm
  go_loopw [0, 5] (fun n i wr => ∃ (k : Nat) (L : List Int) (m : Int), k ≤ 16 ∧ i = .int .i64 (k - 1) ∧ n = .int .u64 m ∧ Hid (m = h / 16 ^ (16 - k)) ∧ U64 m ∧ Hid (L.length = 16) ∧ Hid (L.drop k = (hexL h).drop k) ∧ Hid (BlkB wr w.heap.size 5 L) ∧ Below w.heap.size w wr) (fun _ i _ => (intOf i + 1).toNat)
  case atStart => exact ⟨16, List.replicate 16 0, h, by omega, rfl, rfl, Lib.hid (by simp), hh, Lib.hid rfl, Lib.hid (by simp [hexL_length]), Lib.hid (BlkB.new w _ (List.replicate 16 0)), (Below.refl _ _).alloc (Nat.le_refl _) _⟩
  case round =>
    obtain ⟨k, L, m, hk, rfl, rfl, HM, ⟨m0, m1⟩, HL, HT, HB, hb⟩ := hrel
    cases k with
    | succ j =>
      have e0 : ((j + 1 : Nat) : Int) - 1 = (j : Int) := by omega
      have hkL : j < L.length := by rw [HL.out]; omega
      obtain ⟨hc, hf⟩ := HB.out.cell (List.getElem?_eq_getElem hkL)
      have hx := hexL_at h j (by omega)
      have e7 : 16 - (j + 1) = 15 - j := by omega
      have e8 : 15 - j + 1 = 16 - j := by omega
      obtain ⟨x, hxe, hx16⟩ : ∃ x : Nat, m % 16 = (x : Int) ∧ x < 16 := ⟨(m % 16).toNat, by omega, by omega⟩
      have hd := letters ⟨x, hx16⟩
      have HX := Lib.hid (show (hexL h)[j]? = some _ by rw [hx, ← e7, ← HM.out, hxe, ← hd])
      have HM2 := Lib.hid (show m / 16 = h / 16 ^ (16 - j) by rw [HM.out, div_step (by decide), e7, e8])
      have hm2 : U64 (m / 16) := ⟨by omega, by omega⟩
      clear hx e7 e8 hd
      rw [e0]
      clear e0
      go_wp2
      refine ⟨⟨j, L.set j _, m / 16, by omega, rfl, rfl, HM2, hm2, Lib.hid (by rw [List.length_set]; exact HL.out), Lib.hid (set_back HT.out HX.out hkL), Lib.hid (HB.out.set_ j _), hb.setCell (Nat.le_refl _) _⟩, by simp [intOf]⟩
    | zero =>
      have hLe : L = hexL h := by simpa using HT.out
      subst hLe
      have hs := (HB.out.src 16).convert
      rw [HL.out] at hs
      go_wp2
      go_ret
      exact ⟨rfl, hb⟩
end Go.Proofs.Ytgiogocclkkkhaa.W
