/-
  digest.Digits: the text of the digits, in new memory. Condition: the number has 64 bits.
-/
import Derived.Test.YtgiogocclkkkhaaDFrom
import Derived.Test.YtgiogocclkkkhaaDHexP
import Derived.IntWalk
namespace Go.Proofs.Ytgiogocclkkkhaa.W
open Go.RowKit Go.Proofs.Ytgiogocclkkkhaa.Pl

/-- block g is just these bytes, of type T -/
def BlkB (w : World) (g T : Nat) (l : List Int) : Prop := w.heap[g]? = some (.cells (bytes l).toArray T)
theorem BlkB.cell {w : World} {g T : Nat} {l : List Int} {k : Nat} {x : Int} (h : BlkB w g T l) (hx : l[k]? = some x) : w.cell? ⟨g, k, none⟩ = some (.int .u8 x) ∧ w.frozen? ⟨g, k, none⟩ = false := by
  unfold BlkB at h
  have : (bytes l)[k]? = some (.int .u8 x) := by unfold bytes; rw [List.getElem?_map, hx]; rfl
  constructor
  · simp [World.cell?, h, this]
  · simp [World.frozen?, h]
theorem BlkB.set_ {w : World} {g T : Nat} {l : List Int} (h : BlkB w g T l) (k : Nat) (x : Int) : BlkB (w.setCell ⟨g, k, none⟩ (.int .u8 x)) g T (l.set k x) := by
  unfold BlkB at h ⊢
  have : bytes (l.set k x) = (bytes l).set k (.int .u8 x) := by unfold bytes; rw [List.map_set]
  rw [this]
  simp [World.setCell, Array.getElem?_modify, h]
theorem BlkB.new (w : World) (T : Nat) (l : List Int) : BlkB (w.alloc (.cells (bytes l).toArray T)) w.heap.size T l := heap_alloc_new w _
theorem BlkB.lt {w : World} {g T : Nat} {l : List Int} (h : BlkB w g T l) : g < w.heap.size := (Array.getElem?_eq_some_iff.1 h).1
theorem BlkB.src {w : World} {g T : Nat} {l : List Int} (h : BlkB w g T l) (c : Nat) : Src w 1 (.slice (some ⟨g, 0, none⟩) l.length c) l.length (bytes l) := by
  refine ⟨by rw [bytes_length]; omega, _, _, rfl, fun _ => ⟨_, rfl, h.lt, fun j u hu => ?_⟩⟩
  obtain ⟨x, hx, rfl⟩ := bytes_at hu
  have e : (⟨g, 0, none⟩ : Addr).add j = ⟨g, j, none⟩ := by
    unfold Addr.add
    split <;> simp_all
  rw [e]
  exact (h.cell hx).1

theorem BlkB.own {w : World} {g B : Nat} {l : List Int} (h : BlkB w g 5 l) (hB : B ≤ g) (hl : l.length ≤ maxLen) : OwnB w B (.slice (some ⟨g, 0, none⟩) l.length l.length) l :=
  ⟨by rw [bytes_length]; omega, .inr ⟨g, l.length, (bytes l).toArray, rfl, hB, h, Nat.le_refl _, hl, by simp [bytes_length], by simp [bytes_length, List.take_of_length_le]⟩⟩

theorem pow16 (m : Nat) : (2 : Int) ^ (4 * m) = 16 ^ m := by
  rw [Int.pow_mul]
  rfl
theorem pow256 (m : Nat) : (2 : Int) ^ (8 * m) = 256 ^ m := by
  rw [Int.pow_mul]
  rfl
theorem div_range {h p : Int} (h0 : 0 ≤ h) (h1 : h < 18446744073709551616) (hp : 1 ≤ p) : 0 ≤ h / p ∧ h / p < 18446744073709551616 :=
  ⟨Int.ediv_nonneg h0 (by omega), Int.lt_of_le_of_lt (Int.ediv_le_self _ h0) h1⟩
theorem pow_pos1 (b m : Nat) (hb : 0 < b) : (1 : Int) ≤ (b : Int) ^ m := by
  have := Int.pow_pos (n := (b : Int)) (m := m) (by omega)
  omega
theorem letter_index {h : Int} {k : Nat} (h0 : 0 ≤ h) (h1 : h < 18446744073709551616) :
    ∃ x : Nat, bits BinOp.and IntKind.u64 (h / 2 ^ (4 * (15 - k))) 15 = (x : Int) ∧ x < 16 ∧ (x : Int) = h / 16 ^ (15 - k) % 16 := by
  rw [pow16]
  obtain ⟨d0, d1⟩ := div_range h0 h1 (pow_pos1 16 (15 - k) (by decide))
  have hc : ((16 : Nat) : Int) = 16 := rfl
  rw [hc] at d0 d1
  refine ⟨(h / 16 ^ (15 - k)).toNat % 16, ?_, by omega, by omega⟩
  rw [u64_and _ _ d0 d1 (by decide) (by decide)]
  have e : (15 : Int).toNat = 15 := rfl
  rw [e, nat_mask4]

set_option maxRecDepth 100000 in
set_option maxHeartbeats 800000 in
theorem digits_any (h : Int) (w : World) (hh : U64 h) :
    Calls Try.prog 31 #[.int .u64 h] w fun e w' => e = .returned (.string (strOfNums (hexL h))) ∧ Below w.heap.size w w' := by
  obtain ⟨h0, h1⟩ := hh
  go_enter Try.func31, Try.ntmps31
  go_wp2
  go_loopw [5] (fun i wr => ∃ (k : Nat) (L : List Int), k ≤ 16 ∧ i = .int .i64 k ∧ Hid (L.length = 16) ∧ Hid (L.take k = (hexL h).take k) ∧ Hid (BlkB wr w.heap.size 88 L) ∧ Below w.heap.size w wr) (fun i _ => 16 - (intOf i).toNat)
  case atStart => exact ⟨0, List.replicate 16 0, by omega, rfl, Lib.hid rfl, Lib.hid rfl, Lib.hid (BlkB.new w _ (List.replicate 16 0)), (Below.refl _ _).alloc (Nat.le_refl _) _⟩
  case round =>
    obtain ⟨k, L, hk, rfl, HL, HT, HB, hb⟩ := hrel
    by_cases hlt : k < 16
    · have hw1 : IntKind.i64.wrap (15 - (k : Int)) = 15 - k := IntWalk.i64_in _ (by omega)
      have hw2 : IntKind.i64.wrap (4 * (15 - (k : Int))) = 4 * (15 - k) := IntWalk.i64_in _ (by omega)
      have hkL : k < L.length := by rw [HL.out]; exact hlt
      obtain ⟨hc, hf⟩ := HB.out.cell (List.getElem?_eq_getElem hkL)
      obtain ⟨x, hx, hx16, hxe⟩ := letter_index (k := k) h0 h1
      have hd := letters ⟨x, hx16⟩
      have HX := Lib.hid (show (hexL h)[k]? = some _ from (hexL_at h k hlt).trans (by rw [← hxe, ← hd]))
      clear hd hxe
      go_wp2
      refine ⟨⟨k + 1, L.set k _, by omega, by go_num, Lib.hid (by rw [List.length_set]; exact HL.out), Lib.hid (set_front HT.out HX.out (by rw [HL.out]; exact hlt)), Lib.hid (HB.out.set_ k _), hb.setCell (Nat.le_refl _) _⟩, by simp [intOf]; omega⟩
    · obtain rfl : k = 16 := by omega
      have hLe : L = hexL h := by
        have := HT.out
        rwa [List.take_of_length_le (by rw [HL.out]; exact Nat.le_refl _), List.take_of_length_le (by rw [hexL_length]; exact Nat.le_refl _)] at this
      subst hLe
      have hs := (HB.out.src 16).convert
      rw [HL.out] at hs
      go_wp2
      go_ret
      exact ⟨rfl, hb⟩
end Go.Proofs.Ytgiogocclkkkhaa.W
