/-
  digest.sumBytes: the eight bytes of the checksum, as an array. Condition: the list is shorter than 2^62.
-/
import Derived.Test.YtgiogocclkkkhaaDHex
namespace Go.Proofs.Ytgiogocclkkkhaa.W
open Go.RowKit Go.Proofs.Ytgiogocclkkkhaa.Pl

theorem BlkB.far {w : World} {g T b k : Nat} {l : List Int} (h : BlkB w g T l) (u : Value) (hne : g ≠ b) : BlkB (w.setCell ⟨b, k, none⟩ u) g T l :=
  (Below.heap_setCell w ⟨b, k, none⟩ u g hne).trans h
theorem BlkB.alloc {w : World} {g T : Nat} {l : List Int} (h : BlkB w g T l) (o : Obj) : BlkB (w.alloc o) g T l := (Below.heap_alloc w o g h.lt).trans h
theorem byte_of {h : Int} {k : Nat} : IntKind.u8.wrap (h / 2 ^ (8 * (7 - k))) = h / 256 ^ (7 - k) % 256 := by
  rw [pow256, IntKind.wrap_u8]

set_option maxRecDepth 100000 in
set_option maxHeartbeats 800000 in
theorem sumBytes_any (v : Value) (l : List Int) (w : World) (hv : Src w 1 v l.length (bytes l)) (hb : By l) (hl : l.length ≤ 4611686018427387904) :
    Calls Try.prog 59 #[v] w fun e w' => e = .returned (.agg (bytes (dgs 256 8 (sum 1 l))).toArray) ∧ Below w.heap.size w w' := by
  obtain ⟨h0, h1⟩ := sum_u64 1 l u64_1
  obtain ⟨h, hs⟩ : ∃ h, sum 1 l = h := ⟨_, rfl⟩
  rw [hs] at h0 h1 ⊢
  have HS := Lib.hid hs
  clear hs
  go_enter Try.func59, Try.ntmps59
  go_wp2_with (go_at_call 20; (with_reducible refine (of_any _ l _ (hv.alloc _) hb hl).mono ?_); rintro e w' ⟨rfl, rfl⟩; rw [HS.out])
  have B1 := BlkB.alloc (BlkB.new w 83 (List.replicate 8 0)) (.cells (bytes (List.replicate 8 0)).toArray 83)
  have B2 := BlkB.new (w.alloc (.cells (bytes (List.replicate 8 0)).toArray 83)) 83 (List.replicate 8 0)
  have hz : (w.alloc (.cells (bytes (List.replicate 8 0)).toArray 83)).heap.size = w.heap.size + 1 := by simp
  rw [hz] at B2
  clear hz
  have B3 := ((Below.refl w.heap.size w).alloc (Nat.le_refl _) (.cells (bytes (List.replicate 8 0)).toArray 83)).alloc (by simp) (.cells (bytes (List.replicate 8 0)).toArray 83)
  have K1 := Lib.hid B1
  have K2 := Lib.hid B2
  clear B1 B2
  go_loopw [8] (fun i wr => ∃ (k : Nat) (L : List Int), k ≤ 8 ∧ i = .int .i64 k ∧ Hid (L.length = 8) ∧ Hid (L.take k = (dgs 256 8 h).take k) ∧ Hid (BlkB wr w.heap.size 83 (List.replicate 8 0)) ∧ Hid (BlkB wr (w.heap.size + 1) 83 L) ∧ Below w.heap.size w wr) (fun i _ => 8 - (intOf i).toNat)
  case atStart => exact ⟨0, List.replicate 8 0, by omega, rfl, Lib.hid rfl, Lib.hid rfl, K1, K2, B3⟩
  case round =>
    obtain ⟨k, L, hk, rfl, HL, HT, HA, HB, hb⟩ := hrel
    by_cases hlt : k < 8
    · have hw1 : IntKind.i64.wrap (7 - (k : Int)) = 7 - k := IntWalk.i64_in _ (by omega)
      have hw2 : IntKind.i64.wrap (8 * (7 - (k : Int))) = 8 * (7 - k) := IntWalk.i64_in _ (by omega)
      have hkL : k < L.length := by rw [HL.out]; exact hlt
      obtain ⟨hc, hf⟩ := HB.out.cell (List.getElem?_eq_getElem hkL)
      have hx := byte_of (h := h) (k := k)
      have HX := Lib.hid (show (dgs 256 8 h)[k]? = some (h / 256 ^ (7 - k) % 256) from dgs_at (by decide) 8 h k hlt)
      go_wp2
      refine ⟨⟨k + 1, L.set k _, by omega, by go_num, Lib.hid (by rw [List.length_set]; exact HL.out), Lib.hid (set_front HT.out HX.out hkL), Lib.hid (HA.out.far _ (by omega)), Lib.hid (HB.out.set_ k _), hb.setCell (by simp) _⟩, by simp [intOf]; omega⟩
    · obtain rfl : k = 8 := by omega
      have hLe : L = dgs 256 8 h := by
        have := HT.out
        rwa [List.take_of_length_le (by rw [HL.out]; exact Nat.le_refl _), List.take_of_length_le (by rw [dgs_length]; exact Nat.le_refl _)] at this
      subst hLe
      obtain ⟨x0, x1, x2, x3, x4, x5, x6, x7, hE⟩ : ∃ x0 x1 x2 x3 x4 x5 x6 x7, dgs 256 8 h = [x0, x1, x2, x3, x4, x5, x6, x7] := ⟨_, _, _, _, _, _, _, _, rfl⟩
      rw [hE] at HB ⊢
      have c0 := (HB.out.cell (k := 0) rfl).1
      have c1 := (HB.out.cell (k := 1) rfl).1
      have c2 := (HB.out.cell (k := 2) rfl).1
      have c3 := (HB.out.cell (k := 3) rfl).1
      have c4 := (HB.out.cell (k := 4) rfl).1
      have c5 := (HB.out.cell (k := 5) rfl).1
      have c6 := (HB.out.cell (k := 6) rfl).1
      have c7 := (HB.out.cell (k := 7) rfl).1
      have d0 := HA.out.cell (k := 0) rfl
      have d1 := HA.out.cell (k := 1) rfl
      have d2 := HA.out.cell (k := 2) rfl
      have d3 := HA.out.cell (k := 3) rfl
      have d4 := HA.out.cell (k := 4) rfl
      have d5 := HA.out.cell (k := 5) rfl
      have d6 := HA.out.cell (k := 6) rfl
      have d7 := HA.out.cell (k := 7) rfl
      have HE := Lib.hid hE
      clear hE
      go_wp2
      have F : BlkB ((((((((wr.setCell ⟨w.heap.size, 0, none⟩ (.int .u8 x0)).setCell ⟨w.heap.size, 1, none⟩ (.int .u8 x1)).setCell ⟨w.heap.size, 2, none⟩ (.int .u8 x2)).setCell ⟨w.heap.size, 3, none⟩ (.int .u8 x3)).setCell ⟨w.heap.size, 4, none⟩ (.int .u8 x4)).setCell ⟨w.heap.size, 5, none⟩ (.int .u8 x5)).setCell ⟨w.heap.size, 6, none⟩ (.int .u8 x6)).setCell ⟨w.heap.size, 7, none⟩ (.int .u8 x7)) w.heap.size 83 [x0, x1, x2, x3, x4, x5, x6, x7] :=
        (((((((HA.out.set_ 0 x0).set_ 1 x1).set_ 2 x2).set_ 3 x3).set_ 4 x4).set_ 5 x5).set_ 6 x6).set_ 7 x7
      have hb2 := (((((((hb.setCell (p := ⟨w.heap.size, 0, none⟩) (Nat.le_refl _) (.int .u8 x0)).setCell (p := ⟨w.heap.size, 1, none⟩) (Nat.le_refl _) (.int .u8 x1)).setCell (p := ⟨w.heap.size, 2, none⟩) (Nat.le_refl _) (.int .u8 x2)).setCell (p := ⟨w.heap.size, 3, none⟩) (Nat.le_refl _) (.int .u8 x3)).setCell (p := ⟨w.heap.size, 4, none⟩) (Nat.le_refl _) (.int .u8 x4)).setCell (p := ⟨w.heap.size, 5, none⟩) (Nat.le_refl _) (.int .u8 x5)).setCell (p := ⟨w.heap.size, 6, none⟩) (Nat.le_refl _) (.int .u8 x6)).setCell (p := ⟨w.heap.size, 7, none⟩) (Nat.le_refl _) (.int .u8 x7)
      revert F hb2
      generalize (((((((wr.setCell ⟨w.heap.size, 0, none⟩ (.int .u8 x0)).setCell ⟨w.heap.size, 1, none⟩ (.int .u8 x1)).setCell ⟨w.heap.size, 2, none⟩ (.int .u8 x2)).setCell ⟨w.heap.size, 3, none⟩ (.int .u8 x3)).setCell ⟨w.heap.size, 4, none⟩ (.int .u8 x4)).setCell ⟨w.heap.size, 5, none⟩ (.int .u8 x5)).setCell ⟨w.heap.size, 6, none⟩ (.int .u8 x6)).setCell ⟨w.heap.size, 7, none⟩ (.int .u8 x7) = W2
      intro F hb2
      have f0 := (F.cell (k := 0) rfl).1
      have f1 := (F.cell (k := 1) rfl).1
      have f2 := (F.cell (k := 2) rfl).1
      have f3 := (F.cell (k := 3) rfl).1
      have f4 := (F.cell (k := 4) rfl).1
      have f5 := (F.cell (k := 5) rfl).1
      have f6 := (F.cell (k := 6) rfl).1
      have f7 := (F.cell (k := 7) rfl).1
      refine bodyPost_ret (v := .agg #[.int .u8 x0, .int .u8 x1, .int .u8 x2, .int .u8 x3, .int .u8 x4, .int .u8 x5, .int .u8 x6, .int .u8 x7]) (by simp [results, Try.results59, go_sem, f0, f1, f2, f3, f4, f5, f6, f7]) rfl ⟨?_, ?_⟩
      · rw [HE.out]
        rfl
      · exact hb2
end Go.Proofs.Ytgiogocclkkkhaa.W
