/-
  digest.Seal, fretsawref02.Seal: the payload with the eight bytes of its checksum, in new memory. Condition: the payload has at most 100000 bytes.
-/
import Derived.Test.YtgiogocclkkkhaaDSum
import Derived.Test.YtgiogocclkkkhaaDEight
import Derived.Deep.WholeRow
namespace Go.Proofs.Ytgiogocclkkkhaa.W
open Go.RowKit Go.Proofs.Ytgiogocclkkkhaa.Pl

def sealL (l : List Int) : List Int := l ++ dgs 256 8 (sum 1 l)
theorem sealL_length (l : List Int) : (sealL l).length = l.length + 8 := by unfold sealL; rw [List.length_append, dgs_length]
theorem sealL_by {l : List Int} (h : By l) : By (sealL l) := h.append (dgs_by _ _)

theorem arr_info : (Try.prog.info? 83).map (·.size) = some 8 := by kernel_rfl
theorem store8 (W : World) (D : List Int) (h : D.length = 8) : (storeCells ⟨W.heap.size, 0, none⟩ (bytes D)).run Try.prog (W.alloc (.cells #[.int .u8 0, .int .u8 0, .int .u8 0, .int .u8 0, .int .u8 0, .int .u8 0, .int .u8 0, .int .u8 0] 83)) = .ok () (W.alloc (.cells (bytes D).toArray 83)) := by
  have := run_storeCells_new (P := Try.prog) W 83 #[.int .u8 0, .int .u8 0, .int .u8 0, .int .u8 0, .int .u8 0, .int .u8 0, .int .u8 0, .int .u8 0] (bytes D).toArray (by rw [arr_info]; simp [bytes_length, h]) (by simp [bytes_length, h]) (by
    rw [Array.all_eq_true]
    intro i hi
    have hm : (bytes D).toArray[i] ∈ bytes D := by simp
    exact bytes_one D _ hm)
  simpa using this
theorem BlkB.grown {w w' : World} {g T : Nat} {l : List Int} {row : Option Nat} (h : BlkB w g T l) (hg : w.grownBy w' row) (hne : some g ≠ row) : BlkB w' g T l := (hg.block g h.lt hne).trans h
theorem BlkB.below {w w' : World} {g T B : Nat} {l : List Int} (h : BlkB w g T l) (hb : Below B w w') (hne : g < B) : BlkB w' g T l := (hb.block g hne).trans h
theorem o3_of {w1 w3 : World} {B n : Nat} {o : Obj} (h : w3.ownsRow B 5 1 (.slice (some ⟨(w1.alloc o).heap.size, 0, none⟩) 0 n) 0 []) : OwnB w3 B (.slice (some ⟨w1.heap.size + 1, 0, none⟩) 0 n) [] := by
  have e : (w1.alloc o).heap.size = w1.heap.size + 1 := by simp
  rw [e] at h
  exact h
/-- append at the end of a row with room, or not -/
theorem below_app {w w1 w2 : World} {v u : Value} (h : Below w.heap.size w w1) (g : Grew w1 w2 v u) (hv : ∀ k, v.ownBlock = some k → w.heap.size ≤ k) : Below w.heap.size w w2 := h.trans (g.below h.size hv)

set_option maxRecDepth 100000 in
set_option maxHeartbeats 800000 in
theorem seal_any (v : Value) (l : List Int) (w : World) (hv : Src w 1 v l.length (bytes l)) (hb : By l) (hl : l.length ≤ 100000) :
    Calls Try.prog 27 #[v] w fun e w' => ∃ u, e = .returned u ∧ OwnB w' w.heap.size u (sealL l) ∧ Below w.heap.size w w' := by
  obtain ⟨A, c, rfl⟩ := hv.shape
  obtain ⟨i0, hi, hz0, hz1, hz2⟩ := info_parts info_u8
  obtain ⟨n, hn⟩ : ∃ n, n = l.length := ⟨_, rfl⟩
  have hn1 : n ≤ 100000 := by omega
  have hl2 : l.length ≤ 4611686018427387904 := by omega
  have hvs := hv
  rw [← hn] at hv ⊢
  have HN := Lib.hid hn
  clear hn
  go_enter Try.func27, Try.ntmps27
  go_wp2_with (first
    | (go_at_call 59; ((with_reducible refine (sumBytes_any _ l _ (by rw [HN.out]; exact hvs) hb hl2).mono ?_); rintro e w1 ⟨rfl, hb1⟩; have hst := store8 w1 _ (dgs_length 256 8 (sum 1 l)); have hA := BlkB.new w1 83 (dgs 256 8 (sum 1 l)); have hb2 := hb1.alloc hb1.size (.cells (bytes (dgs 256 8 (sum 1 l))).toArray 83); have HA := Lib.hid hA; clear hA))
    | (at_make; refine wpList_make_own _ rfl _ _ 22 rfl w.heap.size 5 i0 (.int .u8 0) 1 Try.underlying22 hi hz0 hz1 .i64 .i64 _ (n + 8) rfl rfl (by omega) (by rw [hz2]; omega) (by unfold maxLen; omega) hb2.size ?_; intro w3 own3 gr3; have o3 : OwnB w3 w.heap.size (.slice (some ⟨w1.heap.size + 1, 0, none⟩) 0 (n + 8)) [] := o3_of own3; have hb3 := hb2.grown gr3 hb2.size (by intro k hk; cases hk); have HA3 := Lib.hid (HA.out.grown gr3 (by simp)); clear own3)
    | (at_builtin; refine wp_app rfl (.tmp 11) (.tmp 12) rfl w.heap.size (.slice (some ⟨w1.heap.size + 1, 0, none⟩) 0 (n + 8)) _ [] l rfl o3 rfl (by rw [HN.out]; exact hvs.below hb3) ?_ hb3.size ?_; (simp; omega); intro v4 w4 own4 gr4; have hb4 := hb3.trans (gr4.below hb3.size o3.from_); have HA4 := Lib.hid (HA3.out.grown gr4.by_ (by simp [Value.ownBlock])))
    | (at_builtin; refine wp_app rfl (.tmp 14) (.tmp 15) rfl w.heap.size v4 _ _ (dgs 256 8 (sum 1 l)) rfl own4 rfl ?_ ?_ hb4.size ?_; (have := HA4.out.src 8; rw [dgs_length] at this ⊢; exact this); (have := HN.out; rw [dgs_length, List.nil_append]; omega); intro v5 w5 own5 gr5; have hb5 := hb4.trans (gr5.below hb4.size own4.from_)))
  go_ret
  exact ⟨_, rfl, own5, hb5⟩

set_option maxRecDepth 100000 in
set_option maxHeartbeats 800000 in
theorem refSeal_any (v : Value) (l : List Int) (w : World) (hv : Src w 1 v l.length (bytes l)) (hb : By l) (hl : l.length ≤ 100000) :
    Calls Try.prog 28 #[v] w fun e w' => ∃ u, e = .returned u ∧ OwnB w' w.heap.size u (sealL l) ∧ Below w.heap.size w w' := by
  obtain ⟨A, c, rfl⟩ := hv.shape
  have o0 := OwnB.lit w w.heap.size [] (Nat.le_refl _) (Nat.zero_le _)
  have b0 : Below w.heap.size w (w.alloc (.cells (bytes []).toArray 5)) := (Below.refl _ _).alloc (Nat.le_refl _) _
  have hl2 : l.length ≤ 4611686018427387904 := by omega
  obtain ⟨n, hn⟩ : ∃ n, n = l.length := ⟨_, rfl⟩
  have hn1 : n ≤ 100000 := by omega
  have hvs := hv
  rw [← hn] at hv ⊢
  have HN := Lib.hid hn
  clear hn
  go_enter Try.func28, Try.ntmps28
  go_wp2_with (first
    | (at_builtin; refine wp_app rfl (.tmp 3) (.tmp 4) rfl w.heap.size (.slice (some ⟨w.heap.size, 0, none⟩) 0 0) _ [] l rfl o0 rfl (by rw [HN.out]; exact hvs.below b0) ?_ b0.size ?_; (simp; omega); intro v1 w1 own1 gr1; have hb1 := b0.trans (gr1.below b0.size o0.from_))
    | (go_at_call 21; ((with_reducible refine (refOf_any _ l _ (by rw [HN.out]; exact hvs.below hb1) hb hl2).mono ?_); rintro e w2 ⟨rfl, rfl⟩))
    | (go_at_call 60; ((with_reducible refine (eight_any _ _ (sum_u64 1 l u64_1)).mono ?_); rintro e w2 ⟨v2, rfl, own2, hb2⟩; have hb12 := hb1.trans (hb2.mono hb1.size); have own1' := own1.below hb2))
    | (at_builtin; refine wp_app rfl (.tmp 5) (.tmp 8) rfl w.heap.size v1 v2 _ (dgs 256 8 (sum 1 l)) rfl own1' rfl own2.src ?_ hb12.size ?_; (have := HN.out; rw [dgs_length, List.nil_append]; omega); intro v3 w3 own3 gr3; have hb3 := hb12.trans (gr3.below hb12.size own1'.from_)))
  go_ret
  exact ⟨_, rfl, own3, hb3⟩
end Go.Proofs.Ytgiogocclkkkhaa.W
