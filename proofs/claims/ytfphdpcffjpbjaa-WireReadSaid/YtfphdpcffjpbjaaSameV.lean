/-
  fretsawref01.SameVecs: what the call answers of slices that read as lists of vectors. Condition: the lists are shorter than 2^62.
-/
import Derived.Test.YtfphdpcffjpbjaaSameL
namespace Go.Proofs.Ytfphdpcffjpbjaa.W
open Go.RowKit Go.Proofs.Ytfphdpcffjpbjaa.Pl

set_option maxRecDepth 100000 in
set_option maxHeartbeats 800000 in
theorem sameV_any (v u : Value) (l m : List (Int × Int)) (w : World) (hv : SrcV w v l) (hu : SrcV w u m) (hl : l.length ≤ 4611686018427387904) (hm : m.length ≤ 4611686018427387904) :
    Calls Try.prog 30 #[v, u] w fun e w' => e = .returned (.bool (eqV l m)) ∧ Later w w' := by
  obtain ⟨A, c, rfl⟩ := hv.shape
  obtain ⟨A', c', rfl⟩ := hu.shape
  obtain ⟨n, hn⟩ : ∃ n, n = l.length := ⟨_, rfl⟩
  obtain ⟨n', hn'⟩ : ∃ n', n' = m.length := ⟨_, rfl⟩
  have h1 : n ≤ 4611686018427387904 := by omega
  have h2 : n' ≤ 4611686018427387904 := by omega
  rw [← hn, ← hn']
  have HN := Lib.hid hn
  have HN' := Lib.hid hn'
  clear hn hn' hl hm
  by_cases hnn : n = n'
  · subst hnn
    have hb0 : ((n : Int) != (n : Int)) = false := by simp
    go_enter Try.func30, Try.ntmps30
    go_wp2
    go_loopw [5] (fun i wr => ∃ k : Nat, k ≤ n ∧ i = .int .i64 k ∧ l.take k = m.take k ∧ Later w wr) (fun i _ => n - (intOf i).toNat)
    case atStart => exact ⟨0, by omega, rfl, rfl, 0, rfl⟩
    case round =>
      obtain ⟨k, hk, rfl, htk, nq, rfl⟩ := hrel
      have HT := Lib.hid htk
      clear htk
      by_cases hlt : k < n
      · obtain ⟨g, o, cc, hv1, hcells⟩ := Src.form hv (by have := HN.out; omega) (by omega)
        obtain ⟨g', o', cc', hv2, hcells'⟩ := Src.form hu (by have := HN'.out; omega) (by omega)
        simp only [Value.slice.injEq] at hv1 hv2
        obtain ⟨rfl, _, rfl⟩ := hv1
        obtain ⟨rfl, _, rfl⟩ := hv2
        obtain ⟨x, hx⟩ : ∃ x, l[k]? = some x := ⟨l[k]'(by rw [← HN.out]; exact hlt), List.getElem?_eq_getElem _⟩
        obtain ⟨y, hy⟩ : ∃ y, m[k]? = some y := ⟨m[k]'(by rw [← HN'.out]; exact hlt), List.getElem?_eq_getElem _⟩
        have hc1 := hcells _ _ (vecs_at hx).1
        have hd1 := hcells _ _ (vecs_at hx).2
        have hc2 := hcells' _ _ (vecs_at hy).1
        have hd2 := hcells' _ _ (vecs_at hy).2
        rw [← Nat.add_assoc] at hd1 hd2
        have HX := Lib.hid hx
        have HY := Lib.hid hy
        clear hx hy hcells hcells'
        by_cases hxy : x = y
        · have hb1 : (x != y) = false := by simp [hxy]
          subst hxy
          go_wp2
          go_quiet (fail)
          go_wp2
          go_roundw
          case rel => exact ⟨k + 1, by omega, by go_num, take_grow HT.out HX.out HY.out, _, rfl⟩
          case measure => simp [intOf]; omega
        · have hf := Lib.hid (show eqV l m = false from decide_eq_false (ne_at HX.out HY.out hxy))
          have hlt2 : (k : Int) < (n : Int) := by omega
          obtain ⟨x1, x2⟩ := x
          obtain ⟨y1, y2⟩ := y
          simp only at hc1 hd1 hc2 hd2
          by_cases h1 : x1 = y1
          · subst h1
            have hb1 : (x2 == y2) = false := by
              rw [beq_eq_false_iff_ne]
              rintro rfl
              exact hxy rfl
            clear hxy
            go_wp2
            go_quiet (fail)
            go_wp2
            go_ret
            exact ⟨ret_bool hf.out.symm, later_drewN ⟨_, rfl⟩ _⟩
          · have hb1 : (x1 == y1) = false := by rw [beq_eq_false_iff_ne]; exact h1
            clear hxy h1
            go_wp2
            go_quiet (fail)
            go_wp2
            go_ret
            exact ⟨ret_bool hf.out.symm, later_drewN ⟨_, rfl⟩ _⟩
      · obtain rfl : k = n := by omega
        have hf := Lib.hid (show eqV l m = true from decide_eq_true (by
          have := HT.out
          rwa [List.take_of_length_le (by rw [← HN.out]; exact Nat.le_refl _), List.take_of_length_le (by rw [← HN'.out]; exact Nat.le_refl _)] at this))
        go_wp2
        go_ret
        exact ⟨ret_bool hf.out.symm, _, rfl⟩
  · have hb0 : ((n : Int) != (n' : Int)) = true := by rw [bne_iff_ne]; omega
    have hf := Lib.hid (show eqV l m = false from decide_eq_false (by rintro rfl; exact hnn (HN.out.trans HN'.out.symm)))
    go_enter Try.func30, Try.ntmps30
    go_wp2
    go_ret
    exact ⟨ret_bool hf.out.symm, 0, rfl⟩
end Go.Proofs.Ytfphdpcffjpbjaa.W
