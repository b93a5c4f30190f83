/-
  fretsawlaw01.fewTexts: the call answers whether there are at most 40 texts of at most 200 bytes. Condition: the slice is shorter than 2^62.
-/
import Derived.Test.YtfphdpcffjpbjaaSameL
namespace Go.Proofs.Ytfphdpcffjpbjaa.W
open Go.RowKit Go.Proofs.Ytfphdpcffjpbjaa.Pl

def fewT (ss : List ByteArray) : Bool := ss.all (fun s => decide (s.size ≤ 200)) && decide (ss.length ≤ 40)
def SrcS (w : World) (v : Value) (ss : List ByteArray) : Prop := Src w 1 v ss.length (ss.map Value.string)

set_option maxRecDepth 100000 in
set_option maxHeartbeats 800000 in
theorem few_any (v : Value) (ss : List ByteArray) (w : World) (hv : SrcS w v ss) (hl : ss.length ≤ 4611686018427387904) (hsz : ∀ s ∈ ss, s.size ≤ 9223372036854775807) :
    Calls Try.prog 16 #[v] w fun e w' => e = .returned (.bool (fewT ss)) ∧ w = w' := by
  obtain ⟨A, c, rfl⟩ := hv.shape
  obtain ⟨n, hn⟩ : ∃ n, n = ss.length := ⟨_, rfl⟩
  have h1 : n ≤ 4611686018427387904 := by omega
  rw [← hn]
  have HN := Lib.hid hn
  have HSZ := Lib.hid hsz
  clear hn hl hsz
  go_enter Try.func16, Try.ntmps16
  go_wp2
  go_loop [3] (fun i => ∃ k : Nat, k ≤ n ∧ i = .int .i64 k ∧ (ss.take k).all (fun s => decide (s.size ≤ 200)) = true) (fun i => n - (intOf i).toNat)
  case atStart => exact ⟨0, by omega, rfl, rfl⟩
  case round =>
    obtain ⟨k, hk, rfl, htk⟩ := hrel
    have HT := Lib.hid htk
    clear htk
    by_cases hlt : k < n
    · obtain ⟨g, o, cc, hv1, hcells⟩ := Src.form hv (by have := HN.out; omega) (by omega)
      simp only [Value.slice.injEq] at hv1
      obtain ⟨rfl, _, rfl⟩ := hv1
      obtain ⟨s, hs⟩ : ∃ s, ss[k]? = some s := ⟨ss[k]'(by rw [← HN.out]; exact hlt), List.getElem?_eq_getElem _⟩
      have hc := hcells k (.string s) (by rw [List.getElem?_map, hs]; rfl)
      have hsz := HSZ.out s (List.mem_of_getElem? hs)
      have HS := Lib.hid hs
      clear hs hcells
      by_cases h2 : s.size ≤ 200
      · have hx := Lib.hid (show (ss.take (k + 1)).all (fun s => decide (s.size ≤ 200)) = true by
          rw [List.take_add_one, HS.out, List.all_append, HT.out]
          simp [h2])
        go_wp2
        go_round
        case rel => exact ⟨k + 1, by omega, by go_num, hx.out⟩
        case measure => simp [intOf]; omega
      · have hx := Lib.hid (show fewT ss = false by
          unfold fewT
          have : ss.all (fun s => decide (s.size ≤ 200)) = false := by
            rw [List.all_eq_false]
            exact ⟨s, List.mem_of_getElem? HS.out, by simp; omega⟩
          rw [this]
          rfl)
        go_wp2
        go_ret
        exact ⟨ret_bool hx.out.symm, rfl⟩
    · obtain rfl : k = n := by omega
      have hx := Lib.hid (show fewT ss = decide ((k : Int) ≤ 40) by
        unfold fewT
        have h := HT.out
        rw [List.take_of_length_le (by rw [← HN.out]; exact Nat.le_refl _)] at h
        rw [h, ← HN.out, Bool.true_and]
        exact decide_eq_decide.2 (by omega))
      go_wp2
      go_ret
      exact ⟨ret_bool hx.out.symm, rfl⟩
theorem fewT_size {ss : List ByteArray} (h : fewT ss = true) {s : ByteArray} (hs : s ∈ ss) : s.size ≤ 200 := by
  unfold fewT at h
  rw [Bool.and_eq_true, List.all_eq_true] at h
  simpa using h.1 s hs
theorem fewT_length {ss : List ByteArray} (h : fewT ss = true) : ss.length ≤ 40 := by
  unfold fewT at h
  rw [Bool.and_eq_true] at h
  simpa using h.2
end Go.Proofs.Ytfphdpcffjpbjaa.W
