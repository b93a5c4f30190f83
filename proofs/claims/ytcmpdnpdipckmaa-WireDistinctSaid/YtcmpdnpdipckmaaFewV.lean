/-
  fretsawref01.FewVertices: the call answers whether there are at most 50 vertices in each ring and at most 8 holes. Condition: the lists are shorter than 2^63.
-/
import Derived.Test.YtcmpdnpdipckmaaShapeE
import Derived.Test.YtcmpdnpdipckmaaSameL
namespace Go.Proofs.Ytcmpdnpdipckmaa.W
open Go.RowKit Go.Proofs.Ytcmpdnpdipckmaa.Pl

def fewV (s : List (Int × Int) × List (List (Int × Int))) : Bool := s.2.all (fun r => decide (r.length ≤ 50)) && (decide (s.1.length ≤ 50) && decide (s.2.length ≤ 8))

set_option maxRecDepth 100000 in
set_option maxHeartbeats 800000 in
theorem fewV_any (o h : Value) (s : List (Int × Int) × List (List (Int × Int))) (w : World) (ho : SrcV w o s.1) (hh : SrcR w h s.2) (hl1 : s.1.length ≤ 9223372036854775807) (hl2 : s.2.length ≤ 9223372036854775807) (hl3 : ∀ r ∈ s.2, r.length ≤ 9223372036854775807) :
    Calls Try.prog 35 #[.agg #[o, h]] w fun e w' => e = .returned (.bool (fewV s)) ∧ Below w.heap.size w w' := by
  obtain ⟨Ao, co, rfl⟩ := ho.shape
  obtain ⟨vals, hhs, hel⟩ := hh
  obtain ⟨Ah, ch, rfl⟩ := hhs.shape
  obtain ⟨n, hn⟩ : ∃ n, n = s.2.length := ⟨_, rfl⟩
  obtain ⟨m, hm⟩ : ∃ m, m = s.1.length := ⟨_, rfl⟩
  have h1 : n ≤ 9223372036854775807 := by omega
  have h2 : m ≤ 9223372036854775807 := by omega
  rw [← hn, ← hm]
  have HN := Lib.hid hn
  have HM := Lib.hid hm
  have HSZ := Lib.hid hl3
  have HEL := Lib.hid hel
  clear hn hm hl1 hl2 hl3 hel ho
  go_enter Try.func35, Try.ntmps35
  have hb0 : Below w.heap.size w (w.alloc (.cells #[.slice Ao m co, .slice Ah n ch] 60)) := (Below.refl _ _).alloc (Nat.le_refl _) _
  go_wp2
  have c0 : (w.alloc (.cells #[.slice Ao m co, .slice Ah n ch] 60)).cell? ⟨w.heap.size, 0, none⟩ = some (.slice Ao m co) := by simp
  have c1 : (w.alloc (.cells #[.slice Ao m co, .slice Ah n ch] 60)).cell? ⟨w.heap.size, 1, none⟩ = some (.slice Ah n ch) := by simp
  generalize w.alloc (.cells #[.slice Ao m co, .slice Ah n ch] 60) = W1 at hb0 c0 c1 ⊢
  have hh := Src.below hhs hb0
  clear hhs
  go_loop [3] (fun i => ∃ k : Nat, k ≤ n ∧ i = .int .i64 k ∧ (s.2.take k).all (fun r => decide (r.length ≤ 50)) = true) (fun i => n - (intOf i).toNat)
  case atStart => exact ⟨0, by omega, rfl, rfl⟩
  case round =>
    obtain ⟨k, hk, rfl, htk⟩ := hrel
    have HT := Lib.hid htk
    clear htk
    by_cases hlt : k < n
    · obtain ⟨g, oo, cc, hv1, hcells⟩ := Src.form hh (by have := HN.out; omega) (by omega)
      simp only [Value.slice.injEq] at hv1
      obtain ⟨rfl, _, rfl⟩ := hv1
      obtain ⟨r, hr⟩ : ∃ r, s.2[k]? = some r := ⟨s.2[k]'(by rw [← HN.out]; exact hlt), List.getElem?_eq_getElem _⟩
      obtain ⟨u, hu⟩ : ∃ u, vals[k]? = some u := ⟨vals[k]'(by rw [hh.1, ← HN.out]; omega), List.getElem?_eq_getElem _⟩
      have hc := hcells k _ hu
      have hsu := HEL.out k u r hu hr
      obtain ⟨Au, cu, rfl⟩ := hsu.shape
      have hrl := HSZ.out r (List.mem_of_getElem? hr)
      obtain ⟨q, hq⟩ : ∃ q, q = r.length := ⟨_, rfl⟩
      rw [← hq] at hc hrl
      have HQ := Lib.hid hq
      have HR := Lib.hid hr
      clear hr hcells hu hsu hq
      by_cases h5 : q ≤ 50
      · have hx := Lib.hid (show (s.2.take (k + 1)).all (fun r => decide (r.length ≤ 50)) = true by
          rw [List.take_add_one, HR.out, List.all_append, HT.out]
          have := HQ.out
          simp
          omega)
        go_wp2
        go_round
        case rel => exact ⟨k + 1, by omega, by go_num, hx.out⟩
        case measure => simp [intOf]; omega
      · have hx := Lib.hid (show fewV s = false by
          unfold fewV
          have : s.2.all (fun r => decide (r.length ≤ 50)) = false := by
            rw [List.all_eq_false]
            exact ⟨r, List.mem_of_getElem? HR.out, by have := HQ.out; simp; omega⟩
          rw [this]
          rfl)
        go_wp2
        go_ret
        exact ⟨ret_bool hx.out.symm, hb0⟩
    · obtain rfl : k = n := by omega
      have hx := Lib.hid (show fewV s = (decide ((m : Int) ≤ 50) && decide ((k : Int) ≤ 8)) by
        unfold fewV
        have h := HT.out
        rw [List.take_of_length_le (by rw [← HN.out]; exact Nat.le_refl _)] at h
        rw [h, ← HN.out, ← HM.out, Bool.true_and]
        congr 1
        · exact decide_eq_decide.2 (by omega)
        · exact decide_eq_decide.2 (by omega))
      by_cases h5 : m ≤ 50
      · have hy := Lib.hid (show fewV s = decide ((k : Int) ≤ 8) by
          rw [hx.out, decide_eq_true (show (m : Int) ≤ 50 by omega), Bool.true_and])
        go_wp2
        go_ret
        exact ⟨ret_bool hy.out.symm, hb0⟩
      · have hy := Lib.hid (show fewV s = false by
          rw [hx.out, decide_eq_false (show ¬ (m : Int) ≤ 50 by omega), Bool.false_and])
        go_wp2
        go_ret
        exact ⟨ret_bool hy.out.symm, hb0⟩
theorem fewV_outer {s : List (Int × Int) × List (List (Int × Int))} (h : fewV s = true) : s.1.length ≤ 50 ∧ s.2.length ≤ 8 ∧ ∀ r ∈ s.2, r.length ≤ 50 := by
  unfold fewV at h
  simp only [Bool.and_eq_true, List.all_eq_true, decide_eq_true_eq] at h
  exact ⟨h.2.1, h.2.2, h.1⟩
end Go.Proofs.Ytcmpdnpdipckmaa.W
