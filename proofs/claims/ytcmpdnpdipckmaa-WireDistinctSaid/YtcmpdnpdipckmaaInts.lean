/-
  wire.Ints, wire.Bool: onto a row of bytes of the call's own the calls append the encoding of a list of integers, of a boolean. Conditions: the integers have 64 bits; the list's memory is not the row's; there is room below 2^47.
-/
import Derived.Test.YtcmpdnpdipckmaaInt
namespace Go.Proofs.Ytcmpdnpdipckmaa.W
open Go.RowKit Go.Proofs.Ytcmpdnpdipckmaa.Pl

set_option maxRecDepth 100000 in
set_option maxHeartbeats 400000 in
theorem bool_any (B : Nat) (b : Value) (l : List Int) (v : Bool) (w : World) (hB : B ≤ w.heap.size) (hlen : l.length ≤ 140737488355000) (hown : OwnB w B b l) :
    Calls Try.prog 18 #[b, .bool v] w fun e w' => ∃ u, e = .returned u ∧ OwnB w' B u (l ++ encB v) ∧ Grew w w' b u := by
  cases v
  · go_enter Try.func18, Try.ntmps18
    go_wp2_with (at_builtin; go_must (refine wp_push rfl (.tmp 9) (.tmp 10) rfl B b l _ rfl hown rfl (by omega) hB ?_); intro v1 w1 own1 gr1)
    go_ret
    exact ⟨_, rfl, own1, gr1⟩
  · go_enter Try.func18, Try.ntmps18
    go_wp2_with (at_builtin; go_must (refine wp_push rfl (.tmp 6) (.tmp 7) rfl B b l _ rfl hown rfl (by omega) hB ?_); intro v1 w1 own1 gr1)
    go_ret
    exact ⟨_, rfl, own1, gr1⟩

set_option maxRecDepth 100000 in
set_option maxHeartbeats 800000 in
theorem listI_any (B : Nat) (b : Value) (l0 : List Int) (v : Value) (l : List Int) (w : World) (hB : B ≤ w.heap.size) (hl : l.length ≤ 1099511627776) (hl0 : l0.length ≤ 109951162777600) (hI : ∀ x ∈ l, I64 x)
    (hown : OwnB w B b l0) (hs : SrcI w v l) (hne : v.ownBlock = none ∨ v.ownBlock ≠ b.ownBlock) :
    Calls Try.prog 51 #[b, v, .func (.func 19) #[] #[]] w fun e w' => ∃ u, e = .returned u ∧ OwnB w' B u (l0 ++ encL enc l) ∧ Grew w w' b u := by
  obtain ⟨A, c, rfl⟩ := hs.shape
  obtain ⟨n, hn⟩ : ∃ n, n = l.length := ⟨_, rfl⟩
  have hn1 : n ≤ 1099511627776 := by omega
  rw [← hn]
  have HN := Lib.hid hn
  clear hn hl
  go_enter Try.func51, Try.ntmps51
  go_wp2_with (go_at_call 19; go_must (refine (int_any B b l0 (n : Int) _ ⟨by omega, by omega⟩ hB (by omega) hown).mono ?_); rintro e w1 ⟨v1, rfl, own1, gr1⟩)
  go_loopw [0, 15] (fun u i wr => ∃ k : Nat, k ≤ n ∧ i = .int .i64 k ∧ OwnB wr B u (l0 ++ enc n ++ (l.take k).flatMap enc) ∧ Grew w wr b u) (fun _ i _ => n - (intOf i).toNat)
  case atStart => exact ⟨0, by omega, rfl, by simpa using own1, gr1⟩
  case round =>
    obtain ⟨k, hk, rfl, hown2, hgr⟩ := hrel
    clear own1 gr1 hown
    by_cases hlt : k < n
    · have hs2 := hgr.keepSrc hs hne
      obtain ⟨g, o, c', hv, hcells⟩ := hs2.form (by have := HN.out; omega) (by omega)
      obtain ⟨x, hx⟩ : ∃ x, l[k]? = some x := ⟨l[k]'(by rw [← HN.out]; exact hlt), List.getElem?_eq_getElem _⟩
      have hc := hcells k _ (ints_at hx)
      have hxI := hI x (List.mem_of_getElem? hx)
      simp only [Value.slice.injEq] at hv
      obtain ⟨rfl, _, rfl⟩ := hv
      have hlen : (l0 ++ enc n ++ (l.take k).flatMap enc).length ≤ 140737488355000 := by
        have h1 := flatMap_len enc 9 enc_length_le (l.take k)
        have h2 := enc_length_le n
        rw [List.length_append, List.length_append]
        rw [List.length_take] at h1
        omega
      have hst := flatMap_snoc enc hx
      have HX := Lib.hid hst
      have HXX := Lib.hid hx
      have HO := Lib.hid hown2
      clear hst hx hcells hs2 hown2
      go_wp2_with (go_at_call 19; go_must (refine (int_any B _ _ x _ hxI ?_ hlen HO.out).mono ?_); (have := hgr.size; omega); rintro e w2 ⟨v2, rfl, own2, gr2⟩)
      go_roundw
      case rel => exact ⟨k + 1, by omega, by go_num, by rw [HX.out, ← List.append_assoc]; exact own2, hgr.trans gr2⟩
      case measure => simp [intOf]; omega
    · obtain rfl : k = n := by omega
      have hfin : l0 ++ enc k ++ (l.take k).flatMap enc = l0 ++ encL enc l := by
        rw [List.take_of_length_le (by rw [HN.out]; exact Nat.le_refl _)]
        unfold encL
        rw [← HN.out, List.append_assoc]
      rw [hfin] at hown2
      clear hfin
      go_wp2
      go_ret
      exact ⟨_, rfl, hown2, hgr⟩

theorem ints_any (B : Nat) (b : Value) (l0 : List Int) (v : Value) (l : List Int) (w : World) (hB : B ≤ w.heap.size) (hl : l.length ≤ 1099511627776) (hl0 : l0.length ≤ 109951162777600) (hI : ∀ x ∈ l, I64 x)
    (hown : OwnB w B b l0) (hs : SrcI w v l) (hne : v.ownBlock = none ∨ v.ownBlock ≠ b.ownBlock) :
    Calls Try.prog 17 #[b, v] w fun e w' => ∃ u, e = .returned u ∧ OwnB w' B u (l0 ++ encL enc l) ∧ Grew w w' b u := by
  go_enter Try.func17, Try.ntmps17
  go_wp2_with fail
  refine (listI_any B b l0 v l _ hB hl hl0 hI hown hs hne).mono ?_
  rintro e w1 ⟨v1, rfl, own1, gr1⟩
  go_wp2
  go_ret
  exact ⟨_, rfl, own1, gr1⟩
end Go.Proofs.Ytcmpdnpdipckmaa.W
