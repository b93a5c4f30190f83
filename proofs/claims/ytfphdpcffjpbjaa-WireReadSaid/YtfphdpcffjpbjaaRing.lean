/-
  wire.Ring: onto a row of bytes of the call's own the call appends the encoding of a ring. Conditions: the integers have 64 bits; the ring's memory is not the row's; there is room below 2^47.
-/
import Derived.Test.YtfphdpcffjpbjaaVec
namespace Go.Proofs.Ytfphdpcffjpbjaa.W
open Go.RowKit Go.Proofs.Ytfphdpcffjpbjaa.Pl

def VI64 (p : Int × Int) : Prop := I64 p.1 ∧ I64 p.2

set_option maxRecDepth 100000 in
set_option maxHeartbeats 800000 in
theorem listV_any (B : Nat) (b : Value) (l0 : List Int) (v : Value) (l : List (Int × Int)) (w : World) (hB : B ≤ w.heap.size) (hl : l.length ≤ 1099511627776) (hl0 : l0.length ≤ 105553116266496) (hI : ∀ x ∈ l, VI64 x)
    (hown : OwnB w B b l0) (hs : SrcV w v l) (hne : v.ownBlock = none ∨ v.ownBlock ≠ b.ownBlock) :
    Calls Try.prog 53 #[b, v, .func (.func 40) #[] #[]] w fun e w' => ∃ u, e = .returned u ∧ OwnB w' B u (l0 ++ encL encV l) ∧ Grew w w' b u := by
  obtain ⟨A, c, rfl⟩ := hs.shape
  obtain ⟨n, hn⟩ : ∃ n, n = l.length := ⟨_, rfl⟩
  have hn1 : n ≤ 1099511627776 := by omega
  rw [← hn]
  have HN := Lib.hid hn
  clear hn hl
  go_enter Try.func53, Try.ntmps53
  go_wp2_with (go_at_call 19; go_must (refine (int_any B b l0 (n : Int) _ ⟨by omega, by omega⟩ hB (by omega) hown).mono ?_); rintro e w1 ⟨v1, rfl, own1, gr1⟩)
  go_loopw [0, 15] (fun u i wr => ∃ k : Nat, k ≤ n ∧ i = .int .i64 k ∧ OwnB wr B u (l0 ++ enc n ++ (l.take k).flatMap encV) ∧ Grew w wr b u) (fun _ i _ => n - (intOf i).toNat)
  case atStart => exact ⟨0, by omega, rfl, by simpa using own1, gr1⟩
  case round =>
    obtain ⟨k, hk, rfl, hown2, hgr⟩ := hrel
    clear own1 gr1 hown
    by_cases hlt : k < n
    · have hs2 := hgr.keepSrc hs hne
      obtain ⟨g, o, c', hv, hcells⟩ := hs2.form (by have := HN.out; omega) (by omega)
      obtain ⟨x, hx⟩ : ∃ x, l[k]? = some x := ⟨l[k]'(by rw [← HN.out]; exact hlt), List.getElem?_eq_getElem _⟩
      have hc1 := hcells _ _ (vecs_at hx).1
      have hc2 := hcells _ _ (vecs_at hx).2
      rw [← Nat.add_assoc] at hc2
      have hxI := hI x (List.mem_of_getElem? hx)
      simp only [Value.slice.injEq] at hv
      obtain ⟨rfl, _, rfl⟩ := hv
      have hlen : (l0 ++ enc n ++ (l.take k).flatMap encV).length ≤ 140737488354900 := by
        have h1 := flatMap_len encV 18 encV_len (l.take k)
        have h2 := enc_length_le n
        rw [List.length_append, List.length_append]
        rw [List.length_take] at h1
        omega
      have HX := Lib.hid (flatMap_snoc encV hx)
      have HO := Lib.hid (hown2.alloc (.cells #[.int .i64 x.1, .int .i64 x.2] 46))
      clear hx hcells hs2 hown2
      go_wp2_with (go_at_call 40; go_must (refine (vec_any B _ _ x.1 x.2 _ hxI.1 hxI.2 ?_ hlen HO.out).mono ?_); (have := hgr.size; simp; omega); rintro e w2 ⟨v2, rfl, own2, gr2⟩)
      go_roundw
      case rel => exact ⟨k + 1, by omega, by go_num, by rw [HX.out, ← List.append_assoc]; exact own2, hgr.trans ((Grew.alloc _ _ _).trans gr2)⟩
      case measure => simp [intOf]; omega
    · obtain rfl : k = n := by omega
      have hfin : l0 ++ enc k ++ (l.take k).flatMap encV = l0 ++ encL encV l := by
        rw [List.take_of_length_le (by rw [HN.out]; exact Nat.le_refl _)]
        unfold encL
        rw [← HN.out, List.append_assoc]
      rw [hfin] at hown2
      clear hfin
      go_wp2
      go_ret
      exact ⟨_, rfl, hown2, hgr⟩

theorem ring_any (B : Nat) (b : Value) (l0 : List Int) (v : Value) (l : List (Int × Int)) (w : World) (hB : B ≤ w.heap.size) (hl : l.length ≤ 1099511627776) (hl0 : l0.length ≤ 105553116266496) (hI : ∀ x ∈ l, VI64 x)
    (hown : OwnB w B b l0) (hs : SrcV w v l) (hne : v.ownBlock = none ∨ v.ownBlock ≠ b.ownBlock) :
    Calls Try.prog 23 #[b, v] w fun e w' => ∃ u, e = .returned u ∧ OwnB w' B u (l0 ++ encL encV l) ∧ Grew w w' b u := by
  go_enter Try.func23, Try.ntmps23
  go_wp2_with fail
  refine (listV_any B b l0 v l _ hB hl hl0 hI hown hs hne).mono ?_
  rintro e w1 ⟨v1, rfl, own1, gr1⟩
  go_wp2
  go_ret
  exact ⟨_, rfl, own1, gr1⟩
end Go.Proofs.Ytfphdpcffjpbjaa.W
