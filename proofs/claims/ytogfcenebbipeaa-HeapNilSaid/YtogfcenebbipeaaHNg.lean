/-
  Heap[int]: From. Conditions: the list is read, of fewer than 2^40 elements.
-/
import Derived.Test.YtogfcenebbipeaaHNf
namespace Go.Proofs.Ytogfcenebbipeaa.W
open Go.RowKit Go.Proofs.Ytogfcenebbipeaa.Pl

/-- the cells of an element -/
def cvN (v : Int × Int) : List Value := [.int .i64 v.1]
theorem cvN_len (v : Int × Int) : (cvN v).length = 1 := rfl
theorem cvN_one : ∀ (l : List (Int × Int)), ∀ u ∈ flat cvN l, u.oneCell' = true
  | [], u, h => by cases h
  | x :: l, u, h => by
    rw [flat_cons] at h
    rcases List.mem_append.1 h with h | h
    · simp [cvN] at h
      subst h; rfl
    · exact cvN_one l u h
/-- a slice that reads as a list of elements -/
def SrcN (w : World) (v : Value) (l : List (Int × Int)) : Prop := Src w 1 v l.length (flat cvN l)
theorem SrcN.at_ {w : World} {g o n c : Nat} {A : Option Addr} {l : List (Int × Int)} (h : SrcN w (.slice A n c) l) (hA : A = some ⟨g, o, none⟩) {i : Nat} {x : Int × Int} (hx : l[i]? = some x) :
    w.cell? ⟨g, o + i, none⟩ = some (.int .i64 x.1) := by
  obtain ⟨_, A', c', hv, _, _, hc⟩ := h
  have hi := (List.getElem?_eq_some_iff.1 hx).1
  obtain ⟨g', o', rfl, _, hcell⟩ := hc (by omega)
  simp only [Value.slice.injEq] at hv
  rw [hA] at hv
  obtain ⟨e, _, _⟩ := hv
  injection e with e
  injection e with e1 e2 _
  subst e1
  subst e2
  have := hcell (i * 1 + 0) _ (flat_at cvN_len 0 hx (by omega))
  rw [Nat.mul_one, Nat.add_zero] at this
  exact this
theorem SrcN.form {w : World} {v : Value} {l : List (Int × Int)} (h : SrcN w v l) (hl : 0 < l.length) : ∃ g o c, v = .slice (some ⟨g, o, none⟩) l.length c ∧ l.length ≤ c ∧ c ≤ maxLen := by
  obtain ⟨_, A, c, rfl, h1, h2, hc⟩ := h
  obtain ⟨g, o, rfl, _, _⟩ := hc hl
  exact ⟨g, o, c, rfl, h1, h2⟩

theorem SrcN.block {w : World} {g o n c : Nat} {A : Option Addr} {l : List (Int × Int)} (h : SrcN w (.slice A n c) l) (hA : A = some ⟨g, o, none⟩) (hl : 0 < l.length) : g < w.heap.size := by
  obtain ⟨_, A', c', hv, _, _, hc⟩ := h
  obtain ⟨g', o', rfl, hb, _⟩ := hc hl
  simp only [Value.slice.injEq] at hv
  rw [hA] at hv
  obtain ⟨e, _, _⟩ := hv
  injection e with e
  injection e with e1 e2 _
  subst e1
  exact hb
theorem SrcN.nw {w w' : World} {v : Value} {l : List (Int × Int)} (h : SrcN w v l) (hk : Nw w w') : SrcN w' v l := Src.nw h hk
set_option maxRecDepth 100000 in
set_option maxHeartbeats 1600000 in
theorem fromN_any (v : Value) (l : List (Int × Int)) (w : World) (hs : SrcN w v l) (hlen : l.length ≤ 1099511627776) :
    Calls Try.prog 38 #[(.func (.func 31) #[] #[]), v] w fun e w' => e = .returned (.pointer (some ⟨w.heap.size, 0, none⟩)) ∧ ∃ v', HpN 0 w' w.heap.size v' (allQ rkN l 0 []) l.length ∧
      (∀ k, Ft w.heap.size v' k → w.heap.size ≤ k) ∧ Nw w w' := by
  obtain ⟨A, cap, rfl⟩ := hs.shape
  obtain ⟨n, hn⟩ : ∃ n, l.length = n := ⟨_, rfl⟩
  have hni : (n : Int) ≤ 1099511627776 := by omega
  have HN := Lib.hid hn
  rw [hn]
  clear hn
  go_enter Try.func38, Try.ntmps38
  go_wp2_with (go_at_call 42; ((with_reducible refine (newN_any 0 _).mono ?_); rintro e w1 ⟨rfl, hh1, hk1, hz1⟩))
  go_loopw [12] (fun i wr => ∃ (k : Nat) (v' : Value), i = .int .i64 k ∧ k ≤ n ∧ HpN 0 wr w.heap.size v' (allQ rkN (l.take k) 0 []) k ∧ (∀ b, Ft w.heap.size v' b → w.heap.size ≤ b) ∧ Nw w wr) (fun i _ => n - (intOf i).toNat)
  case atStart => exact ⟨0, _, rfl, Nat.zero_le _, hh1, fun b e => e.elim (fun e => Nat.le_of_eq e.symm) (fun e => by cases e), hk1⟩
  case round =>
    obtain ⟨k, v', rfl, hk, hh, hft, hnw⟩ := hrel
    by_cases hlt : k < n
    · have hkl : k < l.length := by have := HN.out; omega
      obtain ⟨x, hx⟩ : ∃ x, l[k]? = some x := ⟨_, List.getElem?_eq_getElem hkl⟩
      obtain ⟨g, o, c2, hv2, _, _⟩ := hs.form (by omega)
      simp only [Value.slice.injEq] at hv2
      have hA := hv2.1
      clear hv2
      have hat := (hs.nw hnw).at_ hA hx
      have hbl := (hs.nw hnw).block hA (by omega)
      subst hA
      have x0 := hat
      have hd1 : decide ((k : Int) < (n : Int)) = true := decide_eq_true (by omega)
      have hki : (k : Int) < (n : Int) := by omega
      have HL := Lib.hid (show (allQ rkN (l.take k) 0 []).length = k by rw [allQ_length, List.length_take, Nat.min_eq_left (Nat.le_of_lt hkl)]; simp)
      have HST := Lib.hid (show ins rkN (x, k) (allQ rkN (l.take k) 0 []) = allQ rkN (l.take (k + 1)) 0 [] by
        have e : l.take (k + 1) = l.take k ++ [x] := by rw [List.take_add_one, hx]; rfl
        rw [e, allQ_snoc, List.length_take, Nat.min_eq_left (Nat.le_of_lt hkl), Nat.zero_add])
      clear hx
      have hkx : Nw wr wr := Kp.refl _ wr
      go_wp2_with fail
      refine (pushN_any 0 w.heap.size 0 k v' x _ wr hh (cntN_t _ _ _) (by rw [HL.out]; omega) (by omega)).mono ?_
      rintro e w2 ⟨rfl, v2, c2', hh2, hk2, hv2, _, _⟩
      rw [HST.out] at hh2
      have hft2 : ∀ b, Ft w.heap.size v2 b → w.heap.size ≤ b := fun b e => e.elim (fun e => Nat.le_of_eq e.symm) (fun e => by
        rcases hv2 with e2 | ⟨k2, e2, hk2⟩
        · exact hft b (.inr (e2 ▸ e))
        · rw [e2] at e
          injection e with e
          have := hnw.size
          have := hkx.size
          omega)
      have hnw2 : Nw w w2 := (hnw.tr hkx).trans hk2 (fun i hi e => e.elim (fun e => absurd hi (Nat.not_lt.2 (hft i e))) id)
      go_wp2
      go_roundw
      case rel => exact ⟨k + 1, v2, by go_num, by omega, hh2, hft2, hnw2⟩
      case measure => simp [intOf]; omega
    · obtain rfl : k = n := by omega
      have hfin : l.take k = l := List.take_of_length_le (by have := HN.out; omega)
      rw [hfin] at hh
      have hd1 : decide ((k : Int) < (k : Int)) = false := decide_eq_false (by omega)
      go_wp2
      go_ret
      exact ⟨rfl, v', hh, hft, hnw⟩
end Go.Proofs.Ytogfcenebbipeaa.W
