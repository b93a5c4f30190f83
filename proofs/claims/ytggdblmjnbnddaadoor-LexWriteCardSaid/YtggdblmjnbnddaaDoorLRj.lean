/-
  The reference's Join. Condition: the tokens' numbers are ints; at most 2^40 tokens, the text takes at most 2^47 bytes.
-/
import Derived.Test.YtggdblmjnbnddaaDoorLIt
import Derived.Test.YtggdblmjnbnddaaDoorLJo
namespace Go.Proofs.YtggdblmjnbnddaaDoor.W
open Go.RowKit Go.Proofs.YtggdblmjnbnddaaDoor.Pl

theorem jn_snoc (l : List Tk) (t : Tk) (h : l ≠ []) : jn (l ++ [t]) = jn l ++ [32] ++ wr t := by
  cases l with
  | nil => exact absurd rfl h
  | cons x r =>
    unfold jn
    rw [List.cons_append, List.map_cons, List.map_cons, Lib.join_cons, Lib.join_cons]
    simp [Lib.joinTail]
theorem jn_take_le (l : List Tk) : ∀ k, k ≤ l.length → (jn (l.take k)).length ≤ (jn l).length := by
  have key : ∀ (d k : Nat), k + d = l.length → (jn (l.take k)).length ≤ (jn l).length := by
    intro d
    induction d with
    | zero => intro k h; rw [List.take_of_length_le (by omega)]; exact Nat.le_refl _
    | succ d ih =>
      intro k h
      have hk : k < l.length := by omega
      have e : l.take (k + 1) = l.take k ++ [l[k]] := by rw [List.take_add_one, List.getElem?_eq_getElem hk]; rfl
      have h2 := ih (k + 1) (by omega)
      rw [e] at h2
      by_cases h0 : l.take k = []
      · rw [h0]; exact Nat.zero_le _
      · rw [jn_snoc _ _ h0, List.length_append, List.length_append] at h2
        omega
  exact fun k h => key (l.length - k) k (by omega)

set_option maxRecDepth 100000 in
set_option maxHeartbeats 3200000 in
theorem refJoin_any (v : Value) (l : List Tk) (w : World) (hs : SrcT w v l) (hf : ∀ t ∈ l, Fit t) (hlen : l.length ≤ 1099511627775) (hj : (jn l).length ≤ 140737488355328) :
    Calls Tryd.prog 20 #[v] w fun e w' => e = .returned (.string (tx (jn l))) ∧ Nw w w' := by
  obtain ⟨A, cap, rfl⟩ := hs.shape
  obtain ⟨n, hn⟩ : ∃ n, l.length = n := ⟨_, rfl⟩
  have hni : (n : Int) ≤ 1099511627775 := by omega
  have HN := Lib.hid hn
  have HS := Lib.hid hs
  rw [hn]
  clear hn hs
  go_enter Tryd.func20, Tryd.ntmps20
  go_wp2_with fail
  go_loopw [3, 4] (fun a i wr => ∃ (k : Nat), i = .int .i64 k ∧ k ≤ n ∧ a = .string (tx (jn (l.take k))) ∧ Nw w wr) (fun _ i _ => n - (intOf i).toNat)
  case atStart => exact ⟨0, rfl, Nat.zero_le _, rfl, Kp.refl _ _⟩
  case round =>
    obtain ⟨k, rfl, hk, rfl, hnw⟩ := hrel
    by_cases hlt : k < n
    · have hkl : k < l.length := by have := HN.out; omega
      obtain ⟨x, hx⟩ : ∃ x, l[k]? = some x := ⟨_, List.getElem?_eq_getElem hkl⟩
      have hsu := (HS.out).nw hnw
      obtain ⟨g, o, c2, hv2, _, _⟩ := hsu.form (by omega)
      simp only [Value.slice.injEq] at hv2
      have hA := hv2.1
      clear hv2
      obtain ⟨x0, x1, x2, x3⟩ := hsu.at_ hA hx
      subst hA
      have hkn : (k : Int) < (n : Int) := by omega
      have hd1 : decide ((k : Int) < (n : Int)) = true := decide_eq_true hkn
      have e : l.take (k + 1) = l.take k ++ [x] := by rw [List.take_add_one, hx]; rfl
      have hl1 := jn_take_le l (k + 1) hkl
      have hww := fun w1 => refWrite_any x w1 (hf x (List.mem_of_getElem? hx))
      obtain ⟨u, hu⟩ : ∃ u, Pl.wr x = u := ⟨_, rfl⟩
      rw [hu] at hww
      have hsu2 := tx_size u
      have HW := Lib.hid hnw
      rcases Nat.eq_zero_or_pos k with hk0 | hk0
      · have hdz : decide ((0 : Int) < (k : Int)) = false := decide_eq_false (by omega)
        have hdz2 : decide (0 < k) = false := decide_eq_false (by omega)
        have hj0 : jn (l.take k) = [] := by rw [hk0]; rfl
        have hj1 : jn (l.take (k + 1)) = u := by
          rw [e, hk0, ← hu]
          show jn [x] = _
          unfold jn
          rw [List.map_cons, List.map_nil, Lib.join_one]
        rw [hj1] at hl1
        have HJ := Lib.hid hj1
        rw [hj0]
        have hsb := tx_size []
        have hcat : tx [] ++ tx u = tx u := tx_app [] u
        have hsmall : u.length ≤ 140737488355328 := Nat.le_trans hl1 hj
        clear hx hsu hnw e hj1 hu hj0 hk0 hl1
        go_wp2_with fail
        with_reducible refine (hww _).mono ?_
        rintro e w2 ⟨rfl, hk2⟩
        have HW2 := Lib.hid (HW.out.tr hk2)
        clear hk2
        go_wp2_with fail
        go_roundw
        case rel => exact ⟨k + 1, by go_num, by omega, by rw [HJ.out], HW2.out⟩
        case measure => simp [intOf]; omega
      · have hdz : decide ((0 : Int) < (k : Int)) = true := decide_eq_true (by omega)
        have hdz2 : decide (0 < k) = true := decide_eq_true hk0
        obtain ⟨b, hb⟩ : ∃ b, jn (l.take k) = b := ⟨_, rfl⟩
        have hj1 : jn (l.take (k + 1)) = b ++ [32] ++ u := by
          rw [e, jn_snoc _ _ (fun h => by have := congrArg List.length h; rw [List.length_take, List.length_nil] at this; omega), hu, hb]
        rw [hj1, List.length_append, List.length_append] at hl1
        have HJ := Lib.hid hj1
        rw [hb]
        have hsb := tx_size b
        have hsb2 := tx_size (b ++ [32])
        rw [List.length_append] at hsb2
        have hcat1 : tx b ++ ByteArray.mk #[32] = tx (b ++ [32]) := tx_ap1 b #[32]
        have hcat2 : tx (b ++ [32]) ++ tx u = tx (b ++ [32] ++ u) := tx_app _ _
        have hsmall : b.length + 1 + u.length ≤ 140737488355328 := Nat.le_trans hl1 hj
        clear hx hsu hnw e hj1 hu hb hl1
        go_wp2_with fail
        with_reducible refine (hww _).mono ?_
        rintro e w2 ⟨rfl, hk2⟩
        have HW2 := Lib.hid (HW.out.tr hk2)
        clear hk2
        go_wp2_with fail
        go_roundw
        case rel => exact ⟨k + 1, by go_num, by omega, by rw [HJ.out, List.append_assoc]; rfl, HW2.out⟩
        case measure => simp [intOf]; omega
    · obtain rfl : k = n := by omega
      have hd1 : decide ((k : Int) < (k : Int)) = false := decide_eq_false (by omega)
      rw [show l.take k = l from List.take_of_length_le (by have := HN.out; omega)]
      have HW := Lib.hid hnw
      clear hnw
      go_wp2_with fail
      go_ret
      exact ⟨rfl, HW.out⟩
end Go.Proofs.YtggdblmjnbnddaaDoor.W
