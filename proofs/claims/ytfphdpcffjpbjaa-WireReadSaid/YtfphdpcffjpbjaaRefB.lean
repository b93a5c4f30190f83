/-
  fretsawref01.(*Reader).Bounded, Bool: the calls take the steps of the plain functions. Conditions: what is read are bytes; the reader's block is known.
-/
import Derived.Test.YtfphdpcffjpbjaaRefGood
import Derived.Test.YtfphdpcffjpbjaaCursor
namespace Go.Proofs.Ytfphdpcffjpbjaa.W
open Go.RowKit Go.Proofs.Ytfphdpcffjpbjaa.Pl

theorem RefR.cells {w : World} {R : Nat} {v : Value} {l : List Int} {k : Nat} {f : Bool} (h : RefR w R v l k f) :
    w.cell? ⟨R, 0, none⟩ = some v ∧ w.cell? ⟨R, 1, none⟩ = some (.int .i64 k) ∧ w.cell? ⟨R, 2, none⟩ = some (.bool f) ∧ w.frozen? ⟨R, 0, none⟩ = false ∧ w.frozen? ⟨R, 1, none⟩ = false ∧ w.frozen? ⟨R, 2, none⟩ = false := three_cell h.1

/-- a reader's step that failed left all; one that did not is the cursor's -/
theorem rd_true {α : Type} {z x : α} {s : Step α} {L r : List Int} {f : Bool} (h : rd z s L f = (x, r, true)) : x = z ∧ r = L := by
  cases f with
  | true => rw [rd_failed] at h; injection h with h1 h2; injection h2 with h2 _; exact ⟨h1.symm, h2.symm⟩
  | false =>
    cases hs : (s L false).2.2 with
    | true => rw [rd_bad hs] at h; injection h with h1 h2; injection h2 with h2 _; exact ⟨h1.symm, h2.symm⟩
    | false => rw [rd_good hs] at h; injection h with h1 h2; injection h2 with h2 h3; cases h3
theorem rd_false {α : Type} {z x : α} {s : Step α} {L r : List Int} {f : Bool} (h : rd z s L f = (x, r, false)) : f = false ∧ s L false = (x, r, false) := by
  cases f with
  | true => rw [rd_failed] at h; injection h with h1 h2; injection h2 with h2 h3; cases h3
  | false =>
    cases hs : (s L false).2.2 with
    | true => rw [rd_bad hs] at h; injection h with h1 h2; injection h2 with h2 h3; cases h3
    | false =>
      rw [rd_good hs] at h
      injection h with h1 h2
      injection h2 with h2 h3
      exact ⟨rfl, Prod.ext h1 (Prod.ext h2 hs)⟩
theorem rd_fail_of {α β : Type} {z : α} {y : β} {s : Step α} {t : Step β} {L : List Int} {f : Bool} {x : α} {r : List Int} (h : rd z s L f = (x, r, true)) (ht : (s L false).2.2 = true → (t L false).2.2 = true) : rd y t L f = (y, L, true) := by
  cases f with
  | true => rfl
  | false =>
    cases hs : (s L false).2.2 with
    | true => exact rd_bad (ht hs)
    | false => rw [rd_good hs] at h; injection h with h1 h2; injection h2 with h2 h3; cases h3
theorem rd_ok {α : Type} {z x : α} {s : Step α} {L r : List Int} (h : s L false = (x, r, false)) : rd z s L false = (x, r, false) := by rw [rd_good (by rw [h]), h]
theorem rd_no {α : Type} {z x : α} {s : Step α} {L r : List Int} (h : s L false = (x, r, true)) : rd z s L false = (z, L, true) := rd_bad (by rw [h])

theorem bounded_bad {lo hi : Int} {L : List Int} (h : (sInt L false).2.2 = true) : (sBounded lo hi L false).2.2 = true := by
  unfold sBounded
  split
  · rfl
  · exact h

/-- the end of a call that fails at the place k -/
theorem rdec_fail {α : Type} {Rv : World → Value → α → Prop} {s : Step α} {w w2 : World} {R : Nat} {v u : Value} {l : List Int} {k : Nat} {f : Bool} {z : α} (hr : RefR w2 R v l k true) (hg : w.grownBy w2 (some R)) (hs : s (l.drop k) f = (z, l.drop k, true)) (hv : Rv w2 u z) :
    RDec Rv s w R v l k f (.returned u) w2 := by
  unfold RDec
  rw [hs]
  exact ⟨_, _, rfl, hv, hr, rfl, hg⟩
theorem rdec_good {α : Type} {Rv : World → Value → α → Prop} {s : Step α} {w w2 : World} {R : Nat} {v u : Value} {l r : List Int} {k k' : Nat} {f : Bool} {x : α} (hr : RefR w2 R v l k' false) (hg : w.grownBy w2 (some R)) (hs : s (l.drop k) f = (x, r, false)) (hk : l.drop k' = r) (hv : Rv w2 u x) :
    RDec Rv s w R v l k f (.returned u) w2 := by
  unfold RDec
  rw [hs]
  exact ⟨_, _, rfl, hv, hr, hk, hg⟩

theorem drop_eq {l : List Int} {k k' : Nat} (h : l.drop k' = l.drop k) (h1 : k' ≤ l.length) (h2 : k ≤ l.length) : k' = k := by
  have := congrArg List.length h
  rw [List.length_drop, List.length_drop] at this
  omega

set_option maxRecDepth 100000 in
set_option maxHeartbeats 800000 in
theorem refBounded_any (R : Nat) (v : Value) (l : List Int) (k : Nat) (f : Bool) (lo hi : Int) (w : World) (h : RefR w R v l k f) (hb : By l) :
    Calls Try.prog 42 #[.pointer (some ⟨R, 0, none⟩), .int .i64 lo, .int .i64 hi] w (RDec IsInt (rd 0 (sBounded lo hi)) w R v l k f) := by
  obtain ⟨c0, c1, c2, d0, d1, d2⟩ := h.cells
  obtain ⟨n, r, f1, hs⟩ : ∃ n r f1, rd 0 sInt (l.drop k) f = (n, r, f1) := ⟨_, _, _, rfl⟩
  have HS := Lib.hid hs
  have hkl := h.2.2.2.1
  cases f1 with
  | true =>
    have hd := Lib.hid (rd_fail_of (t := sBounded lo hi) (y := 0) hs bounded_bad)
    obtain ⟨rfl, rfl⟩ := rd_true hs
    clear hs
    go_enter Try.func42, Try.ntmps42
    go_wp2_with (go_at_call 41; ((with_reducible refine (refInt_any R v l k f _ h hb).mono ?_); rintro e w1 ⟨u1, k1, rfl, hv1, hr1, hk1, hg1⟩; rw [HS.out] at hv1 hr1 hk1; (obtain rfl : u1 = .int .i64 0 := hv1); (obtain rfl := drop_eq hk1 hr1.2.2.2.1 hkl); (obtain ⟨e0, e1, e2, _, _, _⟩ := hr1.cells); clear hk1))
    go_ret
    exact rdec_fail hr1 hg1 hd.out rfl
  | false =>
    obtain ⟨rfl, hs2⟩ := rd_false hs
    by_cases hlo : n < lo
    · have hd := Lib.hid (rd_no (z := (0 : Int)) (show sBounded lo hi (l.drop k) false = (0, r, true) by unfold sBounded; rw [hs2, if_pos (.inl hlo)]))
      have hb1 : decide (n < lo) = true := decide_eq_true hlo
      clear hs hs2 hlo
      go_enter Try.func42, Try.ntmps42
      go_wp2_with (first
        | (go_at_call 41; ((with_reducible refine (refInt_any R v l k false _ h hb).mono ?_); rintro e w1 ⟨u1, k1, rfl, hv1, hr1, hk1, hg1⟩; rw [HS.out] at hv1 hr1; (obtain rfl : u1 = .int .i64 n := hv1); (obtain ⟨e0, e1, e2, _, _, _⟩ := hr1.cells); clear hk1))
        | (go_at_call 80; ((with_reducible refine (refFail_any R v l k1 k false _ hr1 hkl).mono ?_); rintro e w2 ⟨rfl, hr2, hg2⟩)))
      go_ret
      exact rdec_fail hr2 (hg1.trans hg2) hd.out rfl
    · by_cases hhi : hi < n
      · have hd := Lib.hid (rd_no (z := (0 : Int)) (show sBounded lo hi (l.drop k) false = (0, r, true) by unfold sBounded; rw [hs2, if_pos (.inr hhi)]))
        have hb1 : decide (n < lo) = false := decide_eq_false hlo
        have hb2 : decide (hi < n) = true := decide_eq_true hhi
        clear hs hs2 hlo hhi
        go_enter Try.func42, Try.ntmps42
        go_wp2_with (first
          | (go_at_call 41; ((with_reducible refine (refInt_any R v l k false _ h hb).mono ?_); rintro e w1 ⟨u1, k1, rfl, hv1, hr1, hk1, hg1⟩; rw [HS.out] at hv1 hr1; (obtain rfl : u1 = .int .i64 n := hv1); (obtain ⟨e0, e1, e2, _, _, _⟩ := hr1.cells); clear hk1))
          | (go_at_call 80; ((with_reducible refine (refFail_any R v l k1 k false _ hr1 hkl).mono ?_); rintro e w2 ⟨rfl, hr2, hg2⟩)))
        go_ret
        exact rdec_fail hr2 (hg1.trans hg2) hd.out rfl
      · have hd := Lib.hid (rd_ok (z := (0 : Int)) (show sBounded lo hi (l.drop k) false = (n, r, false) by unfold sBounded; rw [hs2, if_neg (by simp only [not_or]; exact ⟨hlo, hhi⟩)]))
        have hb1 : decide (n < lo) = false := decide_eq_false hlo
        have hb2 : decide (hi < n) = false := decide_eq_false hhi
        clear hs hs2 hlo hhi
        go_enter Try.func42, Try.ntmps42
        go_wp2_with (go_at_call 41; ((with_reducible refine (refInt_any R v l k false _ h hb).mono ?_); rintro e w1 ⟨u1, k1, rfl, hv1, hr1, hk1, hg1⟩; rw [HS.out] at hv1 hr1; (obtain rfl : u1 = .int .i64 n := hv1); (obtain ⟨e0, e1, e2, _, _, _⟩ := hr1.cells); have HK := Lib.hid hk1; clear hk1))
        go_ret
        exact rdec_good hr1 hg1 hd.out (by rw [HK.out, HS.out]) rfl
end Go.Proofs.Ytfphdpcffjpbjaa.W
