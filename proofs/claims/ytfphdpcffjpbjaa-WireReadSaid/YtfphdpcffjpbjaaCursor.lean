/-
  (*wire.cursor).bounded, boolean, bytes: what the calls return and leave at a cursor. Condition: what is left are bytes.
-/
import Derived.Test.YtfphdpcffjpbjaaInteger
namespace Go.Proofs.Ytfphdpcffjpbjaa.W
open Go.RowKit Go.Proofs.Ytfphdpcffjpbjaa.Pl

def sBounded (lo hi : Int) : Step Int := fun l f => if (sInt l f).1 < lo ∨ hi < (sInt l f).1 then (0, (sInt l f).2.1, true) else sInt l f
def sBool : Step Bool := fun l f => match l with
  | [] => (false, [], true)
  | x :: t => if 1 < x then (false, x :: t, true) else (x == 1, t, f)
def sBytes (max : Int) : Step (List Int) := fun l f =>
  if ((sBounded 0 max l f).2.1.length : Int) < (sBounded 0 max l f).1 then ([], (sBounded 0 max l f).2.1, true)
  else ((sBounded 0 max l f).2.1.take (sBounded 0 max l f).1.toNat, (sBounded 0 max l f).2.1.drop (sBounded 0 max l f).1.toNat, (sBounded 0 max l f).2.2)

theorem suf_sBounded (lo hi : Int) : Suf (sBounded lo hi) := fun l f => by
  obtain ⟨k, hk⟩ := suf_sInt l f
  refine ⟨k, ?_⟩
  unfold sBounded
  split <;> exact hk
theorem suf_sBool : Suf sBool := fun l f => by
  cases l with
  | nil => exact ⟨0, rfl⟩
  | cons x t =>
    by_cases h : 1 < x
    · exact ⟨0, by simp [sBool, h]⟩
    · exact ⟨1, by simp [sBool, h]⟩
theorem suf_sBytes (max : Int) : Suf (sBytes max) := fun l f => by
  obtain ⟨k, hk⟩ := suf_sBounded 0 max l f
  unfold sBytes
  split
  · exact ⟨k, hk⟩
  · exact ⟨k + (sBounded 0 max l f).1.toNat, by rw [← List.drop_drop, ← hk]⟩

/-- the fail method, behind a step -/
theorem dec_fail {α : Type} {Rv : World → Value → α → Prop} {s : Step α} {w w2 : World} {T C g : Nat} {l l' : List Int} {f f' : Bool} {v : Value} {x : α} (hg : w.grownBy w2 (some C)) (hr : Rec w2 T C g l' f') (hs : s l f = (x, l', true)) (hv : ∀ W, Rv W v x) :
    Dec T Rv s w C g l f (.returned v) (w2.setCell ⟨C, 1, none⟩ (.bool true)) := by
  refine ⟨v, rfl, ?_, ?_, hg.trans (grown_setCell _ _ _ _)⟩
  · rw [hs]; exact hv _
  · rw [hs]; exact hr.fail

set_option maxRecDepth 100000 in
set_option maxHeartbeats 400000 in
theorem bounded_dec (C g : Nat) (lo hi : Int) (l : List Int) (f : Bool) (w : World) (h : Rec w 107 C g l f) (hb : By l) :
    Calls Try.prog 60 #[.pointer (some ⟨C, 0, none⟩), .int .i64 lo, .int .i64 hi] w (Dec 107 IsInt (sBounded lo hi) w C g l f) := by
  obtain ⟨n, l', f', hs⟩ : ∃ n l' f', sInt l f = (n, l', f') := ⟨_, _, _, rfl⟩
  have HS := Lib.hid hs
  by_cases h1 : n < lo
  · have hd := Lib.hid (show sBounded lo hi l f = (0, l', true) by unfold sBounded; rw [hs, if_pos (.inl h1)])
    clear hs
    go_enter Try.func60, Try.ntmps60
    go_wp2_with (first | (go_at_call 57; go_must (refine (integer_dec C g l f _ h hb).mono ?_); rintro e w2 ⟨v2, rfl, hv, hrec, hgr⟩; rw [HS.out] at hv hrec; (obtain rfl : v2 = .int .i64 n := hv); (obtain ⟨rest2, q, _, _⟩ := id hrec); (obtain ⟨q0, q1, q2, q3⟩ := two_cell q); clear q) | go_in)
    go_ret
    exact dec_fail hgr hrec hd.out (fun _ => rfl)
  · by_cases h2 : hi < n
    · have hd := Lib.hid (show sBounded lo hi l f = (0, l', true) by unfold sBounded; rw [hs, if_pos (.inr h2)])
      clear hs
      have hd1 : decide (n < lo) = false := decide_eq_false h1
      go_enter Try.func60, Try.ntmps60
      go_wp2_with (first | (go_at_call 57; go_must (refine (integer_dec C g l f _ h hb).mono ?_); rintro e w2 ⟨v2, rfl, hv, hrec, hgr⟩; rw [HS.out] at hv hrec; (obtain rfl : v2 = .int .i64 n := hv); (obtain ⟨rest2, q, _, _⟩ := id hrec); (obtain ⟨q0, q1, q2, q3⟩ := two_cell q); clear q) | go_in)
      go_ret
      exact dec_fail hgr hrec hd.out (fun _ => rfl)
    · have hd := Lib.hid (show sBounded lo hi l f = (n, l', f') by unfold sBounded; rw [hs, if_neg (by simp only [not_or]; exact ⟨h1, h2⟩)])
      clear hs
      have hd1 : decide (n < lo) = false := decide_eq_false h1
      have hd2 : decide (hi < n) = false := decide_eq_false h2
      go_enter Try.func60, Try.ntmps60
      go_wp2_with (go_at_call 57; go_must (refine (integer_dec C g l f _ h hb).mono ?_); rintro e w2 ⟨v2, rfl, hv, hrec, hgr⟩; rw [HS.out] at hv hrec; (obtain rfl : v2 = .int .i64 n := hv))
      go_ret
      exact ⟨_, rfl, by rw [hd.out]; rfl, by rw [hd.out]; exact hrec, hgr⟩

set_option maxRecDepth 100000 in
set_option maxHeartbeats 400000 in
theorem boolean_dec (C g : Nat) (l : List Int) (f : Bool) (w : World) (h : Rec w 107 C g l f) (hb : By l) :
    Calls Try.prog 62 #[.pointer (some ⟨C, 0, none⟩)] w (Dec 107 IsBool sBool w C g l f) := by
  have h0 := h
  cases l with
  | nil =>
    obtain ⟨rest, h1, hr, h5⟩ := h
    obtain ⟨A, c, rfl, _⟩ := id hr
    obtain ⟨k0, k1, k2, k3⟩ := two_cell h1
    clear h1 h5 hr
    go_enter Try.func62, Try.ntmps62
    go_wp2
    go_ret
    exact dec_fail (World.grownBy.refl _ _) h0 rfl (fun _ => rfl)
  | cons x t =>
    obtain ⟨rest, h1, hr, h5⟩ := h
    obtain ⟨o, n, c, rfl⟩ := hr.form (by simp)
    obtain ⟨hn, h2, h3⟩ := hr.len
    have hadv := hr.adv (k := 1) (by simp at hn; omega)
    have hend := Rest.none_ w g (some ⟨g, o, none⟩) (c - 1) (by omega)
    have hc0 := hr.at_ (i := 0) rfl
    rw [Nat.add_zero] at hc0
    obtain ⟨k0, k1, k2, k3⟩ := two_cell h1
    have hx := hb.head
    have hn1 : 1 ≤ n := by simp at hn; omega
    have hn2 : (n : Int) ≤ 9223372036854775807 := by unfold maxLen at h3; omega
    have hn0 : ((n : Int) == 0) = false := by rw [beq_eq_false_iff_ne]; omega
    have hnt : c = 1 → t = [] := fun e => List.eq_nil_of_length_eq_zero (by simp at hn; omega)
    have HNT := Lib.hid hnt
    have HA := Lib.hid hadv
    have HN := Lib.hid hn
    clear hnt hadv hend hn h1 h5 hr
    by_cases h1x : 1 < x
    · have hd := Lib.hid (show sBool (x :: t) f = (false, x :: t, true) by simp [sBool, h1x])
      have hdx : decide (1 < x) = true := decide_eq_true h1x
      go_enter Try.func62, Try.ntmps62
      go_wp2
      go_ret
      exact dec_fail (World.grownBy.refl _ _) h0 hd.out (fun _ => rfl)
    · have hd := Lib.hid (show sBool (x :: t) f = (x == 1, t, f) by simp [sBool, h1x])
      have hdx : decide (1 < x) = false := decide_eq_false h1x
      have hgood : ∀ v, Rest w g v t → Dec 107 IsBool sBool w C g (x :: t) f (.returned (.bool (x == 1))) (w.setCell ⟨C, 0, none⟩ v) := fun v hv =>
        ⟨_, rfl, by rw [hd.out]; rfl, by rw [hd.out]; exact h0.rest hv (by simp), grown_setCell _ _ _ _⟩
      have HG := Lib.hid hgood
      clear hgood
      by_cases hc1 : c = 1
      · have ht := HNT.out hc1
        have HT := Lib.hid ht
        clear ht
        have hn3 : n ≤ 1 := by omega
        go_enter Try.func62, Try.ntmps62
        go_wp2
        go_ret
        refine HG.out _ ?_
        rw [HT.out]
        obtain rfl : n = 1 := by omega
        exact Rest.none_ w g _ _ (by omega)
      · go_enter Try.func62, Try.ntmps62
        go_wp2
        go_ret
        exact HG.out _ HA.out
end Go.Proofs.Ytfphdpcffjpbjaa.W
