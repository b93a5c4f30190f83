/-
  wire.New, (*wire.Reader).Int, (*wire.Reader).End: what the calls return and leave. Conditions: what is left are bytes; the reader's block is known.
-/
import Derived.Test.YtfphdpcffjpbjaaInteger
namespace Go.Proofs.Ytfphdpcffjpbjaa.W
open Go.RowKit Go.Proofs.Ytfphdpcffjpbjaa.Pl

set_option maxRecDepth 100000 in
set_option maxHeartbeats 400000 in
theorem new_any (v : Value) (l : List Int) (w : World) (hv : Src w 1 v l.length (bytes l)) (hl : l.length ≤ 140737488355328) :
    Calls Try.prog 10 #[v] w fun e w' => ∃ R g, e = .returned (.pointer (some ⟨R, 0, none⟩)) ∧ w.heap.size ≤ R ∧ w.heap.size ≤ g ∧ Rec w' 79 R g l false ∧ Below w.heap.size w w' := by
  go_enter Try.func10, Try.ntmps10
  go_wp2_with (at_builtin; go_must (refine wp_app rfl (.const (.slice none 0 0)) (.tmp 3) rfl w.heap.size (.slice none 0 0) v [] l rfl (OwnB.nil _ _) rfl hv (by simpa using hl) (Nat.le_refl _) ?_); intro v1 w1 own1 gr1; obtain ⟨A1, c1, g, rfl, hg, hrest, hlt⟩ := own1.rest_ gr1.size)
  have hb1 := gr1.below (Nat.le_refl _) (by intro k hk; cases hk)
  go_ret
  exact ⟨_, g, rfl, hb1.size, hg, Rec.new hrest hlt, hb1.alloc hb1.size _⟩

/-- the cells of the cursor and of the reader behind a decoding -/
theorem behind {w w' : World} {R C g : Nat} {l l' : List Int} {f f' : Bool} (h : Rec w 79 R g l f) (h2 : Rec w' 107 C g l' f') (hg : w.grownBy w' (some C)) (hne : R ≠ C) :
    ∃ rest rest', (w'.cell? ⟨R, 0, none⟩ = some rest ∧ w'.cell? ⟨R, 1, none⟩ = some (.bool f) ∧ w'.frozen? ⟨R, 0, none⟩ = false ∧ w'.frozen? ⟨R, 1, none⟩ = false) ∧
      (w'.cell? ⟨C, 0, none⟩ = some rest' ∧ w'.cell? ⟨C, 1, none⟩ = some (.bool f')) ∧ Rest w' g rest' l' := by
  obtain ⟨rest, h1, hr, h5⟩ := h
  obtain ⟨rest', h1', hr', h5'⟩ := h2
  have e := (hg.block R (block_lt h1) (by intro e; injection e with e; exact hne e)).trans h1
  have k := two_cell h1'
  exact ⟨rest, rest', two_cell e, ⟨k.1, k.2.1⟩, hr'⟩

set_option maxRecDepth 100000 in
set_option maxHeartbeats 400000 in
theorem rInt_any (R g : Nat) (l : List Int) (f : Bool) (w : World) (h : Rec w 79 R g l f) (hb : By l) :
    Calls Try.prog 36 #[.pointer (some ⟨R, 0, none⟩)] w (Dec 79 IsInt (rd 0 sInt) w R g l f) := by
  have h0 := h
  obtain ⟨rest, h1, hr, h5⟩ := h
  obtain ⟨A, c, rfl, hlc, hcm, _⟩ := id hr
  obtain ⟨k0, k1, k2, k3⟩ := two_cell h1
  cases f with
  | true =>
    have hp : Dec 79 IsInt (rd 0 sInt) w R g l true (.returned (.int .i64 0)) w := read_failed h0 rfl
    clear h1 hr
    go_enter Try.func36, Try.ntmps36
    go_wp2
    go_ret
    exact hp
  | false =>
    have hC : Rec (w.alloc (.cells #[.slice A l.length c, .bool false] 107)) 107 w.heap.size g l false := Rec.new hr hr.lt_
    have hR' : Rec (w.alloc (.cells #[.slice A l.length c, .bool false] 107)) 79 R g l false := h0.below ((Below.refl _ _).alloc (Nat.le_refl _) _)
    have hRl := h0.lt
    have hne : R ≠ w.heap.size := by omega
    clear h1 hr h5
    cases hs : (sInt l false).2.2 with
    | true =>
      have HS := Lib.hid hs
      clear hs
      go_enter Try.func36, Try.ntmps36
      go_wp2_with (first | (go_at_call 58; go_in) | (go_at_call 57; go_must (refine (integer_dec w.heap.size g l false _ hC hb).mono ?_); rintro e w2 ⟨v2, rfl, rfl, hrec, hgr⟩; rw [HS.out] at hrec; obtain ⟨rest1, rest2, ⟨q0, q1, q2, q3⟩, ⟨q4, q5⟩, hr2⟩ := behind hR' hrec hgr hne; clear hrec))
      go_ret
      exact read_bad h0 hgr HS.out (fun _ => rfl)
    | false =>
      have HS := Lib.hid hs
      clear hs
      go_enter Try.func36, Try.ntmps36
      go_wp2_with (first | (go_at_call 58; go_in) | (go_at_call 57; go_must (refine (integer_dec w.heap.size g l false _ hC hb).mono ?_); rintro e w2 ⟨v2, rfl, rfl, hrec, hgr⟩; rw [HS.out] at hrec; obtain ⟨rest1, rest2, ⟨q0, q1, q2, q3⟩, ⟨q4, q5⟩, hr2⟩ := behind hR' hrec hgr hne; obtain ⟨A2, c2, rfl, hq⟩ := id hr2; clear hrec))
      go_ret
      exact read_good h0 hgr HS.out hr2 rfl suf_sInt.ne
end Go.Proofs.Ytfphdpcffjpbjaa.W
