/-
  (*wire.cursor).bytes: what the call returns and leaves at a cursor: a part of the bytes that are left. Condition: what is left are bytes.
-/
import Derived.Test.YtfphdpcffjpbjaaCursor
namespace Go.Proofs.Ytfphdpcffjpbjaa.W
open Go.RowKit Go.Proofs.Ytfphdpcffjpbjaa.Pl

theorem sBounded_nonneg (max : Int) (l : List Int) (f : Bool) : 0 ≤ (sBounded 0 max l f).1 := by
  unfold sBounded
  split
  · exact Int.le_refl _
  · omega

theorem add_zero_addr (a : Addr) : a.add 0 = a := by simp [Addr.add]

def IsRest (g : Nat) (w : World) (v : Value) (m : List Int) : Prop := Rest w g v m

theorem dec_bytes {max : Int} {w w2 : World} {C g : Nat} {l l' : List Int} {f f' : Bool} {k : Nat} {v u : Value} (hg : w.grownBy w2 (some C)) (hr : Rec w2 107 C g l' f')
    (hs : sBytes max l f = (l'.take k, l'.drop k, f')) (hv : Rest w2 g v (l'.take k)) (hu : Rest w2 g u (l'.drop k)) (hne : l'.take k ≠ [] → C ≠ g) :
    Dec 107 (IsRest g) (sBytes max) w C g l f (.returned v) (w2.setCell ⟨C, 0, none⟩ u) := by
  refine ⟨v, rfl, ?_, ?_, hg.trans (grown_setCell _ _ _ _)⟩
  · rw [hs]
    exact Rest.keep (w := w2) hv (fun h _ => Below.heap_setCell w2 ⟨C, 0, none⟩ _ g (fun e => hne h e.symm))
  · rw [hs]
    exact hr.rest hu (by intro h; rintro rfl; simp at h)

set_option maxRecDepth 100000 in
set_option maxHeartbeats 800000 in
theorem bytes_dec (C g : Nat) (max : Int) (l : List Int) (f : Bool) (w : World) (h : Rec w 107 C g l f) (hb : By l) :
    Calls Try.prog 65 #[.pointer (some ⟨C, 0, none⟩), .int .i64 max] w (Dec 107 (IsRest g) (sBytes max) w C g l f) := by
  obtain ⟨n, l', f', hs⟩ : ∃ n l' f', sBounded 0 max l f = (n, l', f') := ⟨_, _, _, rfl⟩
  have hn0 : 0 ≤ n := by have := sBounded_nonneg max l f; rw [hs] at this; exact this
  obtain ⟨k, rfl⟩ : ∃ k : Nat, n = k := ⟨n.toNat, by omega⟩
  have HS := Lib.hid hs
  by_cases hlt : l'.length < k
  · have hd := Lib.hid (show sBytes max l f = ([], l', true) by unfold sBytes; rw [hs]; exact if_pos (by show (l'.length : Int) < (k : Int); omega))
    clear hs
    obtain ⟨L, hL⟩ : ∃ L, L = l'.length := ⟨_, rfl⟩
    rw [← hL] at hlt
    have HL := Lib.hid hL
    clear hL
    go_enter Try.func65, Try.ntmps65
    go_wp2_with fail
    refine (bounded_dec C g 0 max l f _ h hb).mono ?_
    rintro e w2 ⟨v2, rfl, hv, hrec, hgr⟩
    rw [HS.out] at hv hrec
    obtain rfl : v2 = .int .i64 k := hv
    obtain ⟨rest2, q, hr2, _⟩ := id hrec
    obtain ⟨A2, c2, rfl, hc2, hc3, _⟩ := id hr2
    obtain ⟨q0, q1, q2, q3⟩ := two_cell q
    rw [← HL.out] at q0
    clear q hc2
    go_wp2_with go_in
    go_ret
    exact dec_fail hgr hrec hd.out (fun W => Rest.none_ W g _ _ (Nat.zero_le _))
  · have hd := Lib.hid (show sBytes max l f = (l'.take k, l'.drop k, f') by unfold sBytes; rw [hs]; exact if_neg (by show ¬ (l'.length : Int) < (k : Int); omega))
    clear hs
    obtain ⟨L, hL⟩ : ∃ L, L = l'.length := ⟨_, rfl⟩
    rw [← hL] at hlt
    have HL := Lib.hid hL
    clear hL
    have hkL : k ≤ L := by omega
    go_enter Try.func65, Try.ntmps65
    go_wp2_with fail
    refine (bounded_dec C g 0 max l f _ h hb).mono ?_
    rintro e w2 ⟨v2, rfl, hv, hrec, hgr⟩
    rw [HS.out] at hv hrec
    obtain rfl : v2 = .int .i64 k := hv
    obtain ⟨rest2, q, hr2, hne⟩ := id hrec
    obtain ⟨A2, c2, rfl, hc2, hc3, _⟩ := id hr2
    obtain ⟨q0, q1, q2, q3⟩ := two_cell q
    rw [← HL.out] at q0 hc2 hr2
    clear q
    have hc4 : (c2 : Int) ≤ 9223372036854775807 := by unfold maxLen at hc3; omega
    by_cases hz : L = 0
    · subst hz
      obtain rfl : k = 0 := by omega
      have hl' : l' = [] := List.eq_nil_of_length_eq_zero HL.out.symm
      have HE := Lib.hid hl'
      clear hl' hlt
      have ha := add_zero_addr
      rcases A2 with _ | ad
      · go_wp2
        all_goals go_ret
        all_goals exact dec_bytes hgr hrec hd.out (by rw [HE.out]; exact Rest.none_ _ _ _ _ hc3) (by rw [HE.out]; exact Rest.none_ _ _ _ _ hc3) (by rw [HE.out]; simp)
      · go_wp2
        all_goals go_ret
        all_goals exact dec_bytes hgr hrec hd.out (by rw [HE.out]; exact Rest.none_ _ _ _ _ (by omega)) (by rw [HE.out]; exact Rest.none_ _ _ _ _ (by omega)) (by rw [HE.out]; simp)
    · have hl' : l' ≠ [] := fun e => by have := HL.out; rw [e] at this; simp at this; omega
      obtain ⟨o, n', c', hv⟩ := hr2.form hl'
      simp only [Value.slice.injEq] at hv
      obtain ⟨rfl, rfl, rfl⟩ := hv
      have hadv := Lib.hid (hr2.adv (k := k) hkL)
      have htk := Lib.hid (show Rest w2 g (.slice (some ⟨g, o, none⟩) k c2) (l'.take k) from ⟨_, _, by rw [List.length_take, ← HL.out, Nat.min_eq_left hkL], by rw [List.length_take]; omega, hc3, fun _ => ⟨o, rfl, fun i x hx => hr2.at_ (by
        rw [List.getElem?_take] at hx
        split at hx
        · exact hx
        · cases hx)⟩⟩)
      have hne' := Lib.hid (hne hl')
      have HH := Lib.hid hl'
      clear hne hr2 hl'
      by_cases hck : c2 = k
      · subst hck
        have hLk : L = c2 := by omega
        subst hLk
        go_wp2
        go_ret
        refine dec_bytes hgr hrec hd.out htk.out ?_ (fun _ => hne'.out)
        rw [List.drop_eq_nil_of_le (by rw [← HL.out]; exact Nat.le_refl _)]
        first | exact Rest.none_ _ _ _ _ (by omega) | (rw [Nat.sub_self]; exact Rest.none_ _ _ _ _ (by omega))
      · go_wp2
        go_ret
        exact dec_bytes hgr hrec hd.out htk.out hadv.out (fun _ => hne'.out)
end Go.Proofs.Ytfphdpcffjpbjaa.W
