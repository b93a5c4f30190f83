/-
  fretsawref01.(*Reader).Bool: the call takes the step of the plain function. Conditions: what is read are bytes; the reader's block is known.
-/
import Derived.Test.YtfphdpcffjpbjaaRefB
namespace Go.Proofs.Ytfphdpcffjpbjaa.W
open Go.RowKit Go.Proofs.Ytfphdpcffjpbjaa.Pl

theorem rdec_drewN {α : Type} {Rv : World → Value → α → Prop} {s : Step α} {w : World} {R : Nat} {v : Value} {l : List Int} {k : Nat} {f : Bool} {e : Ending} {w' : World} (n : Nat) (hq : ∀ u x, Rv w' u x → Rv (w'.drewN n) u x) (h : RDec Rv s w R v l k f e w') : RDec Rv s w R v l k f e (w'.drewN n) := by
  obtain ⟨u, k', h1, h2, h3, h4, h5⟩ := h
  exact ⟨u, k', h1, hq _ _ h2, h3, h4, ⟨h5.os, h5.tape, h5.output, h5.size, h5.block⟩⟩

/-- the byte at the place, in memory -/
theorem RefR.byte {w : World} {R : Nat} {A : Option Addr} {c : Nat} {l : List Int} {k : Nat} {f : Bool} (h : RefR w R (.slice A l.length c) l k f) (hl : 0 < l.length) :
    ∃ g o, A = some ⟨g, o, none⟩ ∧ g ≠ R ∧ ∀ j y, l[j]? = some y → w.cell? ⟨g, o + j, none⟩ = some (.int .u8 y) := by
  obtain ⟨h1, hs, hl2, hk, hne⟩ := h
  obtain ⟨g, o, cc, hv1, hcells⟩ := Src.form hs hl (by omega)
  simp only [Value.slice.injEq] at hv1
  obtain ⟨rfl, _, rfl⟩ := hv1
  refine ⟨g, o, rfl, ?_, fun j y hy => hcells j _ (by unfold bytes; rw [List.getElem?_map, hy]; rfl)⟩
  rcases hne with e | e
  · cases e
  · intro e2
    exact e (by rw [e2]; rfl)

set_option maxRecDepth 100000 in
set_option maxHeartbeats 800000 in
theorem refBool_any (R : Nat) (v : Value) (l : List Int) (k : Nat) (f : Bool) (w : World) (h : RefR w R v l k f) (hb : By l) :
    Calls Try.prog 43 #[.pointer (some ⟨R, 0, none⟩)] w (RDec IsBool (rd false sBool) w R v l k f) := by
  obtain ⟨A, c, rfl⟩ := h.2.1.shape
  obtain ⟨c0, c1, c2, d0, d1, d2⟩ := h.cells
  have hkl := h.2.2.2.1
  have hl := h.2.2.1
  cases f with
  | true =>
    go_enter Try.func43, Try.ntmps43
    go_wp2
    go_quiet (fail)
    go_wp2
    go_ret
    exact rdec_fail (h.drewN _).failed (grown_drewN (grown_setCell _ _ _ _)) rfl rfl
  | false =>
    by_cases hk : k = l.length
    · have hnil : l.drop k = [] := by rw [hk, List.drop_length]
      have hd := Lib.hid (show rd false sBool (l.drop k) false = (false, l.drop k, true) by rw [hnil]; rfl)
      have hge : decide (l.length ≤ k) = true := decide_eq_true (by omega)
      clear hk hnil
      go_enter Try.func43, Try.ntmps43
      go_wp2
      go_quiet (fail)
      go_wp2
      go_ret
      exact rdec_fail (h.drewN _).failed (grown_drewN (grown_setCell _ _ _ _)) hd.out rfl
    · have hlt : k < l.length := by omega
      obtain ⟨g, o, rfl, hgR, hcells⟩ := h.byte (by omega)
      obtain ⟨s, hs⟩ := show ∃ s, l[k]? = some s from ⟨l[k], List.getElem?_eq_getElem hlt⟩
      have hc := hcells k s hs
      have hs0 := hb s (List.mem_of_getElem? hs)
      have hge : decide (l.length ≤ k) = false := decide_eq_false (by omega)
      have hdr := drop_at hs
      have HC := Lib.hid hcells
      by_cases h1 : 1 < s
      · have hd := Lib.hid (show rd false sBool (l.drop k) false = (false, l.drop k, true) from by
          have e : sBool (l.drop k) false = (false, l.drop k, true) := by rw [hdr]; simp [sBool, h1]
          exact rd_no e)
        have hb1 : decide (1 < s) = true := decide_eq_true h1
        clear hdr hcells hs h1
        go_enter Try.func43, Try.ntmps43
        go_wp2
        go_quiet (fail)
        go_wp2
        go_ret
        exact rdec_fail (h.drewN _).failed (grown_drewN (grown_setCell _ _ _ _)) hd.out rfl
      · have hd := Lib.hid (show rd false sBool (l.drop k) false = (s == 1, l.drop (k + 1), false) from by
          have e : sBool (l.drop k) false = (s == 1, l.drop (k + 1), false) := by rw [hdr]; simp [sBool, h1]
          exact rd_ok e)
        have hb1 : decide (1 < s) = false := decide_eq_false h1
        have hw : IntKind.i64.wrap ((k : Int) + 1 - 1) = k := by rw [show (k : Int) + 1 - 1 = k by omega]; exact IntWalk.i64_in _ (by omega)
        clear hdr hcells hs h1 hk
        go_enter Try.func43, Try.ntmps43
        go_wp2
        go_quiet (fail)
        go_wp2
        go_quiet (fail)
        go_wp2
        go_ret
        refine rdec_drewN _ (fun _ _ hh => hh) (rdec_good (k' := k + 1) ((h.drewN _).at_ (k' := k + 1) (by omega)) (grown_drewN (grown_setCell _ _ _ _)) hd.out rfl rfl)
end Go.Proofs.Ytfphdpcffjpbjaa.W
