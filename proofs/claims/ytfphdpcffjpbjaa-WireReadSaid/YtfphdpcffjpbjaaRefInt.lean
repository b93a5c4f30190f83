/-
  fretsawref01.(*Reader).Int: the call takes the step of the plain function. Conditions: what is read are bytes; the reader's block is known.
-/
import Derived.Test.YtfphdpcffjpbjaaRef
import Derived.Test.YtfphdpcffjpbjaaWidth
namespace Go.Proofs.Ytfphdpcffjpbjaa.W
open Go.RowKit Go.Proofs.Ytfphdpcffjpbjaa.Pl

/-- a call of the reference's reader took a step -/
def RDec {α : Type} (Rv : World → Value → α → Prop) (s : Step α) (w : World) (R : Nat) (v : Value) (l : List Int) (k : Nat) (f : Bool) (e : Ending) (w' : World) : Prop :=
  ∃ u k', e = .returned u ∧ Rv w' u (s (l.drop k) f).1 ∧ RefR w' R v l k' (s (l.drop k) f).2.2 ∧ l.drop k' = (s (l.drop k) f).2.1 ∧ w.grownBy w' (some R)

theorem RefR.failed {w : World} {R : Nat} {v : Value} {l : List Int} {k : Nat} {f : Bool} (h : RefR w R v l k f) : RefR (w.setCell ⟨R, 2, none⟩ (.bool true)) R v l k true :=
  ⟨three_set2 h.1, Src.grown h.2.1 (grown_setCell w R 2 _) h.2.2.2.2, h.2.2.1, h.2.2.2.1, h.2.2.2.2⟩

theorem RDec.drewN {s : Step Int} {w : World} {R : Nat} {v : Value} {l : List Int} {k : Nat} {f : Bool} {e : Ending} {w' : World} (n : Nat) (h : RDec IsInt s w R v l k f e w') : RDec IsInt s w R v l k f e (w'.drewN n) := by
  obtain ⟨u, k', h1, h2, h3, h4, h5⟩ := h
  exact ⟨u, k', h1, h2, h3, h4, ⟨h5.os, h5.tape, h5.output, h5.size, h5.block⟩⟩

set_option maxRecDepth 100000 in
set_option maxHeartbeats 800000 in
theorem refInt_failed (R : Nat) (v : Value) (l : List Int) (k : Nat) (w : World) (h : RefR w R v l k true) :
    Calls Try.prog 41 #[.pointer (some ⟨R, 0, none⟩)] w (RDec IsInt (rd 0 sInt) w R v l k true) := by
  obtain ⟨h1, hs, hl, hk, hne⟩ := id h
  obtain ⟨A, c, rfl⟩ := hs.shape
  obtain ⟨c0, c1, c2, d0, d1, d2⟩ := three_cell h1
  have hp : RDec IsInt (rd 0 sInt) w R (.slice A l.length c) l k true (.returned (.int .i64 0)) (w.setCell ⟨R, 2, none⟩ (.bool true)) := ⟨_, k, rfl, rfl, h.failed, rfl, grown_setCell _ _ _ _⟩
  clear h1 hs h
  go_enter Try.func41, Try.ntmps41
  go_wp2
  go_quiet (fail)
  go_wp2
  go_ret
  exact hp.drewN _
set_option maxRecDepth 100000 in
set_option maxHeartbeats 800000 in
theorem refInt_end (R : Nat) (v : Value) (l : List Int) (k : Nat) (w : World) (h : RefR w R v l k false) (hk2 : k = l.length) :
    Calls Try.prog 41 #[.pointer (some ⟨R, 0, none⟩)] w (RDec IsInt (rd 0 sInt) w R v l k false) := by
  obtain ⟨h1, hs, hl, hk, hne⟩ := id h
  obtain ⟨A, c, rfl⟩ := hs.shape
  obtain ⟨c0, c1, c2, d0, d1, d2⟩ := three_cell h1
  have hnil : l.drop k = [] := by rw [hk2, List.drop_length]
  have hp : RDec IsInt (rd 0 sInt) w R (.slice A l.length c) l k false (.returned (.int .i64 0)) (w.setCell ⟨R, 2, none⟩ (.bool true)) := by
    unfold RDec
    rw [rd_bad (by rw [hnil]; rfl)]
    exact ⟨_, k, rfl, rfl, h.failed, rfl, grown_setCell _ _ _ _⟩
  clear h1 hs h hnil
  subst hk2
  go_enter Try.func41, Try.ntmps41
  go_wp2
  go_quiet (fail)
  go_wp2
  go_ret
  exact hp.drewN _
theorem drop_at {l : List Int} {k : Nat} {s : Int} (h : l[k]? = some s) : l.drop k = s :: l.drop (k + 1) := by
  obtain ⟨hk, rfl⟩ := List.getElem?_eq_some_iff.1 h
  exact List.drop_eq_getElem_cons hk
set_option maxRecDepth 100000 in
set_option maxHeartbeats 800000 in
theorem refInt_long (R : Nat) (v : Value) (l : List Int) (k : Nat) (s : Int) (w : World) (h : RefR w R v l k false) (hb : By l) (hks : l[k]? = some s) (hbad : 8 < s ∨ (l.drop (k + 1)).length < s.toNat) :
    Calls Try.prog 41 #[.pointer (some ⟨R, 0, none⟩)] w (RDec IsInt (rd 0 sInt) w R v l k false) := by
  obtain ⟨h1, hs, hl, hk, hne⟩ := id h
  obtain ⟨A, c, rfl⟩ := hs.shape
  obtain ⟨c0, c1, c2, d0, d1, d2⟩ := three_cell h1
  have hkl := (List.getElem?_eq_some_iff.1 hks).1
  have hp : RDec IsInt (rd 0 sInt) w R (.slice A l.length c) l k false (.returned (.int .i64 0)) (w.setCell ⟨R, 2, none⟩ (.bool true)) := by
    unfold RDec
    rw [rd_bad (by rw [drop_at hks, sInt_long false hbad])]
    exact ⟨_, k, rfl, rfl, h.failed, rfl, grown_setCell _ _ _ _⟩
  obtain ⟨g, o, cc, hv1, hcells⟩ := Src.form hs (by omega) (by omega)
  simp only [Value.slice.injEq] at hv1
  obtain ⟨rfl, _, rfl⟩ := hv1
  have hc := hcells k (.int .u8 s) (by unfold bytes; rw [List.getElem?_map, hks]; rfl)
  have hs0 : 0 ≤ s ∧ s ≤ 255 := by have := hb s (List.mem_of_getElem? hks); omega
  have hge : ¬ l.length ≤ k := by omega
  have hge2 : decide (l.length ≤ k) = false := decide_eq_false hge
  have HP := Lib.hid hp
  rw [List.length_drop] at hbad
  clear h1 hs h hcells hp hks
  by_cases h8 : 8 < s
  · have hd : decide (8 < s) = true := decide_eq_true h8
    clear hbad
    go_enter Try.func41, Try.ntmps41
    go_wp2
    go_quiet (fail)
    go_wp2
    go_ret
    exact HP.out.drewN _
  · have hd : decide (8 < s) = false := decide_eq_false h8
    have hw1 : IntKind.i64.wrap ((l.length : Int) - k) = (l.length : Int) - k := IntWalk.i64_in _ (by omega)
    have hw2 : IntKind.i64.wrap ((l.length : Int) - k - 1) = (l.length : Int) - k - 1 := IntWalk.i64_in _ (by omega)
    have hw3 : IntKind.i64.wrap s = s := IntWalk.i64_in _ (by omega)
    have hlt : decide ((l.length : Int) - k - 1 < s) = true := decide_eq_true (by omega)
    clear hbad h8
    go_enter Try.func41, Try.ntmps41
    go_wp2
    go_quiet (fail)
    go_wp2
    go_ret
    exact HP.out.drewN _
end Go.Proofs.Ytfphdpcffjpbjaa.W
