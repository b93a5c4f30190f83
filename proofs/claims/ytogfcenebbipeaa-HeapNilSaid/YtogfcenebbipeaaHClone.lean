/-
  Heap[Item]: Clone. Conditions: the heap's block is known; fewer than 2^40 elements.
-/
import Derived.Test.YtogfcenebbipeaaHIf
namespace Go.Proofs.Ytogfcenebbipeaa.W
open Go.RowKit Go.Proofs.Ytogfcenebbipeaa.Pl

theorem cloneI_nil (w : World) : Calls Try.prog 15 #[.pointer none] w fun e w' => e = .returned (.pointer none) ∧ w = w' := by
  go_enter Try.func15, Try.ntmps15
  go_wp2
  go_ret
  exact ⟨rfl, rfl⟩

set_option maxRecDepth 100000 in
set_option maxHeartbeats 1600000 in
theorem cloneI_any (C H p : Nat) (v : Value) (q : List Ent) (w : World) (h : HpI C w H v q p) (hlen : q.length ≤ 1099511627776) :
    Calls Try.prog 15 #[.pointer (some ⟨H, 0, none⟩)] w fun e w' => ∃ H', e = .returned (.pointer (some ⟨H', 0, none⟩)) ∧ ∃ v', HpI C w' H' v' q p ∧ (∀ k, Ft H' v' k → w.heap.size ≤ k) ∧ Nw w w' := by
  obtain ⟨l, ha, hpe, hhp, hgd⟩ := h
  obtain ⟨n, hn⟩ : ∃ n, l.length = n := ⟨_, rfl⟩
  have hqn : q.length = n := hpe.length_eq ▸ hn
  obtain ⟨A, cap, hv⟩ := (own_src ha.own).shape
  rw [hn] at hv
  subst hv
  rw [hqn] at hlen
  have hsrc : Src w 3 (.slice A n cap) n (flat ceI l) := by have := own_src ha.own; rw [hn] at this; exact this
  have HN := Lib.hid hn
  have HA := Lib.hid ha
  obtain ⟨b0, b1, b2, _, _, _⟩ := ha.blk.three
  have hnil : w.ownsRow w.heap.size 70 3 (.slice none 0 0) 0 [] := World.ownsRow_nil _ _ _ _
  clear hn hqn ha
  go_enter Try.func15, Try.ntmps15
  go_wp2_with (at_builtin; refine wp_appG rfl _ (.tmp 9) 65 70 3 24 (.agg #[.int .i64 0, .int .i64 0, .int .u64 0]) rfl Try.underlying65 infoI rfl (by omega) w.heap.size 0 n (.slice none 0 0) (.slice A n cap) [] (flat ceI l) rfl hnil rfl hsrc (ceI_one _) ?_ ?_ (Nat.le_refl _) ?_; omega; omega; intro v2 w2 own2 gr2; simp only [Nat.zero_add, List.nil_append] at own2; (obtain ⟨A2, cc2, rfl⟩ := (own_src own2).shape); have hk2 := gr2.nw (Kp.refl _ w) (own_from hnil); (obtain ⟨c0, c1, c2, _, _, _⟩ := (HA.out.blk.kp hk2 (fun e => e)).three))
  have hb3 := Blk.new w2 68 #[.func (.func 12) #[] #[], .slice A2 n cc2, .int .u64 p]
  have hk3 : Nw w2 (w2.alloc (.cells #[.func (.func 12) #[] #[], .slice A2 n cc2, .int .u64 p] 68)) := (Kp.refl _ w2).alloc _
  have ho3 := own_nw own2 hk3
  have hH3 : HpI C (w2.alloc (.cells #[.func (.func 12) #[] #[], .slice A2 n cc2, .int .u64 p] 68)) w2.heap.size (.slice A2 n cc2) q p :=
    ⟨l, ⟨hb3, by rw [HN.out]; exact own_less ho3 (Nat.zero_le _)⟩, hpe, hhp, hgd⟩
  have hf3 : ∀ k, Ft w2.heap.size (.slice A2 n cc2) k → w.heap.size ≤ k := fun k e => e.elim (fun e => by rw [e]; exact hk2.size) (fun e => own_from own2 k e)
  have HH3 := Lib.hid hH3
  have HK3 := Lib.hid (hk2.tr hk3)
  clear hH3 hb3 hk3 ho3
  go_region
  go_wp2
  go_ret
  exact ⟨_, rfl, _, HH3.out.nw ((Kp.refl _ _).drew), hf3, HK3.out.drew⟩
end Go.Proofs.Ytogfcenebbipeaa.W
