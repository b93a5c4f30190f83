/-
  fretsawref02.Open: the payload of a sealed byte string, in new memory, or the error. Condition: at most 100000 bytes.
-/
import Derived.Test.YtgiogocclkkkhaaDOpen
import Derived.Deep.RegionWith
namespace Go.Proofs.Ytgiogocclkkkhaa.W
open Go.RowKit Go.Proofs.Ytgiogocclkkkhaa.Pl

theorem rest_parts {w : World} {g o m c : Nat} {p q : List Int} (hv : Rest w g (.slice (some ⟨g, o, none⟩) (m + 8) c) (p ++ q)) (hm : m = p.length) (hq : q.length = 8) (h0 : p ++ q ≠ []) :
    (∀ c', Src w 1 (.slice (some ⟨g, o, none⟩) m c') p.length (bytes p)) ∧ (∀ c', Src w 1 (.slice (some ⟨g, o + m, none⟩) 8 c') q.length (bytes q)) := by
  have ea : ∀ o j : Nat, (⟨g, o, none⟩ : Addr).add j = ⟨g, o + j, none⟩ := fun o j => by unfold Addr.add; split <;> simp_all
  constructor
  · intro c'
    refine ⟨by rw [bytes_length]; omega, some ⟨g, o, none⟩, c', by rw [← hm], fun hn => ⟨_, rfl, hv.lt_ h0, fun j u hu => ?_⟩⟩
    obtain ⟨x, hx, rfl⟩ := bytes_at hu
    rw [ea]
    exact hv.at_ (by rw [List.getElem?_append_left (List.getElem?_eq_some_iff.1 hx).1]; exact hx)
  · intro c'
    refine ⟨by rw [bytes_length]; omega, some ⟨g, o + m, none⟩, c', by rw [hq], fun hn => ⟨_, rfl, hv.lt_ h0, fun j u hu => ?_⟩⟩
    obtain ⟨x, hx, rfl⟩ := bytes_at hu
    rw [ea, Nat.add_assoc]
    exact hv.at_ (by rw [hm, List.getElem?_append_right (by omega), Nat.add_sub_cancel_left]; exact hx)
theorem conv8 {w : World} {g o c : Nat} {q : List Int} (h : Src w 1 (.slice (some ⟨g, o, none⟩) 8 c) q.length (bytes q)) :
    (convert 22 9 (.slice (some ⟨g, o, none⟩) 8 c)).run Try.prog w = .ok (.string (strOfNums q)) w := h.convert
theorem str_same {a b : List Int} (ha : By a) (hb : By b) (t : Bool) (h : decide (a = b) = t) : ((strOfNums a).toList == (strOfNums b).toList) = t := by
  rw [str_eqB ha hb]
  exact h

set_option maxRecDepth 100000 in
set_option maxHeartbeats 1600000 in
theorem refOpen_any (v : Value) (g : Nat) (l : List Int) (w : World) (hv : Rest w g v l) (hb : By l) (hl : l.length ≤ 100000) :
    Calls Try.prog 25 #[v] w fun e w' => ∃ u, e = .returned (.tuple #[u, .int .i64 (opnE l)]) ∧ OwnB w' w.heap.size u (opnV l) ∧ Below w.heap.size w w' := by
  by_cases h8 : l.length < 8
  · obtain ⟨e1, e2⟩ := opn_short h8
    obtain ⟨A, c, rfl, hc, hm, _⟩ := hv
    rw [e1, e2]
    have hlt : decide ((l.length : Int) < 8) = true := decide_eq_true (by omega)
    clear e1 e2 hb hl
    go_enter Try.func25, Try.ntmps25
    go_wp2
    go_ret2
    exact ⟨_, rfl, OwnB.nil _ _, Below.refl _ _⟩
  · obtain ⟨p, q, rfl, hq⟩ : ∃ p q, l = p ++ q ∧ q.length = 8 := ⟨l.take (l.length - 8), l.drop (l.length - 8), (List.take_append_drop _ _).symm, by rw [List.length_drop]; omega⟩
    have h0 : p ++ q ≠ [] := by intro e; rw [List.append_eq_nil_iff] at e; rw [e.2] at hq; simp at hq
    obtain ⟨o, n, c, rfl⟩ := hv.form h0
    obtain ⟨hn, hnc, hcm⟩ := hv.len
    have hp := hb.left
    have hbq := hb.right
    rw [List.length_append, hq] at hn hl
    obtain ⟨m, hm⟩ : ∃ m, m = p.length := ⟨_, rfl⟩
    rw [← hm] at hn hl
    subst hn
    obtain ⟨hs1, hs2⟩ := rest_parts hv hm hq h0
    have HM := Lib.hid hm
    unfold maxLen at hcm
    have hsd : Src w.drew 1 (.slice (some ⟨g, o, none⟩) m c) p.length (bytes p) := hs1 c
    have hst : Src w.drew 1 (.slice (some ⟨g, o + m, none⟩) 8 (c - m)) q.length (bytes q) := hs2 (c - m)
    have hct := conv8 hst
    have hl2 : p.length ≤ 4611686018427387904 := by omega
    have hl3 : p.length ≤ 100000 := by omega
    have i0 : (0 : Int) ≤ (m : Int) := by omega
    have i1 : (m : Int) ≤ (m : Int) + 8 := by omega
    have i2 : (m : Int) ≤ ((m + 8 : Nat) : Int) := by omega
    have hu := sum_u64 1 p u64_1
    have hd8 := dgs_length 256 8 (sum 1 p)
    have hdb := dgs_by 8 (sum 1 p)
    clear hm hs1 hs2 hv h8 h0 hb
    by_cases hqd : q = dgs 256 8 (sum 1 p)
    · obtain ⟨e1, e2⟩ := opn_good hq hqd
      rw [e1, e2]
      have hcmp := str_same hdb hbq true (decide_eq_true hqd.symm)
      have HU := Lib.hid hu
      clear e1 e2 hqd hq hu hd8
      go_enter Try.func25, Try.ntmps25
      go_wp2
      go_region_with
        (first
          | (go_at_call 21; ((with_reducible refine (refOf_any _ p _ hsd hp hl2).mono ?_); rintro e w1 ⟨rfl, rfl⟩))
          | (go_at_call 60; ((with_reducible refine (eight_any _ _ HU.out).mono ?_); rintro e w1 ⟨v1, rfl, own1, hb1⟩; have hct1 := conv8 (hst.below hb1); have hco := own1.src.convert)))
      all_goals
        clear hcmp hct hct1 hco
        have o0 := OwnB.lit w1 w.heap.size [] hb1.size (Nat.zero_le _)
        have b0 := hb1.alloc hb1.size (.cells (bytes []).toArray 5)
        have hs3 := hsd.below b0
        go_wp2_with (at_builtin; refine wp_app rfl (.tmp 22) (.tmp 25) rfl w.heap.size (.slice (some ⟨w1.heap.size, 0, none⟩) 0 0) (.slice (some ⟨g, o, none⟩) m c) [] p rfl o0 rfl hs3 ?_ b0.size ?_; (simp; omega); intro v2 w2 own2 gr2)
        all_goals go_ret2
        all_goals exact ⟨_, rfl, own2, (below_undrew b0).trans (gr2.below b0.size o0.from_)⟩
    · obtain ⟨e1, e2⟩ := opn_bad hq hqd
      rw [e1, e2]
      have hcmp := str_same hdb hbq false (decide_eq_false (fun e => hqd e.symm))
      have HU := Lib.hid hu
      clear e1 e2 hqd hq hu hd8
      go_enter Try.func25, Try.ntmps25
      go_wp2
      go_region_with
        (first
          | (go_at_call 21; ((with_reducible refine (refOf_any _ p _ hsd hp hl2).mono ?_); rintro e w1 ⟨rfl, rfl⟩))
          | (go_at_call 60; ((with_reducible refine (eight_any _ _ HU.out).mono ?_); rintro e w1 ⟨v1, rfl, own1, hb1⟩; have hct1 := conv8 (hst.below hb1); have hco := own1.src.convert)))
      all_goals
        clear hcmp hct hct1 hco
        go_wp2
        all_goals go_ret2
        all_goals exact ⟨_, rfl, OwnB.nil _ _, below_undrew hb1⟩
end Go.Proofs.Ytgiogocclkkkhaa.W
