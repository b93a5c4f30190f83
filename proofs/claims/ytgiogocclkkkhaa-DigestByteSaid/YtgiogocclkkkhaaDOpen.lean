/-
  digest.Open: the payload of a sealed byte string, in new memory, or the error. Condition: at most 100000 bytes.
-/
import Derived.Test.YtgiogocclkkkhaaDSeal
import Derived.Test.YtgiogocclkkkhaaRec
import Derived.Test.YtgiogocclkkkhaaDCmp
import Derived.Deep.RegionHeld3
namespace Go.Proofs.Ytgiogocclkkkhaa.W
open Go.RowKit Go.Proofs.Ytgiogocclkkkhaa.Pl

def opnE (l : List Int) : Int := if l.length < 8 then 4 else if l.drop (l.length - 8) = dgs 256 8 (sum 1 (l.take (l.length - 8))) then 0 else 5
def opnV (l : List Int) : List Int := if opnE l = 0 then l.take (l.length - 8) else []
theorem below_undrew {B : Nat} {a w : World} (h : Below B a.drew w) : Below B a w := ⟨h.os, h.tape, h.output, h.size, h.block⟩
theorem eight_of {q : List Int} (h : q.length = 8) : ∃ q0 q1 q2 q3 q4 q5 q6 q7, q = [q0, q1, q2, q3, q4, q5, q6, q7] := by
  match q, h with
  | [q0, q1, q2, q3, q4, q5, q6, q7], _ => exact ⟨_, _, _, _, _, _, _, _, rfl⟩
theorem cmp_any (q0 q1 q2 q3 q4 q5 q6 q7 : Int) (D : List Int) (h : D.length = 8) (W : World) :
    (Op.equalIn 10000 83 (.agg #[.int .u8 q0, .int .u8 q1, .int .u8 q2, .int .u8 q3, .int .u8 q4, .int .u8 q5, .int .u8 q6, .int .u8 q7]) (.agg (bytes D).toArray)).run Try.prog W = .ok (decide ([q0, q1, q2, q3, q4, q5, q6, q7] = D)) W := by
  obtain ⟨d0, d1, d2, d3, d4, d5, d6, d7, rfl⟩ := eight_of h
  exact cmp8 ..
theorem opn_short {l : List Int} (h : l.length < 8) : opnE l = 4 ∧ opnV l = [] := by
  have e : opnE l = 4 := by unfold opnE; rw [if_pos h]
  refine ⟨e, ?_⟩
  unfold opnV
  rw [e]
  rfl
theorem opn_good {p q : List Int} (hq : q.length = 8) (h : q = dgs 256 8 (sum 1 p)) : opnE (p ++ q) = 0 ∧ opnV (p ++ q) = p := by
  have hl : (p ++ q).length - 8 = p.length := by rw [List.length_append]; omega
  have e : opnE (p ++ q) = 0 := by
    unfold opnE
    rw [if_neg (by rw [List.length_append]; omega), hl, List.drop_left, List.take_left, if_pos h]
  refine ⟨e, ?_⟩
  unfold opnV
  rw [e, hl, List.take_left]
  rfl
theorem opn_bad {p q : List Int} (hq : q.length = 8) (h : q ≠ dgs 256 8 (sum 1 p)) : opnE (p ++ q) = 5 ∧ opnV (p ++ q) = [] := by
  have hl : (p ++ q).length - 8 = p.length := by rw [List.length_append]; omega
  have e : opnE (p ++ q) = 5 := by
    unfold opnE
    rw [if_neg (by rw [List.length_append]; omega), hl, List.drop_left, List.take_left, if_neg h]
  refine ⟨e, ?_⟩
  unfold opnV
  rw [e]
  rfl

theorem arr_at (a : Addr) (c : Nat) (W : World) : (Instr.arrayAt 83 (.slice (some a) 8 c)).run Try.prog W = .ok (.pointer (some a)) W := by
  simp [Instr.arrayAt, run_underlying Try.underlying83]

set_option maxRecDepth 100000 in
set_option maxHeartbeats 800000 in
theorem open_any (v : Value) (g : Nat) (l : List Int) (w : World) (hv : Rest w g v l) (hb : By l) (hl : l.length ≤ 100000) :
    Calls Try.prog 24 #[v] w fun e w' => ∃ u, e = .returned (.tuple #[u, .int .i64 (opnE l)]) ∧ OwnB w' w.heap.size u (opnV l) ∧ Below w.heap.size w w' := by
  by_cases h8 : l.length < 8
  · obtain ⟨e1, e2⟩ := opn_short h8
    obtain ⟨A, c, rfl, hc, hm, _⟩ := hv
    rw [e1, e2]
    have hw : IntKind.i64.wrap ((l.length : Int) - 8) = l.length - 8 := IntWalk.i64_in _ (by omega)
    have hlt : decide ((l.length : Int) - 8 < 0) = true := decide_eq_true (by omega)
    clear e1 e2 hb hl
    go_enter Try.func24, Try.ntmps24
    go_wp2
    go_ret2
    exact ⟨_, rfl, OwnB.nil _ _, Below.refl _ _⟩
  · obtain ⟨p, q, rfl, hq⟩ : ∃ p q, l = p ++ q ∧ q.length = 8 := ⟨l.take (l.length - 8), l.drop (l.length - 8), (List.take_append_drop _ _).symm, by rw [List.length_drop]; omega⟩
    obtain ⟨o, n, c, rfl⟩ := hv.form (by intro e; rw [e] at h8; simp at h8)
    obtain ⟨hn, hnc, hcm⟩ := hv.len
    have hp := hb.left
    rw [List.length_append, hq] at hn hl
    obtain ⟨m, hm⟩ : ∃ m, m = p.length := ⟨_, rfl⟩
    rw [← hm] at hn hl
    subst hn
    have hsrc : ∀ c', Src w 1 (.slice (some ⟨g, o, none⟩) m c') p.length (bytes p) := fun c' => by
      refine ⟨by rw [bytes_length]; omega, some ⟨g, o, none⟩, c', by rw [← hm], fun hn => ⟨_, rfl, hv.lt_ (by intro e; rw [List.append_eq_nil_iff] at e; rw [e.2] at hq; simp at hq), fun j u hu => ?_⟩⟩
      obtain ⟨x, hx, rfl⟩ := bytes_at hu
      have ea : (⟨g, o, none⟩ : Addr).add j = ⟨g, o + j, none⟩ := by unfold Addr.add; split <;> simp_all
      rw [ea]
      exact hv.at_ (by rw [List.getElem?_append_left (List.getElem?_eq_some_iff.1 hx).1]; exact hx)
    have HM := Lib.hid hm
    have HS := Lib.hid hsrc
    have HV := Lib.hid hv
    unfold maxLen at hcm
    obtain ⟨q0, q1, q2, q3, q4, q5, q6, q7, hqe⟩ : ∃ q0 q1 q2 q3 q4 q5 q6 q7, q = [q0, q1, q2, q3, q4, q5, q6, q7] := eight_of hq
    have hat : ∀ (j : Nat) (x : Int), q[j]? = some x → w.cell? ⟨g, o + m + j, none⟩ = some (.int .u8 x) := fun j x hx => by
      rw [Nat.add_assoc]
      exact hv.at_ (by rw [hm, List.getElem?_append_right (by omega), Nat.add_sub_cancel_left]; exact hx)
    subst hqe
    have c0 : w.cell? ⟨g, o + m, none⟩ = some (.int .u8 q0) := hat 0 q0 rfl
    have c1 := hat 1 q1 rfl
    have c2 := hat 2 q2 rfl
    have c3 := hat 3 q3 rfl
    have c4 := hat 4 q4 rfl
    have c5 := hat 5 q5 rfl
    have c6 := hat 6 q6 rfl
    have c7 := hat 7 q7 rfl
    have hg := World.block_lt_of_cell? w _ c0
    have k8 : ∀ w1 : World, Below w.drew.heap.size w.drew w1 → w1.cell? (⟨g, o + m, none⟩ : Addr) = some (.int .u8 q0) ∧ w1.cell? (⟨g, o + m + 1, none⟩ : Addr) = some (.int .u8 q1) ∧ w1.cell? (⟨g, o + m + 2, none⟩ : Addr) = some (.int .u8 q2) ∧ w1.cell? (⟨g, o + m + 3, none⟩ : Addr) = some (.int .u8 q3) ∧ w1.cell? (⟨g, o + m + 4, none⟩ : Addr) = some (.int .u8 q4) ∧ w1.cell? (⟨g, o + m + 5, none⟩ : Addr) = some (.int .u8 q5) ∧ w1.cell? (⟨g, o + m + 6, none⟩ : Addr) = some (.int .u8 q6) ∧ w1.cell? (⟨g, o + m + 7, none⟩ : Addr) = some (.int .u8 q7) := fun w1 hb1 =>
      ⟨(hb1.cell (p := ⟨g, o + m, none⟩) hg).trans c0, (hb1.cell (p := ⟨g, o + m + 1, none⟩) hg).trans c1, (hb1.cell (p := ⟨g, o + m + 2, none⟩) hg).trans c2, (hb1.cell (p := ⟨g, o + m + 3, none⟩) hg).trans c3, (hb1.cell (p := ⟨g, o + m + 4, none⟩) hg).trans c4, (hb1.cell (p := ⟨g, o + m + 5, none⟩) hg).trans c5, (hb1.cell (p := ⟨g, o + m + 6, none⟩) hg).trans c6, (hb1.cell (p := ⟨g, o + m + 7, none⟩) hg).trans c7⟩
    have K8 := Lib.hid k8
    have hsd : Src w.drew 1 (.slice (some ⟨g, o, none⟩) m c) p.length (bytes p) := hsrc c
    have hl2 : p.length ≤ 4611686018427387904 := by omega
    have hl3 : p.length ≤ 100000 := by omega
    have harr := arr_at ⟨g, o + m, none⟩ (c - m)
    have i0 : (0 : Int) ≤ (m : Int) := by omega
    have i1 : (m : Int) ≤ (m : Int) + 8 := by omega
    have i2 : (m : Int) ≤ ((m + 8 : Nat) : Int) := by omega
    clear k8 hat
    clear hm hsrc hv h8
    by_cases hqd : [q0, q1, q2, q3, q4, q5, q6, q7] = dgs 256 8 (sum 1 p)
    · obtain ⟨e1, e2⟩ := opn_good hq hqd
      rw [e1, e2]
      have hcmp := fun W => cmp_any q0 q1 q2 q3 q4 q5 q6 q7 _ (dgs_length 256 8 (sum 1 p)) W
      rw [decide_eq_true hqd] at hcmp
      clear e1 e2 hqd hq
      go_enter Try.func24, Try.ntmps24
      go_wp2
      go_region_held3 (fun w' : World => w'.cell? (⟨g, o + m, none⟩ : Addr) = some (.int .u8 q0) ∧ w'.cell? (⟨g, o + m + 1, none⟩ : Addr) = some (.int .u8 q1) ∧ w'.cell? (⟨g, o + m + 2, none⟩ : Addr) = some (.int .u8 q2) ∧ w'.cell? (⟨g, o + m + 3, none⟩ : Addr) = some (.int .u8 q3) ∧ w'.cell? (⟨g, o + m + 4, none⟩ : Addr) = some (.int .u8 q4) ∧ w'.cell? (⟨g, o + m + 5, none⟩ : Addr) = some (.int .u8 q5) ∧ w'.cell? (⟨g, o + m + 6, none⟩ : Addr) = some (.int .u8 q6) ∧ w'.cell? (⟨g, o + m + 7, none⟩ : Addr) = some (.int .u8 q7)) (first | go_keep | exact K8.out _ hb1)
        (first | (go_at_call 59; ((with_reducible refine (sumBytes_any _ p _ hsd hp hl2).mono ?_); rintro e w1 ⟨rfl, hb1⟩)))
      clear hcmp harr
      go_wp2_with (at_builtin; refine wp_app rfl (.const (.slice none 0 0)) (.tmp 22) rfl w.heap.size (.slice none 0 0) (.slice (some ⟨g, o, none⟩) m c) [] p rfl (OwnB.nil _ _) rfl (hsd.below hb1) ?_ hb1.size ?_; (simp; omega); intro v2 w2 own2 gr2)
      all_goals go_ret2
      all_goals exact ⟨_, rfl, own2, (below_undrew hb1).trans (gr2.below hb1.size (by intro k hk; cases hk))⟩
    · obtain ⟨e1, e2⟩ := opn_bad hq hqd
      rw [e1, e2]
      have hcmp := fun W => cmp_any q0 q1 q2 q3 q4 q5 q6 q7 _ (dgs_length 256 8 (sum 1 p)) W
      rw [decide_eq_false hqd] at hcmp
      clear e1 e2 hqd hq
      go_enter Try.func24, Try.ntmps24
      go_wp2
      go_region_held3 (fun w' : World => w'.cell? (⟨g, o + m, none⟩ : Addr) = some (.int .u8 q0) ∧ w'.cell? (⟨g, o + m + 1, none⟩ : Addr) = some (.int .u8 q1) ∧ w'.cell? (⟨g, o + m + 2, none⟩ : Addr) = some (.int .u8 q2) ∧ w'.cell? (⟨g, o + m + 3, none⟩ : Addr) = some (.int .u8 q3) ∧ w'.cell? (⟨g, o + m + 4, none⟩ : Addr) = some (.int .u8 q4) ∧ w'.cell? (⟨g, o + m + 5, none⟩ : Addr) = some (.int .u8 q5) ∧ w'.cell? (⟨g, o + m + 6, none⟩ : Addr) = some (.int .u8 q6) ∧ w'.cell? (⟨g, o + m + 7, none⟩ : Addr) = some (.int .u8 q7)) (first | go_keep | exact K8.out _ hb1)
        (first | (go_at_call 59; ((with_reducible refine (sumBytes_any _ p _ hsd hp hl2).mono ?_); rintro e w1 ⟨rfl, hb1⟩)))
      clear hcmp harr
      go_wp2
      all_goals go_ret2
      all_goals exact ⟨_, rfl, OwnB.nil _ _, below_undrew hb1⟩
end Go.Proofs.Ytgiogocclkkkhaa.W
