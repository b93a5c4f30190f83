/-
  The reference's natGcd: what it returns. Condition: at most 100000 digits.
-/
import Derived.Test.YthefkomalakfeaaRNg
namespace Go.Proofs.Ythefkomalakfeaa.W
open Go.RowKit Go.Proofs.Ythefkomalakfeaa.Q

theorem js_len {w : World} {v : Value} {N : Nat} (h : Js w v N) : ∃ A n c, v = .slice A n c ∧ (n = 0 ↔ N = 0) := by
  obtain ⟨l, ⟨_, A, c, rfl, _⟩, _, hc, rfl, _⟩ := h
  refine ⟨A, _, c, rfl, ?_⟩
  rw [js_zero hc]
  exact ⟨List.eq_nil_of_length_eq_zero, fun h => by rw [h]; rfl⟩

theorem js_unique {w : World} {v : Value} {N M : Nat} (h : Js w v N) (k : Js w v M) : N = M := by
  obtain ⟨l, ⟨_, A, c, rfl, _, _, hc⟩, _, _, rfl, _⟩ := h
  obtain ⟨l', ⟨_, A', c', hv, _, _, hc'⟩, _, _, rfl, _⟩ := k
  injection hv with h1 h2 h3
  subst h1 h3
  have : l = l' := by
    refine List.ext_getElem h2 fun j hj hj' => ?_
    obtain ⟨g, o, rfl, _, e⟩ := hc (by omega)
    obtain ⟨g', o', h4, _, e'⟩ := hc' (by omega)
    obtain ⟨rfl, rfl⟩ : g = g' ∧ o = o' := by simpa using h4
    have e1 := e j (.int .i64 (l[j] : Nat)) (by rw [dgV_at, List.getElem?_eq_getElem hj]; rfl)
    have e2 := e' j (.int .i64 (l'[j] : Nat)) (by rw [dgV_at, List.getElem?_eq_getElem hj']; rfl)
    rw [e1] at e2
    injection e2 with e2
    injection e2 with _ e2
    omega
  rw [this]
open Classical in
/-- the number that a value reads as -/
noncomputable def jsNum (w : World) (v : Value) : Nat := if h : ∃ N, Js w v N then Classical.choose h else 0
theorem jsNum_eq {w : World} {v : Value} {N : Nat} (h : Js w v N) : jsNum w v = N := by
  unfold jsNum
  rw [dif_pos ⟨N, h⟩]
  exact js_unique (Classical.choose_spec (⟨N, h⟩ : ∃ N, Js w v N)) h

set_option maxRecDepth 100000 in
set_option maxHeartbeats 3200000 in
theorem natGcd_any (N M : Nat) (x y : Value) (w : World) (hx : Js w x N) (hy : Js w y M) (hF : FewD (3 * (N + M) + 2)) :
    Calls Try.prog 68 #[x, y] w fun e w' => ∃ v', e = .returned v' ∧ Js w' v' (Nat.gcd N M) ∧ Nw w w' := by
  have HX := Lib.hid hx
  have HY := Lib.hid hy
  have HF := Lib.hid hF
  clear hx hy hF
  go_enter Try.func68, Try.ntmps68
  go_wp2
  go_loopw [0, 1] (fun a b wr => ∃ P Q : Nat, Js wr a P ∧ Js wr b Q ∧ P ≤ N + M ∧ Q ≤ N + M ∧ Nat.gcd P Q = Nat.gcd N M ∧ Nw w wr) (fun _ b wr => jsNum wr b)
  case atStart => exact ⟨N, M, HX.out, HY.out, by omega, by omega, rfl, Kp.refl _ _⟩
  case round =>
    obtain ⟨P, Q, hP, hQ, p1, p2, hg, hnw⟩ := hrel
    obtain ⟨A, n, c, rfl, hn⟩ := js_len hQ
    have HP := Lib.hid hP
    have HQ := Lib.hid hQ
    have HG := Lib.hid (And.intro p1 (And.intro p2 hg))
    have HK := Lib.hid hnw
    clear hP hQ p1 p2 hg hnw
    rcases Nat.eq_zero_or_pos n with h0 | h0
    · have hQ0 := hn.1 h0
      subst h0 hQ0
      go_wp2
      go_ret
      refine ⟨_, rfl, ?_, HK.out⟩
      have h := HG.out.2.2
      rw [Nat.gcd_zero_right] at h
      rw [← h]
      exact HP.out
    · have hQ0 : 0 < Q := by
        rcases Nat.eq_zero_or_pos Q with h | h
        · have := hn.2 h; omega
        · exact h
      have e1 : decide ((n : Int) > 0) = true := decide_eq_true (by omega)
      have hdv := fun w1 h1 h2 => natDiv_any P Q u0 (.slice A n c) w1 h1 h2 (FewD.mono HF.out (by have := HG.out; omega)) hQ0
      have HQ0 := Lib.hid hQ0
      clear hn hQ0
      go_wp2_with fail
      refine (hdv _ HP.out HQ.out).mono ?_
      rintro e w2 ⟨vq, vr, rfl, hj1, hj2, hk⟩
      have HJ := Lib.hid hj2
      have HK2 := Lib.hid hk
      clear hj1 hj2 hk hdv
      go_wp2_with fail
      go_roundw
      case rel => exact ⟨Q, P % Q, HQ.out.nw HK2.out, HJ.out, HG.out.2.1, Nat.le_trans (Nat.mod_le _ _) HG.out.1, by rw [gcd_turn]; exact HG.out.2.2, HK.out.tr HK2.out⟩
      case measure =>
        rw [jsNum_eq HJ.out, jsNum_eq HQ.out]
        exact Nat.mod_lt _ HQ0.out
end Go.Proofs.Ythefkomalakfeaa.W
