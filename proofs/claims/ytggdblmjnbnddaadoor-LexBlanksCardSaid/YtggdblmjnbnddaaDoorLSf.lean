/-
  The reference's Same on lists of tokens that are equal but for their offsets. Condition: the lists are read, of at most 2^40 tokens.
-/
import Derived.Test.YtggdblmjnbnddaaDoorLSm
namespace Go.Proofs.YtggdblmjnbnddaaDoor.W
open Go.RowKit Go.Proofs.YtggdblmjnbnddaaDoor.Pl

set_option maxRecDepth 100000 in
set_option maxHeartbeats 3200000 in
theorem sameF_any (u v : Value) (l m : List Tk) (w : World) (hu : SrcT w u l) (hv : SrcT w v m) (heq : l.map bare = m.map bare) (hlen : l.length ≤ 1099511627775) :
    Calls Tryd.prog 13 #[u, v, .bool false] w fun e w' => e = .returned (.bool true) ∧ Nw w w' := by
  have hlm : m.length = l.length := by have := congrArg List.length heq; simpa using this.symm
  obtain ⟨A, cap, rfl⟩ := hu.shape
  obtain ⟨B, cbp, rfl⟩ := hv.shape
  rw [hlm]
  obtain ⟨n, hn⟩ : ∃ n, l.length = n := ⟨_, rfl⟩
  have hni : (n : Int) ≤ 1099511627775 := by omega
  rw [hn] at hlm
  have HN := Lib.hid hn
  have HM := Lib.hid hlm
  have HU := Lib.hid hu
  have HV := Lib.hid hv
  have HE := Lib.hid heq
  rw [hn]
  clear hn hu hv hlm heq
  go_enter Tryd.func13, Tryd.ntmps13
  go_wp2
  go_loopw [7] (fun i wr => ∃ (k nq : Nat), i = .int .i64 k ∧ k ≤ n ∧ wr = w.drewN nq) (fun i _ => n - (intOf i).toNat)
  case atStart => exact ⟨0, 0, rfl, Nat.zero_le _, rfl⟩
  case round =>
    obtain ⟨k, nq, rfl, hk, rfl⟩ := hrel
    by_cases hlt : k < n
    · have hkl : k < l.length := by have := HN.out; omega
      obtain ⟨x, hx⟩ : ∃ x, l[k]? = some x := ⟨_, List.getElem?_eq_getElem hkl⟩
      obtain ⟨y, hy⟩ : ∃ y, m[k]? = some y := ⟨m[k]'(by have := HM.out; omega), List.getElem?_eq_getElem _⟩
      have hxy : bare x = bare y := by
        have := congrArg (fun l => l[k]?) HE.out
        simp only [List.getElem?_map, hx, hy, Option.map_some, Option.some.injEq] at this
        exact this
      obtain ⟨ya, hya⟩ : ∃ ya, y.at_ = ya := ⟨_, rfl⟩
      have hyx := bare_inj hxy
      rw [hya] at hyx
      have k0 : y.kind = x.kind := by rw [hyx]
      have k1 : y.text = x.text := by rw [hyx]
      have k2 : y.n = x.n := by rw [hyx]
      clear hxy hyx
      have hsu := HU.out
      have hsv := HV.out
      obtain ⟨g, o, c2, hv2, _, _⟩ := hsu.form (by omega)
      simp only [Value.slice.injEq] at hv2
      have hA := hv2.1
      clear hv2
      obtain ⟨x0, x1, x2, x3⟩ := hsu.at_ hA hx
      obtain ⟨g2, o2, c3, hv3, _, _⟩ := hsv.form (by have := HM.out; omega)
      simp only [Value.slice.injEq] at hv3
      have hB := hv3.1
      clear hv3
      obtain ⟨y0, y1, y2, y3⟩ := hsv.at_ hB hy
      rw [k0] at y0
      rw [k1] at y1
      rw [k2] at y2
      rw [hya] at y3
      subst hA
      subst hB
      clear k0 k1 k2 hya
      have hkn : (k : Int) < (n : Int) := by omega
      have hd1 : decide ((k : Int) < (n : Int)) = true := decide_eq_true hkn
      clear hx hy hsu hsv
      go_wp2_with fail
      go_region
      go_wp2
      go_roundw
      case rel => exact ⟨k + 1, _, by go_num, by omega, rfl⟩
      case measure => simp [intOf]; omega
    · obtain rfl : k = n := by omega
      have hd1 : decide ((k : Int) < (k : Int)) = false := decide_eq_false (by omega)
      go_wp2
      go_ret
      exact ⟨rfl, (Kp.refl _ _).drewN _⟩

end Go.Proofs.YtggdblmjnbnddaaDoor.W
