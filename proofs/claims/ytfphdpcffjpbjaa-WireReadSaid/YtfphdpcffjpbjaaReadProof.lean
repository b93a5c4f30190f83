/-
  WireRead: any sequence of read calls returns the values of the definition: for every argument the law returns true, and its arguments read as they did. No condition of its own.
-/
import Derived.Test.YtfphdpcffjpbjaaReadLaw
namespace Go.Proofs.Ytfphdpcffjpbjaa.W
open Go.ChangeShapes Go.WideShapes Go.ChangeAt Go.RowKit Go.Joins Go.Proofs.Ytfphdpcffjpbjaa.Pl

/-- a slice that came in lies in a block that is there -/
theorem wide_block {P : Program} {W : World} {base : Nat} {t e : TypeId} {v : Value} (ht : P.underlying t = some (.slice e)) (h : Value.okWide P W .any base t v) : ∀ j, v.ownBlock = some j → j < W.heap.size := by
  intro j hj
  obtain ⟨a, len, cap, rfl⟩ := okWide_slice ht h
  cases a with
  | none => cases hj
  | some a =>
    have hj : some a.block = some j := hj
    injection hj with hj
    subst hj
    simp only [Value.okWide, ht, Cell.okWide, Cell.ok] at h
    obtain ⟨_, _, _, _, row, cells, hs, _⟩ := h
    unfold World.shape? at hs
    rcases Nat.lt_or_ge a.block W.heap.size with hlt | hge
    · exact hlt
    · rw [Array.getElem?_eq_none hge] at hs
      simp at hs

set_option maxRecDepth 100000 in
theorem wireRead_lifted (os : Os) (started : os.Started) (H : Type) (enc : TypeId × Value → H) :
    ReturnsInHanded {} Try.checked os 3 .any (Rows.wireReadSpec.pre6 enc Try.prog Try.f3 Rows.wireReadRow.domain false) (Rows.wireReadSpec.post enc Try.prog Try.f3 false true false false) := by
  refine returnsInHanded_of_change_sized (C := Try.checked) own started (by kernel_rfl) Try.func3
    (ChangeSpec.witness6 (enc := enc) (C := Try.checked) false ⟨#[], #[.slice none 0 0, .slice none 0 0], []⟩ 8 (by kernel_rfl) (by kernel_rfl) (by kernel_rfl) (by kernel_rfl)) ?_
  intro W base args ds gs before hval0 hW hcnd hsz0 _
  have hsz : (DataW.weightsEach Try.prog (Try.f3.params.toList ++ Rows.wireReadSpec.plain.varTypes Try.prog) (ds ++ gs)).all (· ≤ reachBytes) = true := hsz0
  clear hsz0
  have hval : ∀ (j : Nat) t v, Try.f3.params[j]? = some t → args[j]? = some v → Value.okWide Try.prog W .any base t v := hval0
  have hW' := hW
  obtain ⟨p, q, hA0, hV, rfl, hfz, hnd⟩ := hW
  have hA : DataW.TrodAll enc Try.prog W 0 (fun _ => true) true Try.f3.params.toList args.toList ds p := hA0
  rw [Try.params3] at hA hval hsz
  obtain ⟨v0, vs0, d0, ds0, p0, q0, hargs, rfl, rfl, h0, r0⟩ := trodAll_cons hA
  obtain ⟨v1, vs1, d1, ds1, p1, q1, rfl, rfl, rfl, h1, r1⟩ := trodAll_cons r0
  obtain ⟨rfl, rfl, rfl⟩ := trodAll_nil r1
  obtain rfl : args = #[v0, v1] := by cases args; simp_all
  obtain ⟨g0, l0, hr0, hby0, hl0⟩ := openRest (hval 0 22 v0 rfl rfl) h0
  have n0 : l0.length ≤ 140737488355328 := sizedLen hsz (j := 0) (d := d0) rfl rfl Try.underlying22 bytesB (by omega) (hl0.imp (fun e => by rw [e]; rfl) id)
  obtain ⟨q0, hq0, hqi0⟩ := open_Q (hval 1 23 v1 rfl rfl) h1
  have hvb : ∀ j, v0.ownBlock = some j → j < W.heap.size := wide_block Try.underlying22 (hval 0 22 v0 rfl rfl)
  refine (read_walk v0 v1 l0 q0 W (rest_cap hr0) (restSrc hr0) hby0 hq0 hqi0 hvb n0).mono fun e W' ⟨he, hb⟩ => ?_
  subst he
  refine ⟨_, rfl, law_post hW' hb rfl (by kernel_rfl) ?_ (fun _ => by subst_vars; exact ⟨rfl, rfl, rfl⟩)⟩
  rw [Try.params3]
  intro t ht
  simp at ht
  rcases ht with rfl | rfl
  · exact ⟨by kernel_rfl, of_decide_eq_true (by kernel_rfl)⟩
  · exact ⟨by kernel_rfl, of_decide_eq_true (by kernel_rfl)⟩

theorem wireRead_holds : Rows.WireReadSaid :=
  OpenClaim.holds_of_wide 3 Try.f3 rfl rfl rfl rfl rfl rfl rfl ⟨rfl, rfl, rfl, rfl, rfl⟩ rfl rfl rfl rfl rfl (by kernel_rfl) Try.func3 (by kernel_rfl)
    (of_decide_eq_true (by kernel_rfl)) (by unfold Func.isWrapper; first | (rw [if_pos (by decide +kernel)]; kernel_rfl) | (rw [if_neg (by decide +kernel)]; exact ⟨rfl, rfl⟩))
    (fun os started H enc _ => wireRead_lifted os started H enc)
end Go.Proofs.Ytfphdpcffjpbjaa.W
