/-
  WireRoundTrip: integers, booleans, texts, byte strings, lists and rings are read back, whatever follows: for every argument the law returns true, and its arguments read as they did. No condition of its own.
-/
import Derived.Test.YtcmpdnpdipckmaaTrip
import Derived.Test.YtcmpdnpdipckmaaOpen
namespace Go.Proofs.Ytcmpdnpdipckmaa.W
open Go.ChangeShapes Go.WideShapes Go.ChangeAt Go.RowKit Go.Joins

set_option maxRecDepth 100000 in
theorem wireTrip_lifted (os : Os) (started : os.Started) (H : Type) (enc : TypeId × Value → H) :
    ReturnsInHanded {} Try.checked os 4 .any (Rows.wireRoundTripSpec.pre6 enc Try.prog Try.f4 Rows.wireRoundTripRow.domain false) (Rows.wireRoundTripSpec.post enc Try.prog Try.f4 false true false false) := by
  refine returnsInHanded_of_change_sized (C := Try.checked) own started (by kernel_rfl) Try.func4
    (ChangeSpec.witness6 (enc := enc) (C := Try.checked) false ⟨#[], #[.slice none 0 0, .slice none 0 0, .slice none 0 0], []⟩ 8 (by kernel_rfl) (by kernel_rfl) (by kernel_rfl) (by kernel_rfl)) ?_
  intro W base args ds gs before hval0 hW hcnd hsz0 _
  have hsz : (DataW.weightsEach Try.prog (Try.f4.params.toList ++ Rows.wireRoundTripSpec.plain.varTypes Try.prog) (ds ++ gs)).all (· ≤ reachBytes) = true := hsz0
  clear hsz0
  have hval : ∀ (j : Nat) t v, Try.f4.params[j]? = some t → args[j]? = some v → Value.okWide Try.prog W .any base t v := hval0
  have hW' := hW
  obtain ⟨p, q, hA0, hV, rfl, hfz, hnd⟩ := hW
  have hA : DataW.TrodAll enc Try.prog W 0 (fun _ => true) true Try.f4.params.toList args.toList ds p := hA0
  rw [Try.params4] at hA hval hsz
  obtain ⟨v0, vs0, d0, ds0, p0, q0, hargs, rfl, rfl, h0, r0⟩ := trodAll_cons hA
  obtain ⟨v1, vs1, d1, ds1, p1, q1, rfl, rfl, rfl, h1, r1⟩ := trodAll_cons r0
  obtain ⟨v2, vs2, d2, ds2, p2, q2, rfl, rfl, rfl, h2, r2⟩ := trodAll_cons r1
  obtain ⟨rfl, rfl, rfl⟩ := trodAll_nil r2
  obtain rfl : args = #[v0, v1, v2] := by cases args; simp_all
  obtain ⟨l, hl, hlI, hl2⟩ := open_I (hval 0 37 v0 rfl rfl) h0
  obtain ⟨ss, hs, hsS, hs2⟩ := open_S (hval 1 38 v1 rfl rfl) h1
  obtain ⟨rest, hr, hrB, hr2⟩ := open_B (hval 2 22 v2 rfl rfl) h2
  have n1 : l.length ≤ 140737488355328 := sized_len hsz (j := 0) (d := d0) rfl rfl Try.underlying37 bytes_int (by omega) (hl2.imp (fun e => by rw [e]; rfl) id)
  have n2 : ss.length ≤ 140737488355328 := sized_len hsz (j := 1) (d := d1) rfl rfl Try.underlying38 bytes_str (by omega) (hs2.imp (fun e => by rw [e]; rfl) id)
  have n3 : rest.length ≤ 140737488355328 := sized_len hsz (j := 2) (d := d2) rfl rfl Try.underlying22 bytes_u8 (by omega) (hr2.imp (fun e => by rw [e]; rfl) id)
  refine (trip_walk v0 v1 v2 l ss rest W hlI hrB (fun s hs' => by have := hsS s hs'; unfold maxLen at this; omega) hl hs hr n1 n2 n3).mono fun e W' ⟨he, hb⟩ => ?_
  subst he
  refine ⟨_, rfl, law_post hW' hb rfl (by kernel_rfl) ?_ (fun _ => by subst_vars; exact ⟨rfl, rfl, rfl⟩)⟩
  rw [Try.params4]
  intro t ht
  simp at ht
  rcases ht with rfl | rfl | rfl
  · exact ⟨by kernel_rfl, of_decide_eq_true (by kernel_rfl)⟩
  · exact ⟨by kernel_rfl, of_decide_eq_true (by kernel_rfl)⟩
  · exact ⟨by kernel_rfl, of_decide_eq_true (by kernel_rfl)⟩

theorem wireTrip_holds : Rows.WireRoundTripSaid :=
  OpenClaim.holds_of_wide 4 Try.f4 rfl rfl rfl rfl rfl rfl rfl ⟨rfl, rfl, rfl, rfl, rfl⟩ rfl rfl rfl rfl rfl (by kernel_rfl) Try.func4 (by kernel_rfl)
    (of_decide_eq_true (by kernel_rfl)) (by unfold Func.isWrapper; first | (rw [if_pos (by decide +kernel)]; kernel_rfl) | (rw [if_neg (by decide +kernel)]; exact ⟨rfl, rfl⟩))
    (fun os started H enc _ => wireTrip_lifted os started H enc)
end Go.Proofs.Ytcmpdnpdipckmaa.W
