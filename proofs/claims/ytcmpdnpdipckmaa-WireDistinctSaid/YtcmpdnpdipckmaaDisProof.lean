/-
  WireDistinct: two integers, texts or shapes have equal encodings only if they are equal: for every argument the law returns true, and its arguments read as they did. No condition of its own.
-/
import Derived.Test.YtcmpdnpdipckmaaDisLaw
import Derived.Test.YtcmpdnpdipckmaaOpenS
import Derived.ChangeMaps5
namespace Go.Proofs.Ytcmpdnpdipckmaa.W
open Go.ChangeShapes Go.WideShapes Go.ChangeAt Go.RowKit Go.Joins

section
variable {H : Type} {enc : TypeId × Value → H} {W : World} {base : Nat}

theorem okWide_array {P : Program} {r : Reach} {n : Nat} {e t : TypeId} {v : Value} (ht : P.underlying t = some (.array n e)) (h : Value.okWide P W r base t v) : ∃ cs, v = .agg cs ∧ cs.size = P.cellsOf t := by
  simp only [Value.okWide, ht] at h
  obtain ⟨cs, h1, h2, _⟩ := h
  exact ⟨cs, h1, h2⟩
theorem array_four {α : Type} {cs : Array α} (h : cs.size = 4) : ∃ a b c d, cs = #[a, b, c, d] := by
  match cs, h with
  | ⟨[a, b, c, d]⟩, _ => exact ⟨a, b, c, d, rfl⟩
theorem open_arr2 {P : Program} {r : Reach} {e t : TypeId} {v : Value} {d : DataW H} {p : List MemPlace} {k : Nat} (ht : P.underlying t = some (.array 2 e)) (hk : P.cellsOf e = k) (hv : Value.okWide P W r base t v) (h : DataW.Trod enc P W 0 (fun _ => true) true t v d p) :
    ∃ (cs : Array Value) (y0 y1 : DataW H × List MemPlace) (m : Nat), v = .agg cs ∧ cs.size = P.cellsOf t ∧ DataW.trod enc P W 0 (fun _ => true) true m e (cs.toList.take k) = some y0 ∧ DataW.trod enc P W 0 (fun _ => true) true m e ((cs.toList.drop k).take k) = some y1 := by
  obtain ⟨cs, rfl, hs⟩ := okWide_array ht hv
  obtain ⟨fuel, hf⟩ := h
  obtain ⟨xs, m, _, _, _, hl, hi⟩ := DataW.trod_array ht hf
  match xs, hl with
  | [y0, y1], _ =>
    have h0 := hi 0 (by omega)
    have h1 := hi 1 (by omega)
    rw [hk] at h0 h1
    exact ⟨cs, y0, y1, m, rfl, hs, by simpa [Value.cells] using h0, by simpa [Value.cells] using h1⟩
set_option maxRecDepth 100000 in
theorem shape_cells {fuel : Nat} {o hh : Value} {y : DataW H × List MemPlace} (h : DataW.trod enc Try.prog W 0 (fun _ => true) true fuel 60 [o, hh] = some y) :
    ∃ s : Shp, SrcV W o s.1 ∧ SrcR W hh s.2 ∧ ((∀ x ∈ s.1, VI64 x) ∧ s.1.length ≤ maxLen) ∧ (∀ r ∈ s.2, (∀ x ∈ r, VI64 x) ∧ r.length ≤ maxLen) ∧ s.2.length ≤ maxLen := by
  obtain ⟨y0, y1, n, _, _, h0, h1⟩ := trod_struct2 Try.underlying60 h
  simp [show Try.prog.cellsOf 42 = 1 from cells_ring, show Try.prog.cellsOf 58 = 1 by kernel_rfl] at h0 h1
  obtain ⟨r, hr, hrI⟩ := open_V Try.underlying42 h0
  obtain ⟨rs, hrs, hrsI⟩ := open_R h1
  exact ⟨(r, rs), hr, hrs, hrI, hrsI⟩
end

set_option maxRecDepth 100000 in
theorem wireDis_lifted (os : Os) (started : os.Started) (H : Type) (enc : TypeId × Value → H) :
    ReturnsInHanded {} Try.checked os 7 .any (Rows.wireDistinctSpec.pre6 enc Try.prog Try.f7 Rows.wireDistinctRow.domain false) (Rows.wireDistinctSpec.post enc Try.prog Try.f7 false true false false) := by
  refine returnsInHanded_of_change (C := Try.checked) own started (by kernel_rfl) Try.func7
    (ChangeSpec.witness6 (enc := enc) (C := Try.checked) false ⟨#[], #[.agg #[.int .i64 0, .int .i64 0], .agg #[.string ⟨#[]⟩, .string ⟨#[]⟩], .agg #[.slice none 0 0, .slice none 0 0, .slice none 0 0, .slice none 0 0]], []⟩ 8 (by kernel_rfl) (by kernel_rfl) (by kernel_rfl) (by kernel_rfl)) ?_
  intro W base args ds gs before hval0 hW hcnd _
  have hval : ∀ (j : Nat) t v, Try.f7.params[j]? = some t → args[j]? = some v → Value.okWide Try.prog W .any base t v := hval0
  have hW' := hW
  obtain ⟨p, q, hA0, hV, rfl, hfz, hnd⟩ := hW
  have hA : DataW.TrodAll enc Try.prog W 0 (fun _ => true) true Try.f7.params.toList args.toList ds p := hA0
  rw [Try.params7] at hA hval
  obtain ⟨v0, vs0, d0, ds0, p0, q0, hargs, rfl, rfl, h0, r0⟩ := trodAll_cons hA
  obtain ⟨v1, vs1, d1, ds1, p1, q1, rfl, rfl, rfl, h1, r1⟩ := trodAll_cons r0
  obtain ⟨v2, vs2, d2, ds2, p2, q2, rfl, rfl, rfl, h2, r2⟩ := trodAll_cons r1
  obtain ⟨rfl, rfl, rfl⟩ := trodAll_nil r2
  obtain rfl : args = #[v0, v1, v2] := by cases args; simp_all
  obtain ⟨cs0, a0, a1, m0, rfl, z0, ha0, ha1⟩ := open_arr2 Try.underlying68 cells_int (hval 0 68 v0 rfl rfl) h0
  obtain ⟨c00, c01, rfl⟩ := array2 (z0.trans (show Try.prog.cellsOf 68 = 2 by kernel_rfl))
  obtain ⟨cs1, b0, b1, m1, rfl, z1, hb0, hb1⟩ := open_arr2 Try.underlying69 cells_str (hval 1 69 v1 rfl rfl) h1
  obtain ⟨c10, c11, rfl⟩ := array2 (z1.trans (show Try.prog.cellsOf 69 = 2 by kernel_rfl))
  obtain ⟨cs2, e0, e1, m2, rfl, z2, he0, he1⟩ := open_arr2 Try.underlying70 cells_shape (hval 2 70 v2 rfl rfl) h2
  obtain ⟨o, h, o', h', rfl⟩ := array_four (z2.trans (show Try.prog.cellsOf 70 = 4 by kernel_rfl))
  obtain ⟨x, ex, _, wx⟩ := DataW.trod_int Try.underlying3 ha0
  obtain ⟨y, ey, _, wy⟩ := DataW.trod_int Try.underlying3 ha1
  obtain ⟨t, et, _, wt⟩ := DataW.trod_string Try.underlying9 hb0
  obtain ⟨u, eu, _, wu⟩ := DataW.trod_string Try.underlying9 hb1
  simp at ex ey et eu
  subst ex ey et eu
  obtain ⟨s, so, sh, ⟨sI1, sl1⟩, sI2, sl2⟩ := shape_cells he0
  obtain ⟨z, zo, zh, ⟨zI1, zl1⟩, zI2, zl2⟩ := shape_cells he1
  unfold maxLen at wt wu sl1 sl2 zl1 zl2
  refine (dis_walk x y t u o h o' h' s z W (i64_of wx) (i64_of wy) (by omega) (by omega) so sh (by omega) (by omega) (fun r hr => by have := (sI2 r hr).2; unfold maxLen at this; omega) sI1 (fun r hr => (sI2 r hr).1)
    zo zh (by omega) (by omega) (fun r hr => by have := (zI2 r hr).2; unfold maxLen at this; omega) zI1 (fun r hr => (zI2 r hr).1)).mono fun e W' ⟨he, hb⟩ => ?_
  subst he
  refine ⟨_, rfl, law_post hW' hb rfl (by kernel_rfl) ?_ (fun _ => by subst_vars; exact ⟨rfl, rfl, rfl⟩)⟩
  rw [Try.params7]
  intro t ht
  simp at ht
  rcases ht with rfl | rfl | rfl
  · exact ⟨by kernel_rfl, of_decide_eq_true (by kernel_rfl)⟩
  · exact ⟨by kernel_rfl, of_decide_eq_true (by kernel_rfl)⟩
  · exact ⟨by kernel_rfl, of_decide_eq_true (by kernel_rfl)⟩

theorem wireDis_holds : Rows.WireDistinctSaid :=
  OpenClaim.holds_of_wide 7 Try.f7 rfl rfl rfl rfl rfl rfl rfl ⟨rfl, rfl, rfl, rfl, rfl⟩ rfl rfl rfl rfl rfl (by kernel_rfl) Try.func7 (by kernel_rfl)
    (of_decide_eq_true (by kernel_rfl)) (by unfold Func.isWrapper; first | (rw [if_pos (by decide +kernel)]; kernel_rfl) | (rw [if_neg (by decide +kernel)]; exact ⟨rfl, rfl⟩))
    (fun os started H enc _ => wireDis_lifted os started H enc)
end Go.Proofs.Ytcmpdnpdipckmaa.W
