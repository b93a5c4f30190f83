/-
  fretsawref01.SameRings, SameShape: what the calls answer of slices that read as lists of lists of vectors. Condition: the lists are shorter than 2^62.
-/
import Derived.Test.YtfphdpcffjpbjaaSameV
import Derived.Test.YtfphdpcffjpbjaaShapeE
import Derived.Deep.RegionHeld3
namespace Go.Proofs.Ytfphdpcffjpbjaa.W
open Go.RowKit Go.Proofs.Ytfphdpcffjpbjaa.Pl

def eqR (a b : List (List (Int × Int))) : Bool := decide (a = b)
theorem later_below {w w' : World} (h : Later w w') : Below w.heap.size w w' := by
  obtain ⟨n, rfl⟩ := h
  exact below_drewN (Below.refl _ _) _

set_option maxRecDepth 100000 in
set_option maxHeartbeats 800000 in
theorem sameR_any (v u : Value) (l m : List (List (Int × Int))) (w : World) (hv : SrcR w v l) (hu : SrcR w u m) (hl : l.length ≤ 4611686018427387904) (hm : m.length ≤ 4611686018427387904) (hl2 : ∀ r ∈ l, r.length ≤ 4611686018427387904) (hm2 : ∀ r ∈ m, r.length ≤ 4611686018427387904) :
    Calls Try.prog 74 #[v, u] w fun e w' => e = .returned (.bool (eqR l m)) ∧ Later w w' := by
  obtain ⟨vs, hv, hve⟩ := hv
  obtain ⟨us, hu, hue⟩ := hu
  obtain ⟨A, c, rfl⟩ := hv.shape
  obtain ⟨A', c', rfl⟩ := hu.shape
  obtain ⟨n, hn⟩ : ∃ n, n = l.length := ⟨_, rfl⟩
  obtain ⟨n', hn'⟩ : ∃ n', n' = m.length := ⟨_, rfl⟩
  have h1 : n ≤ 4611686018427387904 := by omega
  have h2 : n' ≤ 4611686018427387904 := by omega
  rw [← hn, ← hn']
  have HN := Lib.hid hn
  have HN' := Lib.hid hn'
  have HV := Lib.hid hve
  have HU := Lib.hid hue
  have HL2 := Lib.hid hl2
  have HM2 := Lib.hid hm2
  clear hn hn' hl hm hve hue hl2 hm2
  by_cases hnn : n = n'
  · subst hnn
    have hb0 : ((n : Int) != (n : Int)) = false := by simp
    go_enter Try.func74, Try.ntmps74
    go_wp2
    go_loopw [5] (fun i wr => ∃ k : Nat, k ≤ n ∧ i = .int .i64 k ∧ l.take k = m.take k ∧ Later w wr) (fun i _ => n - (intOf i).toNat)
    case atStart => exact ⟨0, by omega, rfl, rfl, 0, rfl⟩
    case round =>
      obtain ⟨k, hk, rfl, htk, nq, rfl⟩ := hrel
      have HT := Lib.hid htk
      clear htk
      by_cases hlt : k < n
      · obtain ⟨g, o, cc, hv1, hcells⟩ := Src.form hv (by have := HN.out; omega) (by omega)
        obtain ⟨g', o', cc', hv2, hcells'⟩ := Src.form hu (by have := HN'.out; omega) (by omega)
        simp only [Value.slice.injEq] at hv1 hv2
        obtain ⟨rfl, _, rfl⟩ := hv1
        obtain ⟨rfl, _, rfl⟩ := hv2
        obtain ⟨x, hx⟩ : ∃ x, l[k]? = some x := ⟨l[k]'(by rw [← HN.out]; exact hlt), List.getElem?_eq_getElem _⟩
        obtain ⟨y, hy⟩ : ∃ y, m[k]? = some y := ⟨m[k]'(by rw [← HN'.out]; exact hlt), List.getElem?_eq_getElem _⟩
        obtain ⟨vx, hvx⟩ : ∃ vx, vs[k]? = some vx := ⟨vs[k]'(by rw [hv.1, ← HN.out]; omega), List.getElem?_eq_getElem _⟩
        obtain ⟨vy, hvy⟩ : ∃ vy, us[k]? = some vy := ⟨us[k]'(by rw [hu.1, ← HN'.out]; omega), List.getElem?_eq_getElem _⟩
        have hc1 := hcells k _ hvx
        have hc2 := hcells' k _ hvy
        have sx := Lib.hid (HV.out k vx x hvx hx)
        have sy := Lib.hid (HU.out k vy y hvy hy)
        have lx := HL2.out x (List.mem_of_getElem? hx)
        have ly := HM2.out y (List.mem_of_getElem? hy)
        have HX := Lib.hid hx
        have HY := Lib.hid hy
        have bqd : Below w.heap.size w (w.drewN (nq + 1)) := later_below ⟨_, rfl⟩
        have sxd : SrcV (w.drewN (nq + 1)) vx x := Src.below sx.out bqd
        have syd : SrcV (w.drewN (nq + 1)) vy y := Src.below sy.out bqd
        clear hx hy hvx hvy hcells hcells' bqd
        go_wp2
        go_region_held3 (fun w' : World => w'.cell? (⟨g, o + k, none⟩ : Addr) = some vx ∧ w'.cell? (⟨g', o' + k, none⟩ : Addr) = some vy) (first | go_keep)
          (first | (go_at_call 30; ((with_reducible refine (sameV_any vx vy x y _ sxd syd lx ly).mono ?_); rintro e w3 ⟨rfl, n3, rfl⟩)))
        by_cases hxy : x = y
        · subst hxy
          have hb1 : eqV x x = true := decide_eq_true rfl
          rw [hb1, Bool.not_true]
          go_wp2
          go_roundw
          case rel => exact ⟨k + 1, by omega, by go_num, take_grow HT.out HX.out HY.out, _, rfl⟩
          case measure => simp [intOf]; omega
        · have hf := Lib.hid (show eqR l m = false from decide_eq_false (ne_at HX.out HY.out hxy))
          have hb1 : eqV x y = false := decide_eq_false hxy
          rw [hb1, Bool.not_false]
          go_wp2
          go_ret
          exact ⟨ret_bool hf.out.symm, _, rfl⟩
      · obtain rfl : k = n := by omega
        have hf := Lib.hid (show eqR l m = true from decide_eq_true (by
          have := HT.out
          rwa [List.take_of_length_le (by rw [← HN.out]; exact Nat.le_refl _), List.take_of_length_le (by rw [← HN'.out]; exact Nat.le_refl _)] at this))
        go_wp2
        go_ret
        exact ⟨ret_bool hf.out.symm, _, rfl⟩
  · have hb0 : ((n : Int) != (n' : Int)) = true := by rw [bne_iff_ne]; omega
    have hf := Lib.hid (show eqR l m = false from decide_eq_false (by rintro rfl; exact hnn (HN.out.trans HN'.out.symm)))
    go_enter Try.func74, Try.ntmps74
    go_wp2
    go_ret
    exact ⟨ret_bool hf.out.symm, 0, rfl⟩

def eqS (a b : List (Int × Int) × List (List (Int × Int))) : Bool := decide (a = b)
theorem srcR_below {w w' : World} {v : Value} {rs : List (List (Int × Int))} (h : SrcR w v rs) (hb : Below w.heap.size w w') : SrcR w' v rs := by
  obtain ⟨vals, h1, h2⟩ := h
  exact ⟨vals, Src.below h1 hb, fun i u r hu hr => Src.below (h2 i u r hu hr) hb⟩
set_option maxRecDepth 100000 in
set_option maxHeartbeats 800000 in
theorem sameS_any (o h o' h' : Value) (s s' : List (Int × Int) × List (List (Int × Int))) (w : World) (ho : SrcV w o s.1) (hh : SrcR w h s.2) (ho' : SrcV w o' s'.1) (hh' : SrcR w h' s'.2)
    (l1 : s.1.length ≤ 1000) (l2 : s.2.length ≤ 1000) (l3 : ∀ r ∈ s.2, r.length ≤ 1000) (m1 : s'.1.length ≤ 1000) (m2 : s'.2.length ≤ 1000) (m3 : ∀ r ∈ s'.2, r.length ≤ 1000) :
    Calls Try.prog 37 #[.agg #[o, h], .agg #[o', h']] w fun e w' => e = .returned (.bool (eqS s s')) ∧ Below w.heap.size w w' := by
  go_enter Try.func37, Try.ntmps37
  have O : Below w.heap.size w ((w.alloc (.cells #[o, h] 60)).alloc (.cells #[o', h'] 60)) := ((Below.refl _ _).alloc (Nat.le_refl _) _).alloc (by simp) _
  go_wp2_with fail
  refine (sameV_any o o' s.1 s'.1 _ (Src.below ho O) (Src.below ho' O) (by omega) (by omega)).mono ?_
  rintro e w1 ⟨rfl, nq, rfl⟩
  have O1 := below_drewN O nq
  by_cases h1 : s.1 = s'.1
  · have hb1 : eqV s.1 s'.1 = true := decide_eq_true h1
    rw [hb1]
    go_wp2_with fail
    refine (sameR_any h h' s.2 s'.2 _ (srcR_below hh O1) (srcR_below hh' O1) (by omega) (by omega) (fun r hr => by have := l3 r hr; omega) (fun r hr => by have := m3 r hr; omega)).mono ?_
    rintro e w2 ⟨rfl, nr, rfl⟩
    have hf : eqR s.2 s'.2 = eqS s s' := by
      unfold eqR eqS
      exact decide_eq_decide.2 ⟨fun h2 => Prod.ext h1 h2, fun h => by rw [h]⟩
    rw [hf]
    have HF := Lib.hid hf
    clear hf
    have O2 := below_drewN O1 nr
    rw [World.drewN_drewN] at O2
    go_wp2
    go_ret
    exact ⟨rfl, O2⟩
  · have hb1 : eqV s.1 s'.1 = false := decide_eq_false h1
    have hf := Lib.hid (show eqS s s' = false from decide_eq_false (by rintro rfl; exact h1 rfl))
    rw [hb1]
    go_wp2
    go_ret
    exact ⟨ret_bool hf.out.symm, O1⟩
end Go.Proofs.Ytfphdpcffjpbjaa.W
