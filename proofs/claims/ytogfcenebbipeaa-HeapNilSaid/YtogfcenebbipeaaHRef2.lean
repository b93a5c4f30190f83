/-
  fretsawref03.Sorted, Same; fretsawlaw03.drain. Conditions: the lists are read, of fewer than 2^40 elements; the heap's block is known.
-/
import Derived.Test.YtogfcenebbipeaaHRef
namespace Go.Proofs.Ytogfcenebbipeaa.W
open Go.RowKit Go.Proofs.Ytogfcenebbipeaa.Pl

set_option maxRecDepth 100000 in
set_option maxHeartbeats 1600000 in
theorem refSorted_any (v : Value) (l : List (Int × Int)) (w : World) (hs : SrcI w v l) (hlen : l.length ≤ 1099511627775) :
    Calls Try.prog 21 #[v] w fun e w' => ∃ u, e = .returned u ∧ OwnVI w' w.heap.size u (sortV rkI l []) ∧ Nw w w' := by
  obtain ⟨A, cap, rfl⟩ := hs.shape
  obtain ⟨n, hn⟩ : ∃ n, l.length = n := ⟨_, rfl⟩
  have hni : (n : Int) ≤ 1099511627775 := by omega
  have HN := Lib.hid hn
  have HS := Lib.hid hs
  rw [hn]
  clear hn hs
  go_enter Try.func21, Try.ntmps21
  go_wp2
  go_loopw [3, 4] (fun u i wr => ∃ (k : Nat), i = .int .i64 k ∧ k ≤ n ∧ OwnVI wr w.heap.size u (sortV rkI (l.take k) []) ∧ Nw w wr) (fun _ i _ => n - (intOf i).toNat)
  case atStart => exact ⟨0, rfl, Nat.zero_le _, OwnVI.nil _ _, Kp.refl _ _⟩
  case round =>
    obtain ⟨k, rfl, hk, ho, hkr⟩ := hrel
    obtain ⟨A4, c4, rfl⟩ := (own_src ho).shape
    by_cases hlt : k < n
    · have hkl : k < l.length := by have := HN.out; omega
      obtain ⟨x, hx⟩ : ∃ x, l[k]? = some x := ⟨_, List.getElem?_eq_getElem hkl⟩
      have hst := HS.out
      obtain ⟨g, o, c2, hv2, _, _⟩ := hst.form (by omega)
      simp only [Value.slice.injEq] at hv2
      have hA := hv2.1
      clear hv2
      obtain ⟨x0, x1⟩ := (hst.nw hkr).at_ hA hx
      subst hA
      have hkn : (k : Int) < (n : Int) := by omega
      have hd1 : decide ((k : Int) < (n : Int)) = true := decide_eq_true hkn
      have hsl : (sortV rkI (l.take k) []).length = k := by rw [sortV_length, List.length_take, Nat.min_eq_left (Nat.le_of_lt hkl)]; simp
      have HST := Lib.hid (show insV rkI x (sortV rkI (l.take k) []) = sortV rkI (l.take (k + 1)) [] by
        have e : l.take (k + 1) = l.take k ++ [x] := by rw [List.take_add_one, hx]; rfl
        rw [e, sortV_snoc])
      have hso := ho.src
      have HSL := Lib.hid hsl
      clear hx hst hsl
      go_wp2_with fail
      refine (refPush_any _ _ x wr hso (by rw [HSL.out]; omega)).mono ?_
      rintro e w2 ⟨u2, rfl, ho2, hk2⟩
      rw [HST.out] at ho2
      have ho3 : OwnVI w2 w.heap.size u2 (sortV rkI (l.take (k + 1)) []) := own_less ho2 hkr.size
      go_wp2_with fail
      go_roundw
      case rel => exact ⟨k + 1, by go_num, by omega, ho3, hkr.tr hk2⟩
      case measure => simp [intOf]; omega
    · obtain rfl : k = n := by omega
      have hfin : sortV rkI l [] = sortV rkI (l.take k) [] := by rw [List.take_of_length_le (by have := HN.out; omega)]
      have hd1 : decide ((k : Int) < (k : Int)) = false := decide_eq_false (by omega)
      have HO := Lib.hid ho
      have HF := Lib.hid hfin
      clear ho hfin
      go_wp2
      go_ret
      rw [HF.out]
      exact ⟨_, rfl, HO.out, hkr⟩

set_option maxRecDepth 100000 in
set_option maxHeartbeats 1600000 in
theorem same_true (u v : Value) (l : List (Int × Int)) (w : World) (hu : SrcI w u l) (hv : SrcI w v l) (hlen : l.length ≤ 1099511627775) :
    Calls Try.prog 19 #[u, v] w fun e w' => e = .returned (.bool true) ∧ Nw w w' := by
  obtain ⟨A, cap, rfl⟩ := hu.shape
  obtain ⟨B, cbp, rfl⟩ := hv.shape
  obtain ⟨n, hn⟩ : ∃ n, l.length = n := ⟨_, rfl⟩
  have hni : (n : Int) ≤ 1099511627775 := by omega
  have HN := Lib.hid hn
  have HU := Lib.hid hu
  have HV := Lib.hid hv
  rw [hn]
  clear hn hu hv
  go_enter Try.func19, Try.ntmps19
  go_wp2
  go_loopw [5] (fun i wr => ∃ (k nq : Nat), i = .int .i64 k ∧ k ≤ n ∧ wr = w.drewN nq) (fun i _ => n - (intOf i).toNat)
  case atStart => exact ⟨0, 0, rfl, Nat.zero_le _, rfl⟩
  case round =>
    obtain ⟨k, nq, rfl, hk, rfl⟩ := hrel
    by_cases hlt : k < n
    · have hkl : k < l.length := by have := HN.out; omega
      obtain ⟨x, hx⟩ : ∃ x, l[k]? = some x := ⟨_, List.getElem?_eq_getElem hkl⟩
      have hsu := HU.out
      have hsv := HV.out
      obtain ⟨g, o, c2, hv2, _, _⟩ := hsu.form (by omega)
      simp only [Value.slice.injEq] at hv2
      have hA := hv2.1
      clear hv2
      obtain ⟨x0, x1⟩ := hsu.at_ hA hx
      obtain ⟨g2, o2, c3, hv3, _, _⟩ := hsv.form (by omega)
      simp only [Value.slice.injEq] at hv3
      have hB := hv3.1
      clear hv3
      obtain ⟨y0, y1⟩ := hsv.at_ hB hx
      subst hA
      subst hB
      have hkn : (k : Int) < (n : Int) := by omega
      have hd1 : decide ((k : Int) < (n : Int)) = true := decide_eq_true hkn
      clear hx hsu hsv
      go_wp2_with fail
      go_quiet (fail)
      go_wp2
      go_roundw
      case rel => exact ⟨k + 1, _, by go_num, by omega, rfl⟩
      case measure => simp [intOf]; omega
    · obtain rfl : k = n := by omega
      have hd1 : decide ((k : Int) < (k : Int)) = false := decide_eq_false (by omega)
      go_wp2
      go_ret
      exact ⟨rfl, (Kp.refl _ _).drewN _⟩

set_option maxRecDepth 100000 in
set_option maxHeartbeats 1600000 in
/-- drain pops everything: the heap is empty behind it -/
theorem drain_any (C H c p : Nat) (v : Value) (q : List Ent) (w : World) (h : HpI C w H v q p) (hlen : q.length ≤ 1099511627775) :
    Calls Try.prog 20 #[.pointer (some ⟨H, 0, none⟩)] w fun e w' => ∃ u, e = .returned u ∧ OwnVI w' w.heap.size u (q.map (·.1)) ∧ Kp (Ft H v) w w' ∧ ∃ v', HpI C w' H v' [] p ∧ v'.ownBlock = v.ownBlock := by
  obtain ⟨n, hn⟩ : ∃ n, q.length = n := ⟨_, rfl⟩
  have hni : (n : Int) ≤ 1099511627775 := by omega
  have HN := Lib.hid hn
  clear hn
  go_enter Try.func20, Try.ntmps20
  go_wp2_with (go_at_call 18; ((with_reducible refine (lenI_any C H p v q _ h).mono ?_); rintro e w1 ⟨rfl, rfl⟩; rw [HN.out]))
  go_loopw [3, 4] (fun u i wr => ∃ (k : Nat) (v' : Value), i = .int .i64 ((n - k : Nat) : Int) ∧ k ≤ n ∧ OwnVI wr w.heap.size u ((q.take k).map (·.1)) ∧ HpI C wr H v' (q.drop k) p ∧ v'.ownBlock = v.ownBlock ∧ Kp (Ft H v) w wr) (fun _ i _ => (intOf i).toNat)
  case atStart => exact ⟨0, v, rfl, Nat.zero_le _, OwnVI.nil _ _, h, rfl, Kp.refl _ _⟩
  case round =>
    obtain ⟨k, v', rfl, hk, ho, hh, hv', hkr⟩ := hrel
    obtain ⟨acc, hacc⟩ : ∃ acc, (q.take k).map (·.1) = acc := ⟨_, rfl⟩
    rw [hacc] at ho
    have HACC := Lib.hid hacc
    clear hacc
    obtain ⟨A4, c4, rfl⟩ := (own_src ho).shape
    obtain ⟨j, hj⟩ : ∃ j, n - k = j := ⟨_, rfl⟩
    rw [hj]
    have HJ := Lib.hid hj
    clear hj
    by_cases hlt : k < n
    · have hkl : k < q.length := by have := HN.out; omega
      obtain ⟨x, hx⟩ : ∃ x, q[k]? = some x := ⟨_, List.getElem?_eq_getElem hkl⟩
      have hdr : q.drop k = x :: q.drop (k + 1) := by
        rw [List.drop_eq_getElem_cons hkl]
        rw [List.getElem?_eq_getElem hkl] at hx
        injection hx with hx
        rw [hx]
      have htk : (q.take (k + 1)).map (·.1) = acc ++ [x.1] := by rw [← HACC.out, List.take_add_one, hx]; simp
      have htl : acc.length = k := by rw [← HACC.out, List.length_map, List.length_take, Nat.min_eq_left (Nat.le_of_lt hkl)]
      have hdl : (q.drop (k + 1)).length ≤ 1099511627775 := by rw [List.length_drop]; omega
      have hj0 : 0 < (j : Int) := by have := HJ.out; omega
      have hjn : (j : Int) ≤ 1099511627775 := by have := HJ.out; omega
      rw [hdr] at hh
      have HTK := Lib.hid htk
      have HTL := Lib.hid htl
      have HO := Lib.hid ho
      have HH := Lib.hid hh
      clear hx hdr htk htl ho
      go_wp2_with fail
      refine (popI_some C H c p v' x _ wr hh trivial hdl).mono ?_
      rintro e w2 ⟨rfl, v2, c2, hh2, hk2, hv2, _, _⟩
      have hk2' : Kp (Ft H v') wr w2 := hk2.mono fun _ _ e => e.elim id fun e => e.elim
      have ho2 := HO.out.kp hk2' (fun g e e2 => HO.out.far HH.out g e2 e)
      have hkx : Nw w2 (w2.alloc (.cells #[.int .i64 x.1.1, .int .i64 x.1.2] 27)) := (Kp.refl _ w2).alloc _
      have ho3 := ho2.nw hkx
      have hh3 := hh2.nw hkx
      have hkw : Kp (Ft H v) w (w2.alloc (.cells #[.int .i64 x.1.1, .int .i64 x.1.2] 27)) := (hkr.trans hk2' (fun i _ e => e.imp id fun e => hv' ▸ e)).trans hkx (fun _ _ e => e.elim)
      have hfar := ho3.far hh3
      have hacl : acc.length + 1 ≤ 1099511627775 := by have := HTL.out; omega
      have HO3 := Lib.hid ho3
      have HH3 := Lib.hid hh3
      have HKW := Lib.hid hkw
      have HFAR := Lib.hid hfar
      clear ho2 ho3 hh3 hkw hfar
      go_wp2_with (first
        | (at_builtin; refine wp_pushAt (w2.heap.size + 1) (by simp) rfl (.tmp 20) (.tmp 22) 29 27 2 16 (.agg #[.int .i64 0, .int .i64 0]) rfl Try.underlying29 infoVI rfl (by omega) w.heap.size acc.length _ (flat cvI acc) [.int .i64 x.1.1, .int .i64 x.1.2] rfl HO3.out rfl ?_ rfl ?_ ?_ HKW.out.size ?_; (intro u hu; simp at hu; rcases hu with rfl | rfl <;> rfl); omega; omega; intro v5 w5 own5 gr5))
      have hh5 := HH3.out.kp gr5.by_ (fun k e e2 => HFAR.out k e e2)
      have hk5 : Kp (Ft H v) w w5 := HKW.out.trans gr5.by_ (fun i hi e => absurd hi (Nat.not_lt.2 (own_from HO3.out i e)))
      have ho5 : OwnVI w5 w.heap.size v5 ((q.take (k + 1)).map (·.1)) := by
        rw [HTK.out]
        unfold OwnVI
        rw [flat_snoc, List.length_append]
        exact own5
      have hji : (j : Int) - 1 = ((n - (k + 1) : Nat) : Int) := by have := HJ.out; omega
      go_roundw
      case rel => exact ⟨k + 1, v2, by rw [hji], by omega, ho5, hh5, hv2.trans hv', hk5⟩
      case measure => simp [intOf]; have := HJ.out; omega
    · obtain rfl : k = n := by omega
      obtain rfl : j = 0 := by have := HJ.out; omega
      have htk : q.take k = q := List.take_of_length_le (by have := HN.out; omega)
      have hdr : q.drop k = [] := List.drop_eq_nil_of_le (by have := HN.out; omega)
      have HT := Lib.hid (show q.map (·.1) = acc by rw [← HACC.out, htk])
      rw [hdr] at hh
      have HO := Lib.hid ho
      clear htk hdr ho
      go_wp2
      go_ret
      rw [HT.out]
      exact ⟨_, rfl, HO.out, hkr, v', hh, hv'⟩
end Go.Proofs.Ytogfcenebbipeaa.W
