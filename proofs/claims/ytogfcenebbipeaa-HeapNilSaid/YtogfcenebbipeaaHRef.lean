/-
  fretsawref03.Push, Sorted, Same: a sorted insertion, its repetition, the equality of lists. Conditions: the lists are read, of fewer than 2^40 elements.
-/
import Derived.Test.YtogfcenebbipeaaHAw
namespace Go.Proofs.Ytogfcenebbipeaa.W
open Go.RowKit Go.Proofs.Ytogfcenebbipeaa.Pl

theorem elemV : Try.prog.elem 29 = 27 := by kernel_rfl

/-- the place of an insertion -/
def plc (x : Int × Int) : List (Int × Int) → Nat
  | [] => 0
  | y :: q => if y.1 ≤ x.1 then plc x q + 1 else 0
theorem plc_le (x : Int × Int) : ∀ q, plc x q ≤ q.length
  | [] => Nat.le_refl _
  | y :: q => by
    unfold plc
    split
    · exact Nat.succ_le_succ (plc_le x q)
    · exact Nat.zero_le _
theorem plc_lt {x : Int × Int} : ∀ {q : List (Int × Int)} {k : Nat} {y : Int × Int}, q[k]? = some y → k < plc x q → y.1 ≤ x.1
  | [], k, y, h, _ => by simp at h
  | z :: q, k, y, h, hk => by
    unfold plc at hk
    split at hk
    · rename_i hz
      cases k with
      | zero => simp at h; subst h; exact hz
      | succ k => exact plc_lt (by simpa using h) (by omega)
    · omega
theorem plc_at {x : Int × Int} : ∀ {q : List (Int × Int)} {y : Int × Int}, q[plc x q]? = some y → ¬ y.1 ≤ x.1
  | [], y, h => by simp at h
  | z :: q, y, h => by
    unfold plc at h
    split at h
    · exact plc_at (by simpa using h)
    · rename_i hz
      simp at h
      subst h
      exact hz
theorem insV_plc (x : Int × Int) : ∀ q, insV rkI x q = q.take (plc x q) ++ [x] ++ q.drop (plc x q)
  | [] => rfl
  | y :: q => by
    unfold insV plc rkI
    split
    · have := insV_plc x q
      unfold rkI at this
      rw [this]
      rfl
    · rfl

set_option maxRecDepth 100000 in
set_option maxHeartbeats 1600000 in
theorem refPush_any (v : Value) (l : List (Int × Int)) (x : Int × Int) (w : World) (hs : SrcI w v l) (hlen : l.length ≤ 1099511627775) :
    Calls Try.prog 17 #[v, .agg #[.int .i64 x.1, .int .i64 x.2]] w fun e w' => ∃ u, e = .returned u ∧ OwnVI w' w.heap.size u (insV rkI x l) ∧ Nw w w' := by
  obtain ⟨A, cap, rfl⟩ := hs.shape
  obtain ⟨n, hn⟩ : ∃ n, l.length = n := ⟨_, rfl⟩
  obtain ⟨m, hm⟩ : ∃ m, plc x l = m := ⟨_, rfl⟩
  have hmn : m ≤ n := by rw [← hm, ← hn]; exact plc_le x l
  have hni : (n : Int) ≤ 1099511627775 := by omega
  have HN := Lib.hid hn
  have HM := Lib.hid hm
  have hs0 : Src w 2 (.slice A n cap) n (flat cvI l) := by rw [← hn]; exact hs
  rw [hn]
  clear hn hm
  obtain ⟨wx, hwx⟩ : ∃ wx, w.alloc (.cells #[.int .i64 x.1, .int .i64 x.2] 27) = wx := ⟨_, rfl⟩
  have hkx : Nw w wx := hwx ▸ (Kp.refl _ w).alloc _
  have hbx : Blk wx w.heap.size 27 #[.int .i64 x.1, .int .i64 x.2] := hwx ▸ Blk.new w _ _
  obtain ⟨x0, x1, _, _⟩ := hbx.two
  have HWX := Lib.hid hwx
  have hsx : SrcI wx (.slice A n cap) l := by rw [← HN.out]; exact hs.nw hkx
  clear hwx
  go_enter Try.func17, Try.ntmps17
  go_wp2_with fail
  rw [HWX.out]
  go_loopw [5] (fun i wr => ∃ (k nq : Nat), i = .int .i64 k ∧ k ≤ m ∧ wr = wx.drewN nq) (fun i _ => n - (intOf i).toNat)
  case atStart => exact ⟨0, 0, rfl, Nat.zero_le _, rfl⟩
  case round =>
    obtain ⟨k, nq, rfl, hk, rfl⟩ := hrel
    by_cases hkm : k < m
    · have hlt : k < n := by omega
      obtain ⟨y, hy⟩ : ∃ y, l[k]? = some y := ⟨_, List.getElem?_eq_getElem (by have := HN.out; omega)⟩
      have hyx : y.1 ≤ x.1 := plc_lt hy (by rw [HM.out]; exact hkm)
      obtain ⟨g, o, c2, hv2, _, _⟩ := SrcI.form (by rw [← HN.out] at hsx; exact hsx) (by have := HN.out; omega)
      simp only [Value.slice.injEq] at hv2
      have hA := hv2.1
      clear hv2
      obtain ⟨y0, y1⟩ := hsx.at_ hA hy
      subst hA
      have hkn : (k : Int) < (n : Int) := by omega
      have hd1 : decide ((k : Int) < (n : Int)) = true := decide_eq_true hkn
      have hd2 : decide (y.1 ≤ x.1) = true := decide_eq_true hyx
      clear hy
      go_wp2_with fail
      go_quiet (fail)
      go_wp2
      go_roundw
      case rel => exact ⟨k + 1, _, by go_num, by omega, rfl⟩
      case measure => simp [intOf]; omega
    · obtain rfl : k = m := by omega
      by_cases hlt : k < n
      · obtain ⟨y, hy⟩ : ∃ y, l[k]? = some y := ⟨_, List.getElem?_eq_getElem (by have := HN.out; omega)⟩
        have hyx : ¬ y.1 ≤ x.1 := plc_at (by rw [HM.out]; exact hy)
        obtain ⟨g, o, c2, hv2, _, _⟩ := SrcI.form (by rw [← HN.out] at hsx; exact hsx) (by have := HN.out; omega)
        simp only [Value.slice.injEq] at hv2
        have hA := hv2.1
        clear hv2
        obtain ⟨y0, y1⟩ := hsx.at_ hA hy
        subst hA
        have hkn : (k : Int) < (n : Int) := by omega
        have hd1 : decide ((k : Int) < (n : Int)) = true := decide_eq_true hkn
        have hd2 : decide (y.1 ≤ x.1) = false := decide_eq_false hyx
        clear hy
        go_wp2_with fail
        go_quiet (fail)
        generalize hw2 : World.drewN (World.drewN wx _) nq = w2
        have hk2 : Nw w w2 := by rw [← hw2]; exact (hkx.drewN _).drewN _
        have hb2 : Blk w2 w.heap.size 27 #[.int .i64 x.1, .int .i64 x.2] := by rw [← hw2]; exact (hbx.drewN _).drewN _
        clear hw2
        have hs2 := hs0.nw hk2
        obtain ⟨B1, d1, hr1, hs1, _⟩ := hs2.cuth elemV Try.underlying29 infoVI k (by omega)
        obtain ⟨B3, d3, hr3, hs3, _⟩ := hs2.cutl elemV Try.underlying29 infoVI k (by omega)
        rw [flat_take cvI_len] at hs1
        rw [flat_drop cvI_len] at hs3
        have ho0 : (w2.alloc (.cells #[] 27)).ownsRow w2.heap.size 27 2 (.slice (some ⟨w2.heap.size, 0, none⟩) 0 0) 0 [] := World.ownsRow_lit w2 #[] 0 (Nat.le_refl _) (Nat.zero_le _) rfl
        have hka : Nw w2 (w2.alloc (.cells #[] 27)) := (Kp.refl _ w2).alloc _
        have hs1a := hs1.nw hka
        have HK2 := Lib.hid hk2
        go_wp2_with (first
          | (at_builtin; refine wp_appG rfl (.tmp 23) (.tmp 26) 29 27 2 16 (.agg #[.int .i64 0, .int .i64 0]) rfl Try.underlying29 infoVI rfl (by omega) w2.heap.size 0 k (.slice (some ⟨w2.heap.size, 0, none⟩) 0 0) (.slice B1 k d1) [] (flat cvI (l.take k)) rfl ho0 rfl hs1a (cvI_one _) ?_ ?_ hka.size ?_; omega; omega; intro v3 w3 own3 gr3; simp only [Nat.zero_add, List.nil_append] at own3; have hk3 := gr3.nw hka (own_from ho0); have hb3 := hb2.kp hk3 (fun e => e); (obtain ⟨x30, x31, _, _⟩ := hb3.two))
          | (at_builtin; refine wp_pushG rfl (.tmp 28) (.tmp 30) 29 27 2 16 (.agg #[.int .i64 0, .int .i64 0]) rfl Try.underlying29 infoVI rfl (by omega) w2.heap.size k v3 (flat cvI (l.take k)) [.int .i64 x.1, .int .i64 x.2] rfl own3 rfl ?_ rfl ?_ ?_ hk3.size ?_; (intro u hu; simp at hu; rcases hu with rfl | rfl <;> rfl); omega; omega; intro v4 w4 own4 gr4; have hk4 := gr4.nw hk3 (own_from own3); have hs34 := hs3.nw hk4)
          | (at_builtin; refine wp_appG rfl (.tmp 32) (.tmp 35) 29 27 2 16 (.agg #[.int .i64 0, .int .i64 0]) rfl Try.underlying29 infoVI rfl (by omega) w2.heap.size (k + 1) (n - k) v4 (.slice B3 (n - k) d3) (flat cvI (l.take k) ++ [.int .i64 x.1, .int .i64 x.2]) (flat cvI (l.drop k)) rfl own4 rfl hs34 (cvI_one _) ?_ ?_ hk4.size ?_; omega; omega; intro v5 w5 own5 gr5))
        go_ret
        refine ⟨_, rfl, ?_, HK2.out.tr (gr5.nw hk4 (own_from own4))⟩
        have hlen5 : (insV rkI x l).length = k + 1 + (n - k) := by rw [insV_length, HN.out]; omega
        unfold OwnVI
        rw [hlen5, insV_plc, HM.out, flat_app, flat_app]
        exact own_less own5 HK2.out.size
      · have hd1 : decide ((k : Int) < (n : Int)) = false := decide_eq_false (by omega)
        go_wp2_with fail
        go_quiet (fail)
        generalize hw2 : World.drewN (World.drewN wx _) nq = w2
        have hk2 : Nw w w2 := by rw [← hw2]; exact (hkx.drewN _).drewN _
        have hb2 : Blk w2 w.heap.size 27 #[.int .i64 x.1, .int .i64 x.2] := by rw [← hw2]; exact (hbx.drewN _).drewN _
        clear hw2
        have hs2 := hs0.nw hk2
        obtain ⟨B1, d1, hr1, hs1, _⟩ := hs2.cuth elemV Try.underlying29 infoVI k (by omega)
        obtain ⟨B3, d3, hr3, hs3, _⟩ := hs2.cutl elemV Try.underlying29 infoVI k (by omega)
        rw [flat_take cvI_len] at hs1
        rw [flat_drop cvI_len] at hs3
        have ho0 : (w2.alloc (.cells #[] 27)).ownsRow w2.heap.size 27 2 (.slice (some ⟨w2.heap.size, 0, none⟩) 0 0) 0 [] := World.ownsRow_lit w2 #[] 0 (Nat.le_refl _) (Nat.zero_le _) rfl
        have hka : Nw w2 (w2.alloc (.cells #[] 27)) := (Kp.refl _ w2).alloc _
        have hs1a := hs1.nw hka
        have HK2 := Lib.hid hk2
        go_wp2_with (first
          | (at_builtin; refine wp_appG rfl (.tmp 23) (.tmp 26) 29 27 2 16 (.agg #[.int .i64 0, .int .i64 0]) rfl Try.underlying29 infoVI rfl (by omega) w2.heap.size 0 k (.slice (some ⟨w2.heap.size, 0, none⟩) 0 0) (.slice B1 k d1) [] (flat cvI (l.take k)) rfl ho0 rfl hs1a (cvI_one _) ?_ ?_ hka.size ?_; omega; omega; intro v3 w3 own3 gr3; simp only [Nat.zero_add, List.nil_append] at own3; have hk3 := gr3.nw hka (own_from ho0); have hb3 := hb2.kp hk3 (fun e => e); (obtain ⟨x30, x31, _, _⟩ := hb3.two))
          | (at_builtin; refine wp_pushG rfl (.tmp 28) (.tmp 30) 29 27 2 16 (.agg #[.int .i64 0, .int .i64 0]) rfl Try.underlying29 infoVI rfl (by omega) w2.heap.size k v3 (flat cvI (l.take k)) [.int .i64 x.1, .int .i64 x.2] rfl own3 rfl ?_ rfl ?_ ?_ hk3.size ?_; (intro u hu; simp at hu; rcases hu with rfl | rfl <;> rfl); omega; omega; intro v4 w4 own4 gr4; have hk4 := gr4.nw hk3 (own_from own3); have hs34 := hs3.nw hk4)
          | (at_builtin; refine wp_appG rfl (.tmp 32) (.tmp 35) 29 27 2 16 (.agg #[.int .i64 0, .int .i64 0]) rfl Try.underlying29 infoVI rfl (by omega) w2.heap.size (k + 1) (n - k) v4 (.slice B3 (n - k) d3) (flat cvI (l.take k) ++ [.int .i64 x.1, .int .i64 x.2]) (flat cvI (l.drop k)) rfl own4 rfl hs34 (cvI_one _) ?_ ?_ hk4.size ?_; omega; omega; intro v5 w5 own5 gr5))
        go_ret
        refine ⟨_, rfl, ?_, HK2.out.tr (gr5.nw hk4 (own_from own4))⟩
        have hlen5 : (insV rkI x l).length = k + 1 + (n - k) := by rw [insV_length, HN.out]; omega
        unfold OwnVI
        rw [hlen5, insV_plc, HM.out, flat_app, flat_app]
        exact own_less own5 HK2.out.size
end Go.Proofs.Ytogfcenebbipeaa.W
