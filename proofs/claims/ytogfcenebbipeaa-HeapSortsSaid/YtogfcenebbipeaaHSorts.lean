/-
  fretsawlaw03.HeapSorts returns true for every list. Condition: the argument is read.
-/
import Derived.Test.YtogfcenebbipeaaHRef2
namespace Go.Proofs.Ytogfcenebbipeaa.W
open Go.RowKit Go.Proofs.Ytogfcenebbipeaa.Pl


set_option maxRecDepth 100000 in
set_option maxHeartbeats 3200000 in
theorem sorts_walk (v : Value) (l : List (Int × Int)) (w : World) (hs : SrcI w v l) (hlen : l.length ≤ 140737488355328) :
    Calls Try.prog 4 #[v] w fun e w' => e = .returned (.bool true) ∧ Nw w w' := by
  obtain ⟨A, cap, rfl⟩ := hs.shape
  obtain ⟨n, hn⟩ : ∃ n, l.length = n := ⟨_, rfl⟩
  have hni : (n : Int) ≤ 140737488355328 := by omega
  have HN := Lib.hid hn
  have HS := Lib.hid hs
  rw [hn]
  clear hn hs hlen
  by_cases hbig : (300 : Int) < n
  · go_enter Try.func4, Try.ntmps4
    go_wp2_with (go_at_call 10; ((with_reducible refine (awake_any _).mono ?_); rintro e w1 ⟨rfl, hk1⟩))
    go_ret
    exact ⟨rfl, hk1⟩
  · have hsm : (n : Int) ≤ 300 := by omega
    have hsrc : ∀ {w' : World}, Nw w w' → SrcI w' (.slice A n cap) l := fun hk => by have := HS.out.nw hk; rw [HN.out] at this; exact this
    go_enter Try.func4, Try.ntmps4
    go_wp2_with fail
    refine (awake_any _).mono ?_
    rintro e w1 ⟨rfl, hk1⟩
    have ho0 : (w1.alloc (.cells #[] 27)).ownsRow w1.heap.size 27 2 (.slice (some ⟨w1.heap.size, 0, none⟩) 0 0) 0 [] := World.ownsRow_lit w1 #[] 0 (Nat.le_refl _) (Nat.zero_le _) rfl
    have hka : Nw w1 (w1.alloc (.cells #[] 27)) := (Kp.refl _ w1).alloc _
    have hsa := hsrc (hk1.tr hka)
    have HK1 := Lib.hid hk1
    clear hbig
    go_wp2_with (at_builtin; refine wp_appG rfl (.tmp 11) (.tmp 12) 29 27 2 16 (.agg #[.int .i64 0, .int .i64 0]) rfl Try.underlying29 infoVI rfl (by omega) w1.heap.size 0 n (.slice (some ⟨w1.heap.size, 0, none⟩) 0 0) (.slice A n cap) [] (flat cvI l) rfl ho0 rfl (HN.out ▸ hsa) (cvI_one _) ?_ ?_ hka.size ?_; omega; omega; intro v2 w2 own2 gr2; simp only [Nat.zero_add, List.nil_append] at own2; have hk2 := gr2.nw hka (own_from ho0))
    have hs2 := hsrc (HK1.out.tr hk2)
    have hln : l.length ≤ 300 := by have := HN.out; omega
    have hown2 : OwnVI w2 w1.heap.size v2 l := by
      unfold OwnVI
      rw [HN.out]
      exact own2
    have HO2 := Lib.hid hown2
    have HK2 := Lib.hid (HK1.out.tr hk2)
    clear own2 hown2 hk2 hka hsa ho0 gr2
    refine (refSorted_any _ l w2 hs2 (by omega)).mono ?_
    rintro e w3 ⟨uw, rfl, hw3, hk3⟩
    have HW3 := Lib.hid hw3
    have HO3 := Lib.hid (HO2.out.nw hk3)
    have HK3 := Lib.hid (HK2.out.tr hk3)
    clear hw3 hk3
    go_wp2_with fail
    refine (fromI_any v2 l w3 HO3.out.src (by omega)).mono ?_
    rintro e w4 ⟨rfl, vh, hh4, hf4, hk4⟩
    obtain ⟨q, hq⟩ : ∃ q, allQ rkI l 0 [] = q := ⟨_, rfl⟩
    rw [hq] at hh4
    have HQL := Lib.hid (show q.length = n by rw [← hq, allQ_length, HN.out]; simp)
    have HQM := Lib.hid (show q.map (·.1) = sortV rkI l [] by rw [← hq, allQ_map]; rfl)
    have HH4 := Lib.hid hh4
    have HF4 := Lib.hid hf4
    have HO4 := Lib.hid (HO3.out.nw hk4)
    have HW4 := Lib.hid (HW3.out.nw hk4)
    have HK4 := Lib.hid (HK3.out.tr hk4)
    clear hq hh4 hf4 hk4
    go_wp2_with fail
    refine (sortedI_any v2 l w4 HO4.out.src (by omega)).mono ?_
    rintro e w5 ⟨us, rfl, hs5, hk5⟩
    have HS5 := Lib.hid hs5
    have HO5 := Lib.hid (HO4.out.nw hk5)
    have HW5 := Lib.hid (HW4.out.nw hk5)
    have HH5 := Lib.hid (HH4.out.nw hk5)
    have HK5 := Lib.hid (HK4.out.tr hk5)
    have hsl : (sortV rkI l []).length ≤ 1099511627775 := by rw [sortV_length]; simp; omega
    clear hs5 hk5
    go_wp2_with fail
    refine (same_true us uw _ w5 HS5.out.src HW5.out.src hsl).mono ?_
    rintro e w6 ⟨rfl, hk6⟩
    have HO6 := Lib.hid (HO5.out.nw hk6)
    have HW6 := Lib.hid (HW5.out.nw hk6)
    have HH6 := Lib.hid (HH5.out.nw hk6)
    have HK6 := Lib.hid (HK5.out.tr hk6)
    clear hk6
    go_wp2_with fail
    refine (lenI_any 0 w3.heap.size l.length vh q w6 HH6.out).mono ?_
    rintro e w6 ⟨rfl, rfl⟩
    rw [HQL.out]
    go_wp2_with fail
    refine (drain_any 0 w3.heap.size 0 l.length vh q _ HH6.out (by rw [HQL.out]; omega)).mono ?_
    rintro e w7 ⟨u7, rfl, hd7, hk7, v7, _, _⟩
    rw [HQM.out] at hd7
    have HO7 := Lib.hid (HO6.out.kp hk7 (fun g e e2 => HO6.out.far HH6.out g e2 e))
    have HW7 := Lib.hid (HW6.out.kp hk7 (fun g e e2 => HW6.out.far HH6.out g e2 e))
    have HK7 := Lib.hid (HK6.out.own hk7 (fun k e => Nat.le_trans HK3.out.size (HF4.out k e)))
    have HD7 := Lib.hid hd7
    clear hk7 hd7
    go_wp2_with fail
    refine (same_true u7 uw _ w7 HD7.out.src HW7.out.src hsl).mono ?_
    rintro e w8 ⟨rfl, hk8⟩
    have HO8 := Lib.hid (HO7.out.nw hk8)
    have HK8 := Lib.hid (HK7.out.tr hk8)
    have hs8 := hsrc HK8.out
    clear hk8
    go_wp2_with fail
    refine (same_true v2 _ l w8 HO8.out.src hs8 (by omega)).mono ?_
    rintro e w9 ⟨rfl, hk9⟩
    go_wp2_with fail
    go_ret
    exact ⟨rfl, HK8.out.tr hk9⟩
end Go.Proofs.Ytogfcenebbipeaa.W
