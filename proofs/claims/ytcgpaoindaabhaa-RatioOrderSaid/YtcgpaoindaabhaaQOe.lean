/-
  RatioOrder: the call returns true, for valid ratios and others. Condition: the parts are ints.
-/
import Derived.Test.YtcgpaoindaabhaaQOd
namespace Go.Proofs.Ytcgpaoindaabhaa.W
open Go.RowKit Go.Proofs.Ytcgpaoindaabhaa.Q

set_option maxRecDepth 100000 in
set_option maxHeartbeats 3200000 in
theorem ratioOrder_any (an ad bn bd cn cd : Int) (ha1 : I64 an) (ha2 : I64 ad) (hb1 : I64 bn) (hb2 : I64 bd) (hc1 : I64 cn) (hc2 : I64 cd) (w : World) :
    Calls Try.prog 7 #[raV an ad, raV bn bd, raV cn cd] w fun e w' => e = .returned (.bool true) ∧ Nw w w' := by
  have haw := fun w1 => awake_any w1
  have hva := fun w1 => refValid_any an ad ha1 ha2 w1
  have hvb := fun w1 => refValid_any bn bd hb1 hb2 w1
  have hvc := fun w1 => refValid_any cn cd hc1 hc2 w1
  have HS0 := Lib.hid (st_three w an ad bn bd cn cd)
  have HN0 := Lib.hid (((nw_alloc w (.cells #[.int .i64 an, .int .i64 ad] 23)).alloc (.cells #[.int .i64 bn, .int .i64 bd] 23)).alloc (.cells #[.int .i64 cn, .int .i64 cd] 23))
  by_cases ha : Vld an ad
  · rw [decide_eq_true ha] at hva
    by_cases hb : Vld bn bd
    · rw [decide_eq_true hb] at hvb
      by_cases hc : Vld cn cd
      · exact order_valid an ad bn bd cn cd ha1 ha2 hb1 hb2 hc1 hc2 ha hb hc w
      · rw [decide_eq_false hc] at hvc
        clear ha1 ha2 hb1 hb2 hc1 hc2
        go_enter Try.func7, Try.ntmps7
        go_wp2_with fail
        refine (haw _).mono ?_
        rintro e x0 ⟨rfl, hk⟩
        have HS1 := Lib.hid (HS0.out.nw hk)
        have HN1 := Lib.hid (HN0.out.tr hk)
        clear hk
        obtain ⟨c0a, c0b⟩ := HS1.out.get (w.heap.size) (an) (ad) (by simp)
        go_wp2_with fail
        refine (hva _).mono ?_
        rintro e x1 ⟨rfl, hk⟩
        have HS2 := Lib.hid (HS1.out.nw hk)
        have HN2 := Lib.hid (HN1.out.tr hk)
        clear hk
        clear c0a c0b
        obtain ⟨c0a, c0b⟩ := HS2.out.get (w.heap.size + 1) (bn) (bd) (by simp)
        go_wp2_with fail
        refine (hvb _).mono ?_
        rintro e x2 ⟨rfl, hk⟩
        have HS3 := Lib.hid (HS2.out.nw hk)
        have HN3 := Lib.hid (HN2.out.tr hk)
        clear hk
        clear c0a c0b
        obtain ⟨c0a, c0b⟩ := HS3.out.get (w.heap.size + 1 + 1) (cn) (cd) (by simp)
        go_wp2_with fail
        refine (hvc _).mono ?_
        rintro e x3 ⟨rfl, hk⟩
        have HS4 := Lib.hid (HS3.out.nw hk)
        have HN4 := Lib.hid (HN3.out.tr hk)
        clear hk
        clear c0a c0b
        go_wp2_with fail
        go_ret
        exact ⟨rfl, HN4.out⟩
    · rw [decide_eq_false hb] at hvb
      clear ha1 ha2 hb1 hb2 hc1 hc2
      go_enter Try.func7, Try.ntmps7
      go_wp2_with fail
      refine (haw _).mono ?_
      rintro e x0 ⟨rfl, hk⟩
      have HS1 := Lib.hid (HS0.out.nw hk)
      have HN1 := Lib.hid (HN0.out.tr hk)
      clear hk
      obtain ⟨c0a, c0b⟩ := HS1.out.get (w.heap.size) (an) (ad) (by simp)
      go_wp2_with fail
      refine (hva _).mono ?_
      rintro e x1 ⟨rfl, hk⟩
      have HS2 := Lib.hid (HS1.out.nw hk)
      have HN2 := Lib.hid (HN1.out.tr hk)
      clear hk
      clear c0a c0b
      obtain ⟨c0a, c0b⟩ := HS2.out.get (w.heap.size + 1) (bn) (bd) (by simp)
      go_wp2_with fail
      refine (hvb _).mono ?_
      rintro e x2 ⟨rfl, hk⟩
      have HS3 := Lib.hid (HS2.out.nw hk)
      have HN3 := Lib.hid (HN2.out.tr hk)
      clear hk
      clear c0a c0b
      go_wp2_with fail
      go_ret
      exact ⟨rfl, HN3.out⟩
  · rw [decide_eq_false ha] at hva
    clear ha1 ha2 hb1 hb2 hc1 hc2
    go_enter Try.func7, Try.ntmps7
    go_wp2_with fail
    refine (haw _).mono ?_
    rintro e x0 ⟨rfl, hk⟩
    have HS1 := Lib.hid (HS0.out.nw hk)
    have HN1 := Lib.hid (HN0.out.tr hk)
    clear hk
    obtain ⟨c0a, c0b⟩ := HS1.out.get (w.heap.size) (an) (ad) (by simp)
    go_wp2_with fail
    refine (hva _).mono ?_
    rintro e x1 ⟨rfl, hk⟩
    have HS2 := Lib.hid (HS1.out.nw hk)
    have HN2 := Lib.hid (HN1.out.tr hk)
    clear hk
    clear c0a c0b
    go_wp2_with fail
    go_ret
    exact ⟨rfl, HN2.out⟩
end Go.Proofs.Ytcgpaoindaabhaa.W
