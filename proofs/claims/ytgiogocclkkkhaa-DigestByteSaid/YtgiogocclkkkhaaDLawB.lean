/-
  DigestSeal, DigestByte, DigestInverse: the calls of these laws return true and leave all that was there as it was. Conditions: the arguments read as lists of bytes, as texts, as numbers of 64 bits.
-/
import Derived.Test.YtgiogocclkkkhaaDAwake
import Derived.Test.YtgiogocclkkkhaaDParseR
import Derived.Test.YtgiogocclkkkhaaDOpenP
import Derived.Test.YtgiogocclkkkhaaDOpenR
import Derived.Test.YtgiogocclkkkhaaDArg
namespace Go.Proofs.Ytgiogocclkkkhaa.W
open Go.RowKit Go.Proofs.Ytgiogocclkkkhaa.Pl

theorem restBelow {w w' : World} {g : Nat} {v : Value} {l : List Int} (h : Rest w g v l) (hb : Below w.heap.size w w') : Rest w' g v l := h.keep fun _ hlt => hb.block g hlt

set_option maxRecDepth 100000 in
set_option maxHeartbeats 1600000 in
theorem seal_walk (v : Value) (g : Nat) (l : List Int) (w : World) (hv : Rest w g v l) (hb : By l) :
    Calls Try.prog 5 #[v] w fun e w' => e = .returned (.bool true) ∧ Below w.heap.size w w' := by
  have hsr := restSrc hv
  have hby := opn_by hb
  have hbs := sealL_by hb
  obtain ⟨t, ht⟩ : ∃ t, decide (l.length ≤ 400) = t := ⟨_, rfl⟩
  have HT := Lib.hid ht
  clear ht
  cases t with
  | false =>
    go_enter Try.func5, Try.ntmps5
    go_wp2_with (first
      | (go_at_call 18; ((with_reducible refine (awake2_any _).mono ?_); rintro e w1 ⟨rfl, hb1⟩))
      | (go_at_call 19; ((with_reducible refine (few_any _ l _ (hsr.below hb1)).mono ?_); rintro e w2 ⟨rfl, rfl⟩; rw [HT.out])))
    go_ret
    exact ⟨rfl, hb1⟩
  | true =>
    have hl : l.length ≤ 100000 := by have := of_decide_eq_true HT.out; omega
    go_enter Try.func5, Try.ntmps5
    go_wp2_with (first
      | (go_at_call 18; ((with_reducible refine (awake2_any _).mono ?_); rintro e w1 ⟨rfl, hb1⟩))
      | (go_at_call 19; ((with_reducible refine (few_any _ l _ (hsr.below hb1)).mono ?_); rintro e w2 ⟨rfl, rfl⟩; rw [HT.out]))
      | (go_at_call 24; ((with_reducible refine (open_any _ g l _ (restBelow hv hb1) hb hl).mono ?_); rintro e w2 ⟨u2, rfl, own2, hb2⟩; have b2 := hb1.trans (hb2.mono hb1.size)))
      | (go_at_call 25; ((with_reducible refine (refOpen_any _ g l _ (restBelow hv b2) hb hl).mono ?_); rintro e w3 ⟨u3, rfl, own3, hb3⟩; have b3 := b2.trans (hb3.mono b2.size); have own23 := own2.below hb3))
      | (go_at_call 27; ((with_reducible refine (seal_any _ l _ (hsr.below b3) hb hl).mono ?_); rintro e w4 ⟨u4, rfl, own4, hb4⟩; have b4 := b3.trans (hb4.mono b3.size); have own24 := own23.below hb4; have own34 := own3.below hb4))
      | (go_at_call 28; ((with_reducible refine (refSeal_any _ l _ (hsr.below b4) hb hl).mono ?_); rintro e w5 ⟨u5, rfl, own5, hb5⟩; have b5 := b4.trans (hb5.mono b4.size); have own25 := own24.below hb5; have own35 := own34.below hb5; have own45 := own4.below hb5))
      | (go_at_call 26; ((with_reducible refine (same_true u4 u5 (sealL l) _ own45.src own5.src hbs).mono ?_); rintro e w6 ⟨rfl, rfl⟩))
      | (go_at_call 26; ((with_reducible refine (same_true u2 u3 (opnV l) _ own25.src own35.src hby).mono ?_); rintro e w6 ⟨rfl, rfl⟩)))
    go_ret
    exact ⟨rfl, b5⟩
end Go.Proofs.Ytgiogocclkkkhaa.W
