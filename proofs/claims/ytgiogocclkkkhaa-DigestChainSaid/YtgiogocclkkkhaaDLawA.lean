/-
  DigestOf, DigestChain, DigestSeeds, DigestText: the calls of these laws return true and leave all that was there as it was. Conditions: the arguments read as lists of bytes, as texts, as numbers of 64 bits.
-/
import Derived.Test.YtgiogocclkkkhaaDAwake
import Derived.Test.YtgiogocclkkkhaaDParseR
namespace Go.Proofs.Ytgiogocclkkkhaa.W
open Go.RowKit Go.Proofs.Ytgiogocclkkkhaa.Pl

set_option maxRecDepth 100000 in
set_option maxHeartbeats 800000 in
theorem of_walk (v : Value) (l : List Int) (s : Int) (w : World) (hv : Src w 1 v l.length (bytes l)) (hb : By l) (hl : l.length ≤ 140737488355328) (hs : U64 s) :
    Calls Try.prog 4 #[v, .int .u64 s] w fun e w' => e = .returned (.bool true) ∧ Below w.heap.size w w' := by
  have hl2 : l.length ≤ 4611686018427387904 := by omega
  obtain ⟨t, ht⟩ : ∃ t, decide (l.length ≤ 400) = t := ⟨_, rfl⟩
  have HT := Lib.hid ht
  clear ht
  cases t with
  | false =>
    go_enter Try.func4, Try.ntmps4
    go_wp2_with (first
      | (go_at_call 18; ((with_reducible refine (awake2_any _).mono ?_); rintro e w1 ⟨rfl, hb1⟩))
      | (go_at_call 19; ((with_reducible refine (few_any _ l _ (hv.below hb1)).mono ?_); rintro e w2 ⟨rfl, rfl⟩; rw [HT.out])))
    go_ret
    exact ⟨rfl, hb1⟩
  | true =>
    go_enter Try.func4, Try.ntmps4
    go_wp2_with (first
      | (go_at_call 18; ((with_reducible refine (awake2_any _).mono ?_); rintro e w1 ⟨rfl, hb1⟩))
      | (go_at_call 19; ((with_reducible refine (few_any _ l _ (hv.below hb1)).mono ?_); rintro e w2 ⟨rfl, rfl⟩; rw [HT.out]))
      | (go_at_call 20; ((with_reducible refine (of_any _ l _ (hv.below hb1) hb hl2).mono ?_); rintro e w2 ⟨rfl, rfl⟩))
      | (go_at_call 21; ((with_reducible refine (refOf_any _ l _ (hv.below hb1) hb hl2).mono ?_); rintro e w2 ⟨rfl, rfl⟩))
      | (go_at_call 22; ((with_reducible refine (from_any _ _ l _ hs (hv.below hb1) hb hl2).mono ?_); rintro e w2 ⟨rfl, rfl⟩))
      | (go_at_call 23; ((with_reducible refine (refFrom_any _ _ l _ hs (hv.below hb1) hb hl2).mono ?_); rintro e w2 ⟨rfl, rfl⟩)))
    go_ret
    exact ⟨rfl, hb1⟩

theorem beq_iff2 {a b c d : Int} (h : a = b ↔ c = d) : ((a == b) == (c == d)) = true := by
  by_cases h1 : a = b
  · have h2 := h.1 h1
    subst h1 h2
    simp
  · have e1 : (a == b) = false := by simpa using h1
    have e2 : (c == d) = false := by simpa using fun e => h1 (h.2 e)
    rw [e1, e2]
    rfl

set_option maxRecDepth 100000 in
set_option maxHeartbeats 800000 in
theorem seeds_walk (v : Value) (l : List Int) (x y : Int) (w : World) (hv : Src w 1 v l.length (bytes l)) (hb : By l) (hl : l.length ≤ 140737488355328) (hx : U64 x) (hy : U64 y) :
    Calls Try.prog 10 #[v, .int .u64 x, .int .u64 y] w fun e w' => e = .returned (.bool true) ∧ Below w.heap.size w w' := by
  have hl2 : l.length ≤ 4611686018427387904 := by omega
  obtain ⟨t, ht⟩ : ∃ t, decide (l.length ≤ 400) = t := ⟨_, rfl⟩
  have HT := Lib.hid ht
  have HQ := Lib.hid (beq_iff2 (a := sum x l) (b := sum y l) (c := x) (d := y) ⟨sum_inj l hx hy, fun e => by rw [e]⟩)
  clear ht
  cases t with
  | false =>
    go_enter Try.func10, Try.ntmps10
    go_wp2_with (first
      | (go_at_call 18; ((with_reducible refine (awake2_any _).mono ?_); rintro e w1 ⟨rfl, hb1⟩))
      | (go_at_call 19; ((with_reducible refine (few_any _ l _ (hv.below hb1)).mono ?_); rintro e w2 ⟨rfl, rfl⟩; rw [HT.out])))
    go_ret
    exact ⟨rfl, hb1⟩
  | true =>
    go_enter Try.func10, Try.ntmps10
    go_wp2_with (first
      | (go_at_call 18; ((with_reducible refine (awake2_any _).mono ?_); rintro e w1 ⟨rfl, hb1⟩))
      | (go_at_call 19; ((with_reducible refine (few_any _ l _ (hv.below hb1)).mono ?_); rintro e w2 ⟨rfl, rfl⟩; rw [HT.out]))
      | (go_at_call 22; ((with_reducible refine (from_any _ _ l _ (by assumption) (hv.below hb1) hb hl2).mono ?_); rintro e w2 ⟨rfl, rfl⟩)))
    go_ret
    exact ⟨ret_bool HQ.out, hb1⟩

set_option maxRecDepth 100000 in
set_option maxHeartbeats 1600000 in
theorem chain_walk (h : Int) (v u : Value) (l m : List Int) (w : World) (hh : U64 h) (hv : Src w 1 v l.length (bytes l)) (hb : By l) (hl : l.length ≤ 140737488355328) (hu : Src w 1 u m.length (bytes m)) (hc : By m) (hm : m.length ≤ 140737488355328) :
    Calls Try.prog 7 #[.int .u64 h, v, u] w fun e w' => e = .returned (.bool true) ∧ Below w.heap.size w w' := by
  have hl2 : l.length ≤ 4611686018427387904 := by omega
  have hm2 : m.length ≤ 4611686018427387904 := by omega
  have hlm : (l ++ m).length ≤ 4611686018427387904 := by rw [List.length_append]; omega
  have hbc := hb.append hc
  have h1 := sum_u64 h l hh
  have h2 := sum_u64 1 l u64_1
  obtain ⟨t, ht⟩ : ∃ t, decide (l.length ≤ 400) = t := ⟨_, rfl⟩
  obtain ⟨t', ht'⟩ : ∃ t', decide (m.length ≤ 400) = t' := ⟨_, rfl⟩
  have HT := Lib.hid ht
  have HT' := Lib.hid ht'
  have HA := Lib.hid (sum_append h l m)
  have HB := Lib.hid (sum_append 1 l m)
  clear ht ht'
  cases t with
  | false =>
    go_enter Try.func7, Try.ntmps7
    go_wp2_with (first
      | (go_at_call 18; ((with_reducible refine (awake2_any _).mono ?_); rintro e w1 ⟨rfl, hb1⟩))
      | (go_at_call 19; ((with_reducible refine (few_any _ l _ (hv.below hb1)).mono ?_); rintro e w2 ⟨rfl, rfl⟩; rw [HT.out])))
    go_ret
    exact ⟨rfl, hb1⟩
  | true =>
    cases t' with
    | false =>
      go_enter Try.func7, Try.ntmps7
      go_wp2_with (first
        | (go_at_call 18; ((with_reducible refine (awake2_any _).mono ?_); rintro e w1 ⟨rfl, hb1⟩))
        | (go_at_call 19; ((with_reducible refine (few_any v l _ (hv.below hb1)).mono ?_); rintro e w2 ⟨rfl, rfl⟩; rw [HT.out]))
        | (go_at_call 19; ((with_reducible refine (few_any u m _ (hu.below hb1)).mono ?_); rintro e w2 ⟨rfl, rfl⟩; rw [HT'.out])))
      go_ret
      exact ⟨rfl, hb1⟩
    | true =>
      go_enter Try.func7, Try.ntmps7
      go_wp2_with (first
        | (go_at_call 18; ((with_reducible refine (awake2_any _).mono ?_); rintro e w1 ⟨rfl, hb1⟩; have o0 := OwnB.lit w1 w.heap.size [] hb1.size (Nat.zero_le _); have b0 := hb1.alloc hb1.size (.cells (bytes []).toArray 5)))
        | (go_at_call 19; ((with_reducible refine (few_any v l _ (hv.below hb1)).mono ?_); rintro e w2 ⟨rfl, rfl⟩; rw [HT.out]))
        | (go_at_call 19; ((with_reducible refine (few_any u m _ (hu.below hb1)).mono ?_); rintro e w2 ⟨rfl, rfl⟩; rw [HT'.out]))
        | (at_builtin; refine wp_app rfl (.tmp 18) (.tmp 19) rfl w.heap.size (.slice (some ⟨w1.heap.size, 0, none⟩) 0 0) v [] l rfl o0 rfl (hv.below b0) ?_ b0.size ?_; (have := of_decide_eq_true HT.out; simp; omega); intro v3 w3 own3 gr3; have b3 := b0.trans (gr3.below b0.size o0.from_))
        | (at_builtin; refine wp_app rfl (.tmp 20) (.tmp 21) rfl w.heap.size v3 u _ m rfl own3 rfl (hu.below b3) ?_ b3.size ?_; (have := of_decide_eq_true HT.out; have := of_decide_eq_true HT'.out; simp; omega); intro v4 w4 own4 gr4; have b4 := b3.trans (gr4.below b3.size own3.from_); have hv4 := hv.below b4; have hu4 := hu.below b4; have hx4 := own4.src)
        | (go_at_call 22; ((with_reducible refine (from_any h v l _ hh hv4 hb hl2).mono ?_); rintro e w2 ⟨rfl, rfl⟩))
        | (go_at_call 22; ((with_reducible refine (from_any (sum h l) u m _ h1 hu4 hc hm2).mono ?_); rintro e w2 ⟨rfl, rfl⟩))
        | (go_at_call 22; ((with_reducible refine (from_any h v4 (l ++ m) _ hh hx4 hbc hlm).mono ?_); rintro e w2 ⟨rfl, rfl⟩; rw [HA.out]))
        | (go_at_call 22; ((with_reducible refine (from_any h (.slice none 0 0) [] _ hh (srcNil _ _) By.nil (Nat.zero_le _)).mono ?_); rintro e w2 ⟨rfl, rfl⟩; rw [sum_nil]))
        | (go_at_call 20; ((with_reducible refine (of_any v4 (l ++ m) _ hx4 hbc hlm).mono ?_); rintro e w2 ⟨rfl, rfl⟩; rw [HB.out]))
        | (go_at_call 20; ((with_reducible refine (of_any v l _ hv4 hb hl2).mono ?_); rintro e w2 ⟨rfl, rfl⟩))
        | (go_at_call 22; ((with_reducible refine (from_any (sum 1 l) u m _ h2 hu4 hc hm2).mono ?_); rintro e w2 ⟨rfl, rfl⟩)))
      go_ret
      exact ⟨rfl, b4⟩

set_option maxRecDepth 100000 in
set_option maxHeartbeats 800000 in
theorem text_walk (h : Int) (s : ByteArray) (w : World) (hh : U64 h) :
    Calls Try.prog 6 #[.int .u64 h, .string s] w fun e w' => e = .returned (.bool true) ∧ Below w.heap.size w w' := by
  by_cases h400 : s.size ≤ 400
  · go_enter Try.func6, Try.ntmps6
    go_wp2_with (first
      | (go_at_call 18; ((with_reducible refine (awake2_any _).mono ?_); rintro e w1 ⟨rfl, hb1⟩))
      | (go_at_call 29; ((with_reducible refine (parse_any s _).mono ?_); rintro e w2 ⟨rfl, hb2⟩))
      | (go_at_call 30; ((with_reducible refine (refParse_any s _).mono ?_); rintro e w3 ⟨rfl, rfl⟩))
      | (go_at_call 31; ((with_reducible refine (digits_any h _ hh).mono ?_); rintro e w3 ⟨rfl, hb3⟩))
      | (go_at_call 32; ((with_reducible refine (refDigits_any h _ hh).mono ?_); rintro e w4 ⟨rfl, hb4⟩)))
    go_ret
    have b2 := hb1.trans (hb2.mono hb1.size)
    have b3 := b2.trans (hb3.mono b2.size)
    exact ⟨rfl, b3.trans (hb4.mono b3.size)⟩
  · have hgt : decide ((400 : Int) < (s.size : Int)) = true := decide_eq_true (by omega)
    go_enter Try.func6, Try.ntmps6
    go_wp2_with (go_at_call 18; ((with_reducible refine (awake2_any _).mono ?_); rintro e w1 ⟨rfl, hb1⟩))
    go_ret
    exact ⟨rfl, hb1⟩
end Go.Proofs.Ytgiogocclkkkhaa.W
