/-
  DigestByte: the call of this law returns true and leaves all that was there as it was. Conditions: the arguments read as a list of bytes, as numbers.
-/
import Derived.Test.YtgiogocclkkkhaaDLawB
namespace Go.Proofs.Ytgiogocclkkkhaa.W
open Go.RowKit Go.Proofs.Ytgiogocclkkkhaa.Pl

theorem one_two {w : World} {b : Nat} {x y : Value} {t : TypeId} (h : w.heap[b]? = some (.cells #[x, y] t (0, 0))) : w.cell? ⟨b, 0, none⟩ = some x ∧ w.cell? ⟨b, 1, none⟩ = some y := by
  have := two_cell h
  exact ⟨this.1, this.2.1⟩

theorem restOf {w : World} {B : Nat} {v : Value} {l : List Int} (h : OwnB w B v l) (hB : B ≤ w.heap.size) : ∃ g, Rest w g v l := by
  obtain ⟨_, _, g, _, _, h, _⟩ := h.rest_ hB
  exact ⟨g, h⟩
theorem xor_byte {x d : Int} (hx : 0 ≤ x ∧ x < 256) (hd : 0 ≤ d ∧ d < 256) (h0 : ¬ d = 0) : ∃ y, bits BinOp.xor IntKind.u8 x d = y ∧ (0 ≤ y ∧ y < 256) ∧ x ≠ y := by
  obtain ⟨a, rfl⟩ := Int.eq_ofNat_of_zero_le hx.1
  obtain ⟨b, rfl⟩ := Int.eq_ofNat_of_zero_le hd.1
  have ha : a < 2 ^ 8 := by omega
  have hb : b < 2 ^ 8 := by omega
  have hlt := Nat.xor_lt_two_pow ha hb
  refine ⟨((a ^^^ b : Nat) : Int), u8_xor_nat a b (by omega) (by omega), by omega, fun e => h0 ?_⟩
  have e2 : a = a ^^^ b := by omega
  have e3 : a ^^^ a = a ^^^ (a ^^^ b) := by rw [← e2]
  rw [Nat.xor_self, ← Nat.xor_assoc, Nat.xor_self, Nat.zero_xor] at e3
  omega
theorem By.set_ {l : List Int} (h : By l) (k : Nat) {y : Int} (hy : 0 ≤ y ∧ y < 256) : By (l.set k y) := fun x hx => by
  rcases List.mem_or_eq_of_mem_set hx with hx | rfl
  · exact h x hx
  · exact hy
theorem u64_byte {x : Int} (h : 0 ≤ x ∧ x < 256) : U64 x := ⟨h.1, by omega⟩
theorem mod_index {c : Int} {n : Nat} (hn : 0 < n) : ∃ k : Nat, c % (n : Int) = k ∧ k < n := by
  have h1 := Int.emod_nonneg c (b := (n : Int)) (by omega)
  have h2 := Int.emod_lt_of_pos c (b := (n : Int)) (by omega)
  exact ⟨(c % (n : Int)).toNat, by omega, by omega⟩
theorem some_at {l : List Int} {k : Nat} (h : k < l.length) : ∃ x, l[k]? = some x := ⟨l[k], List.getElem?_eq_getElem h⟩

set_option maxRecDepth 100000 in
set_option maxHeartbeats 3200000 in
theorem byte_walk (v : Value) (g : Nat) (l : List Int) (s c0 c1 : Int) (w : World) (hv : Rest w g v l) (hb : By l) (hs : U64 s) (h0 : 0 ≤ c0 ∧ c0 < 65536) (h1 : 0 ≤ c1 ∧ c1 < 65536) :
    Calls Try.prog 8 #[v, .int .u64 s, .agg #[.int .u16 c0, .int .u16 c1]] w fun e w' => e = .returned (.bool true) ∧ Below w.heap.size w w' := by
  have hsr := restSrc hv
  obtain ⟨A, c, rfl⟩ := hsr.shape
  clear hv
  have hbs := sealL_by hb
  have q0 : (w.alloc (.cells #[.int .u16 c0, .int .u16 c1] 52)).cell? ⟨w.heap.size, 0, none⟩ = some (.int .u16 c0) := (one_two (heap_alloc_new w _)).1
  have q1 : (w.alloc (.cells #[.int .u16 c0, .int .u16 c1] 52)).cell? ⟨w.heap.size, 1, none⟩ = some (.int .u16 c1) := (one_two (heap_alloc_new w _)).2
  have b0 : Below w.heap.size w (w.alloc (.cells #[.int .u16 c0, .int .u16 c1] 52)) := (Below.refl _ _).alloc (Nat.le_refl _) _
  have hz : w.heap.size < (w.alloc (.cells #[.int .u16 c0, .int .u16 c1] 52)).heap.size := by simp
  generalize hW : w.alloc (.cells #[.int .u16 c0, .int .u16 c1] 52) = wa at *
  have HW := Lib.hid hW
  clear hW
  obtain ⟨h00, h01⟩ := h0
  obtain ⟨h10, h11⟩ := h1
  obtain ⟨t, ht⟩ : ∃ t, decide (l.length ≤ 400) = t := ⟨_, rfl⟩
  have HT := Lib.hid ht
  clear ht
  cases t with
  | false =>
    go_enter Try.func8, Try.ntmps8
    go_wp2_with fail
    rw [HW.out]
    go_wp2_with (first
      | (go_at_call 18; ((with_reducible refine (awake2_any _).mono ?_); rintro e w1 ⟨rfl, hb1⟩; have k1 := (hb1.cell (p := ⟨w.heap.size, 1, none⟩) hz).trans q1; have b1 := b0.trans (hb1.mono b0.size)))
      | (go_at_call 19; ((with_reducible refine (few_any _ l _ (hsr.below b1)).mono ?_); rintro e w2 ⟨rfl, rfl⟩; rw [HT.out])))
    go_ret
    exact ⟨rfl, b1⟩
  | true =>
    have hl : l.length ≤ 100000 := by have := of_decide_eq_true HT.out; omega
    have hl2 : l.length ≤ 4611686018427387904 := by omega
    have hpos : 0 < (sealL l).length := by rw [sealL_length]; omega
    obtain ⟨d, hd⟩ : ∃ d, c1 % 256 = d := ⟨_, rfl⟩
    have hd1 : 0 ≤ d ∧ d < 256 := by omega
    by_cases hd0 : d = 0
    · have hdb : (c1 % 256 == 0) = true := by rw [hd, hd0]; rfl
      clear hd hd0 hd1
      go_enter Try.func8, Try.ntmps8
      go_wp2_with fail
      rw [HW.out]
      go_wp2_with (first
        | (go_at_call 18; ((with_reducible refine (awake2_any _).mono ?_); rintro e w1 ⟨rfl, hb1⟩; have k1 := (hb1.cell (p := ⟨w.heap.size, 1, none⟩) hz).trans q1; have b1 := b0.trans (hb1.mono b0.size)))
        | (go_at_call 19; ((with_reducible refine (few_any _ l _ (hsr.below b1)).mono ?_); rintro e w2 ⟨rfl, rfl⟩; rw [HT.out])))
      go_ret
      exact ⟨rfl, b1⟩
    · have hdb : (d == 0) = false := by simpa using hd0
      obtain ⟨k, hk, hk8⟩ := mod_index (c := c0) (n := l.length + 8) (by omega)
      have hk : c0 % ((l.length : Int) + 8) = (k : Int) := hk
      have hkL : k < (sealL l).length := by rw [sealL_length]; exact hk8
      obtain ⟨x, hx⟩ := some_at hkL
      have hxr := hbs x (List.mem_of_getElem? hx)
      obtain ⟨y, hy, hyr, hxy⟩ := xor_byte hxr hd1 hd0
      obtain ⟨e1, e2⟩ := opn_changed hx (u64_byte hxr) (u64_byte hyr) hxy
      have E1 := Lib.hid e1
      have E2 := Lib.hid e2
      have HX := Lib.hid hx
      have hby5 := By.set_ hbs k hyr
      have hlen5 : ((sealL l).set k y).length ≤ 100000 := by rw [List.length_set, sealL_length]; have := of_decide_eq_true HT.out; omega
      have HD0 := Lib.hid hd0
      clear hd0 e1 e2 hx hxy
      by_cases hl0 : l.length = 0
      · have hlb : ((l.length : Int) == 0) = true := by rw [hl0]; rfl
        clear hl0
        go_enter Try.func8, Try.ntmps8
        go_wp2_with fail
        rw [HW.out]
        go_wp2_with (first
          | (go_at_call 18; ((with_reducible refine (awake2_any _).mono ?_); rintro e w1 ⟨rfl, hb1⟩; have k1 := (hb1.cell (p := ⟨w.heap.size, 1, none⟩) hz).trans q1; have k0 := (hb1.cell (p := ⟨w.heap.size, 0, none⟩) hz).trans q0; have b1 := b0.trans (hb1.mono b0.size); have hz1 := Nat.lt_of_lt_of_le hz hb1.size; have hsr1 := hsr.below b1))
          | (go_at_call 19; ((with_reducible refine (few_any _ l _ hsr1).mono ?_); rintro e w2 ⟨rfl, rfl⟩; rw [HT.out]))
          | (go_at_call 27; ((with_reducible refine (seal_any _ l _ hsr1 hb hl).mono ?_); rintro e w4 ⟨u4, rfl, own4, hb4⟩; obtain ⟨g8, cp, rfl, hg8, hg8', hc8, hc8'⟩ := own4.form hpos; obtain ⟨x4, f4⟩ := own4.cell HX.out; have own5 := own4.set_ k y; rw [sealL_length] at own5 hc8 ⊢; have e0 := (hb4.cell (p := ⟨w.heap.size, 0, none⟩) hz1).trans k0; have b5 := hb4.setCell (p := ⟨g8, k, none⟩) hg8 (.int .u8 y); obtain ⟨g', hr5⟩ := restOf own5 b5.size))
          | (go_at_call 24; ((with_reducible refine (open_any _ g' _ _ hr5 hby5 hlen5).mono ?_); rintro e w6 ⟨u6, rfl, own6, hb6⟩; rw [E2.out] at own6; rw [E1.out]; obtain ⟨A6, c6, rfl⟩ := own6.src.shape; have b6 := b5.trans (hb6.mono b5.size))))
        go_ret
        exact ⟨rfl, b1.trans (b6.mono b1.size)⟩
      · have hlb : ((l.length : Int) == 0) = false := by simpa using hl0
        have hlp : 0 < l.length := by omega
        obtain ⟨j, hj, hjl⟩ := mod_index (c := c0) (n := l.length) hlp
        obtain ⟨z, hz0⟩ := some_at hjl
        have hzr := hb z (List.mem_of_getElem? hz0)
        obtain ⟨y2, hy2, hyr2, hzy⟩ := xor_byte hzr hd1 HD0.out
        have HZ := Lib.hid hz0
        have HNE := Lib.hid (sum_change (h := s) hz0 (u64_byte hzr) (u64_byte hyr2) hzy)
        have hby9 := By.set_ hb j hyr2
        have hlen9 : (l.set j y2).length ≤ 4611686018427387904 := by rw [List.length_set]; exact hl2
        clear hl0 hz0 hzy
        go_enter Try.func8, Try.ntmps8
        go_wp2_with fail
        rw [HW.out]
        go_wp2_with (first
          | (go_at_call 18; ((with_reducible refine (awake2_any _).mono ?_); rintro e w1 ⟨rfl, hb1⟩; have k1 := (hb1.cell (p := ⟨w.heap.size, 1, none⟩) hz).trans q1; have k0 := (hb1.cell (p := ⟨w.heap.size, 0, none⟩) hz).trans q0; have b1 := b0.trans (hb1.mono b0.size); have hz1 := Nat.lt_of_lt_of_le hz hb1.size; have hsr1 := hsr.below b1))
          | (go_at_call 19; ((with_reducible refine (few_any _ l _ hsr1).mono ?_); rintro e w2 ⟨rfl, rfl⟩; rw [HT.out]))
          | (go_at_call 27; ((with_reducible refine (seal_any _ l _ hsr1 hb hl).mono ?_); rintro e w4 ⟨u4, rfl, own4, hb4⟩; obtain ⟨g8, cp, rfl, hg8, hg8', hc8, hc8'⟩ := own4.form hpos; obtain ⟨x4, f4⟩ := own4.cell HX.out; have own5 := own4.set_ k y; rw [sealL_length] at own5 hc8 ⊢; have e0 := (hb4.cell (p := ⟨w.heap.size, 0, none⟩) hz1).trans k0; have b5 := hb4.setCell (p := ⟨g8, k, none⟩) hg8 (.int .u8 y); obtain ⟨g', hr5⟩ := restOf own5 b5.size))
          | (go_at_call 24; ((with_reducible refine (open_any _ g' _ _ hr5 hby5 hlen5).mono ?_); rintro e w6 ⟨u6, rfl, own6, hb6⟩; rw [E2.out] at own6; rw [E1.out]; obtain ⟨A6, c6, rfl⟩ := own6.src.shape; have b6 := b5.trans (hb6.mono b5.size); have b0' := b6.alloc b6.size (.cells (bytes []).toArray 5); have o0 := OwnB.lit w6 w1.heap.size [] b6.size (Nat.zero_le _)))
          | (at_builtin; refine wp_app rfl (.tmp 56) (.tmp 57) rfl w1.heap.size (.slice (some ⟨w6.heap.size, 0, none⟩) 0 0) (.slice A l.length c) [] l rfl o0 rfl (hsr1.below b0') ?_ b0'.size ?_; (simp; omega); intro v7 w7 own7 gr7; have b7 := b0'.trans (gr7.below b0'.size o0.from_); rw [List.nil_append] at own7; obtain ⟨g9, cp9, rfl, hg9, hg9', hc9, hc9'⟩ := own7.form hlp; obtain ⟨x7, f7⟩ := own7.cell HZ.out; have own8 := own7.set_ j y2; have e7 := (b7.cell (p := ⟨w.heap.size, 0, none⟩) hz1).trans k0; have b8 := b7.setCell (p := ⟨g9, j, none⟩) hg9 (.int .u8 y2); have src8 := own8.src; rw [List.length_set] at src8; have src9 := hsr1.below b8)
          | (go_at_call 22; ((with_reducible refine (from_any s _ (l.set j y2) _ hs ?_ hby9 hlen9).mono ?_); rw [List.length_set]; exact src8; rintro e w9 ⟨rfl, rfl⟩))
          | (go_at_call 22; ((with_reducible refine (from_any s _ l _ hs src9 hb hl2).mono ?_); rintro e w9 ⟨rfl, rfl⟩)))
        go_ret
        exact ⟨ret_bool (bne_iff_ne.2 HNE.out), b1.trans (b8.mono b1.size)⟩
end Go.Proofs.Ytgiogocclkkkhaa.W
