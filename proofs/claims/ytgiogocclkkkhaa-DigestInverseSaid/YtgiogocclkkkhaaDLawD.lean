/-
  DigestInverse: the call of this law returns true and leaves all that was there as it was. Conditions: the arguments read as a list of bytes, as a number of 64 bits, as a text.
-/
import Derived.Test.YtgiogocclkkkhaaDLawC
namespace Go.Proofs.Ytgiogocclkkkhaa.W
open Go.RowKit Go.Proofs.Ytgiogocclkkkhaa.Pl

theorem OwnB.far {w : World} {B b k : Nat} {v u : Value} {l : List Int} (h : OwnB w B v l) (hne : v.ownBlock ≠ some b) : OwnB (w.setCell ⟨b, k, none⟩ u) B v l :=
  h.grown (grown_setCell w b k u) (.inr hne)
theorem own_ne_of {w : World} {B b : Nat} {v : Value} {l : List Int} (h : OwnB w B v l) (hb : b < B) : v.ownBlock ≠ some b := fun e => by
  have := h.from_ b e
  omega
theorem prs_text {h : Int} (hh : U64 h) : prsV (strL (strOfNums (hexL h))) = h ∧ prsE (strL (strOfNums (hexL h))) = 0 := by
  rw [strL_of (hexL_by h)]
  exact prs_some (prs_hexL hh)
theorem prs_back {s : ByteArray} (h : prsE (strL s) = 0) : strOfNums (hexL (prsV (strL s))) = s ∧ U64 (prsV (strL s)) := by
  cases hp : prs (strL s) with
  | none =>
    rw [(prs_none hp).2] at h
    cases h
  | some m =>
    obtain ⟨h1, h2⟩ := hexL_prs hp
    rw [(prs_some hp).1]
    exact ⟨by rw [h2, strOf_strL], h1⟩
theorem prsE_ne {l : List Int} (h : prsE l ≠ 0) : prsE l = 3 := by
  unfold prsE at h ⊢
  split
  · rename_i e
    rw [if_pos e] at h
    exact absurd rfl h
  · rfl
theorem opnE_ne {l : List Int} (h : opnE l ≠ 0) : (opnE l == 0) = false := by simpa using h

set_option maxRecDepth 100000 in
set_option maxHeartbeats 3200000 in
theorem inverse_walk (v : Value) (g : Nat) (l : List Int) (h : Int) (s : ByteArray) (w : World) (hv : Rest w g v l) (hb : By l) (hh : U64 h) :
    Calls Try.prog 9 #[v, .int .u64 h, .string s] w fun e w' => e = .returned (.bool true) ∧ Below w.heap.size w w' := by
  have hsr := restSrc hv
  have hbs := sealL_by hb
  obtain ⟨t, ht⟩ : ∃ t, decide (l.length ≤ 400) = t := ⟨_, rfl⟩
  have HT := Lib.hid ht
  clear ht
  cases t with
  | false =>
    go_enter Try.func9, Try.ntmps9
    go_wp2_with (first
      | (go_at_call 18; ((with_reducible refine (awake2_any _).mono ?_); rintro e w1 ⟨rfl, hb1⟩))
      | (go_at_call 19; ((with_reducible refine (few_any _ l _ (hsr.below hb1)).mono ?_); rintro e w2 ⟨rfl, rfl⟩; rw [HT.out])))
    go_ret
    exact ⟨rfl, hb1⟩
  | true =>
    by_cases h400 : s.size ≤ 400
    · have hgt : decide ((400 : Int) < (s.size : Int)) = false := decide_eq_false (by omega)
      have hl : l.length ≤ 100000 := by have := of_decide_eq_true HT.out; omega
      have hl8 : (sealL l).length ≤ 100000 := by rw [sealL_length]; have := of_decide_eq_true HT.out; omega
      have hpos : 0 < (sealL l).length := by rw [sealL_length]; omega
      obtain ⟨so1, so2⟩ := opn_seal l
      have SO1 := Lib.hid so1
      have SO2 := Lib.hid so2
      obtain ⟨n, hn⟩ : ∃ n, n = (sealL l).length := ⟨_, rfl⟩
      have hn1 : n ≤ 100000 := by omega
      have HN := Lib.hid hn
      clear h400 so1 so2 hn
      go_enter Try.func9, Try.ntmps9
      go_wp2_with (first
        | (go_at_call 18; ((with_reducible refine (awake2_any _).mono ?_); rintro e w1 ⟨rfl, hb1⟩; have hsr1 := hsr.below hb1))
        | (go_at_call 19; ((with_reducible refine (few_any _ l _ hsr1).mono ?_); rintro e w2 ⟨rfl, rfl⟩; rw [HT.out]))
        | (go_at_call 27; ((with_reducible refine (seal_any _ l _ hsr1 hb hl).mono ?_); rintro e w2 ⟨u2, rfl, own2, hb2⟩; obtain ⟨g8, cp, rfl, hg8, hg8', hc8, hc8'⟩ := own2.form hpos; rw [← HN.out] at own2 hc8 ⊢; obtain ⟨g2, hr2⟩ := restOf own2 hb2.size))
        | (go_at_call 24; ((with_reducible refine (open_any _ g2 _ _ hr2 hbs hl8).mono ?_); rintro e w3 ⟨u3, rfl, own3, hb3⟩; rw [SO2.out] at own3; rw [SO1.out]; have own23 := own2.below hb3; have b3 := hb2.trans (hb3.mono hb2.size))))
      have hgu3 := own_ne_of own3 hg8'
      have HO := Lib.hid own23
      have HO3 := Lib.hid own3
      clear own23 own3 own2 hr2
      go_loopw [10] (fun i wr => ∃ (k : Nat) (L : List Int), k ≤ n ∧ i = .int .i64 k ∧ Hid (L.length = n) ∧ Hid (OwnB wr w1.heap.size (.slice (some ⟨g8, 0, none⟩) n cp) L) ∧ Hid (OwnB wr w2.heap.size u3 l) ∧ Below w1.heap.size w1 wr) (fun i _ => n - (intOf i).toNat)
      case atStart => exact ⟨0, sealL l, by omega, rfl, Lib.hid HN.out.symm, HO, HO3, b3⟩
      case round =>
        obtain ⟨k, L, hk, rfl, HL, HO, HO3, hbr⟩ := hrel
        by_cases hlt : k < n
        · obtain ⟨x, hx⟩ := some_at (l := L) (k := k) (by rw [HL.out]; exact hlt)
          obtain ⟨x4, f4⟩ := HO.out.cell hx
          clear hx
          go_wp2
          refine ⟨⟨k + 1, L.set k _, by omega, by go_num, Lib.hid (by rw [List.length_set]; exact HL.out), Lib.hid (HO.out.set_ k _), Lib.hid (HO3.out.far hgu3), hbr.setCell hg8 _⟩, by simp [intOf]; omega⟩
        · obtain rfl : k = n := by omega
          have own3 := HO3.out
          have bw : Below w.heap.size w wr := hb1.trans (hbr.mono hb1.size)
          have hrw := restBelow (restBelow hv hb1) hbr
          have hsw := hsr1.below hbr
          have hl5 : (opnV l).length ≤ 100000 := Nat.le_trans (opn_length l) hl
          have hby5 := opn_by hb
          by_cases hE : opnE l = 0
          · have HE := Lib.hid hE
            have HS := Lib.hid (seal_opn hE)
            clear hE
            by_cases hP : prsE (strL s) = 0
            · obtain ⟨p1, p2⟩ := prs_back hP
              have P1 := Lib.hid p1
              have HP := Lib.hid hP
              have T := Lib.hid (prs_text hh)
              clear hP p1
              go_wp2_with (first
                | (go_at_call 26; ((with_reducible refine (same_true u3 v l _ own3.src hsw hb).mono ?_); rintro e w5 ⟨rfl, rfl⟩))
                | (go_at_call 24; ((with_reducible refine (open_any v g l _ hrw hb hl).mono ?_); rintro e w5 ⟨u5, rfl, own5, hb5⟩; rw [HE.out]; have b5 := bw.trans (hb5.mono bw.size)))
                | (go_at_call 27; ((with_reducible refine (seal_any u5 (opnV l) _ own5.src hby5 hl5).mono ?_); rintro e w6 ⟨u6, rfl, own6, hb6⟩; rw [HS.out] at own6; have b6 := b5.trans (hb6.mono b5.size); have hs6 := hsr.below b6))
                | (go_at_call 26; ((with_reducible refine (same_true u6 v l _ own6.src hs6 hb).mono ?_); rintro e w7 ⟨rfl, rfl⟩))
                | (go_at_call 31; ((with_reducible refine (digits_any h _ hh).mono ?_); rintro e w8 ⟨rfl, hb8⟩; have b8 := b6.trans (hb8.mono b6.size)))
                | (go_at_call 29; ((with_reducible refine (parse_any (strOfNums (hexL h)) _).mono ?_); rintro e w9 ⟨rfl, hb9⟩; rw [T.out.1, T.out.2]; have b9 := b8.trans (hb9.mono b8.size)))
                | (go_at_call 29; ((with_reducible refine (parse_any s _).mono ?_); rintro e w10 ⟨rfl, hb10⟩; rw [HP.out]; have b10 := b9.trans (hb10.mono b9.size)))
                | (go_at_call 31; ((with_reducible refine (digits_any (prsV (strL s)) _ p2).mono ?_); rintro e w11 ⟨rfl, hb11⟩; rw [P1.out]; have b11 := b10.trans (hb11.mono b10.size))))
              go_ret
              exact ⟨rfl, b11⟩
            · have HP := Lib.hid (prsE_ne hP)
              have T := Lib.hid (prs_text hh)
              clear hP
              go_wp2_with (first
                | (go_at_call 26; ((with_reducible refine (same_true u3 v l _ own3.src hsw hb).mono ?_); rintro e w5 ⟨rfl, rfl⟩))
                | (go_at_call 24; ((with_reducible refine (open_any v g l _ hrw hb hl).mono ?_); rintro e w5 ⟨u5, rfl, own5, hb5⟩; rw [HE.out]; have b5 := bw.trans (hb5.mono bw.size)))
                | (go_at_call 27; ((with_reducible refine (seal_any u5 (opnV l) _ own5.src hby5 hl5).mono ?_); rintro e w6 ⟨u6, rfl, own6, hb6⟩; rw [HS.out] at own6; have b6 := b5.trans (hb6.mono b5.size); have hs6 := hsr.below b6))
                | (go_at_call 26; ((with_reducible refine (same_true u6 v l _ own6.src hs6 hb).mono ?_); rintro e w7 ⟨rfl, rfl⟩))
                | (go_at_call 31; ((with_reducible refine (digits_any h _ hh).mono ?_); rintro e w8 ⟨rfl, hb8⟩; have b8 := b6.trans (hb8.mono b6.size)))
                | (go_at_call 29; ((with_reducible refine (parse_any (strOfNums (hexL h)) _).mono ?_); rintro e w9 ⟨rfl, hb9⟩; rw [T.out.1, T.out.2]; have b9 := b8.trans (hb9.mono b8.size)))
                | (go_at_call 29; ((with_reducible refine (parse_any s _).mono ?_); rintro e w10 ⟨rfl, hb10⟩; rw [HP.out]; have b10 := b9.trans (hb10.mono b9.size))))
              go_ret
              exact ⟨rfl, b10⟩
          · have HE := opnE_ne hE
            clear hE
            by_cases hP : prsE (strL s) = 0
            · obtain ⟨p1, p2⟩ := prs_back hP
              have P1 := Lib.hid p1
              have HP := Lib.hid hP
              have T := Lib.hid (prs_text hh)
              clear hP p1
              go_wp2_with (first
                | (go_at_call 26; ((with_reducible refine (same_true u3 v l _ own3.src hsw hb).mono ?_); rintro e w5 ⟨rfl, rfl⟩))
                | (go_at_call 24; ((with_reducible refine (open_any v g l _ hrw hb hl).mono ?_); rintro e w5 ⟨u5, rfl, own5, hb5⟩; have b5 := bw.trans (hb5.mono bw.size)))
                | (go_at_call 31; ((with_reducible refine (digits_any h _ hh).mono ?_); rintro e w8 ⟨rfl, hb8⟩; have b8 := b5.trans (hb8.mono b5.size)))
                | (go_at_call 29; ((with_reducible refine (parse_any (strOfNums (hexL h)) _).mono ?_); rintro e w9 ⟨rfl, hb9⟩; rw [T.out.1, T.out.2]; have b9 := b8.trans (hb9.mono b8.size)))
                | (go_at_call 29; ((with_reducible refine (parse_any s _).mono ?_); rintro e w10 ⟨rfl, hb10⟩; rw [HP.out]; have b10 := b9.trans (hb10.mono b9.size)))
                | (go_at_call 31; ((with_reducible refine (digits_any (prsV (strL s)) _ p2).mono ?_); rintro e w11 ⟨rfl, hb11⟩; rw [P1.out]; have b11 := b10.trans (hb11.mono b10.size))))
              go_ret
              exact ⟨rfl, b11⟩
            · have HP := Lib.hid (prsE_ne hP)
              have T := Lib.hid (prs_text hh)
              clear hP
              go_wp2_with (first
                | (go_at_call 26; ((with_reducible refine (same_true u3 v l _ own3.src hsw hb).mono ?_); rintro e w5 ⟨rfl, rfl⟩))
                | (go_at_call 24; ((with_reducible refine (open_any v g l _ hrw hb hl).mono ?_); rintro e w5 ⟨u5, rfl, own5, hb5⟩; have b5 := bw.trans (hb5.mono bw.size)))
                | (go_at_call 31; ((with_reducible refine (digits_any h _ hh).mono ?_); rintro e w8 ⟨rfl, hb8⟩; have b8 := b5.trans (hb8.mono b5.size)))
                | (go_at_call 29; ((with_reducible refine (parse_any (strOfNums (hexL h)) _).mono ?_); rintro e w9 ⟨rfl, hb9⟩; rw [T.out.1, T.out.2]; have b9 := b8.trans (hb9.mono b8.size)))
                | (go_at_call 29; ((with_reducible refine (parse_any s _).mono ?_); rintro e w10 ⟨rfl, hb10⟩; rw [HP.out]; have b10 := b9.trans (hb10.mono b9.size))))
              go_ret
              exact ⟨rfl, b10⟩
    · have hgt : decide ((400 : Int) < (s.size : Int)) = true := decide_eq_true (by omega)
      clear h400
      go_enter Try.func9, Try.ntmps9
      go_wp2_with (first
        | (go_at_call 18; ((with_reducible refine (awake2_any _).mono ?_); rintro e w1 ⟨rfl, hb1⟩))
        | (go_at_call 19; ((with_reducible refine (few_any _ l _ (hsr.below hb1)).mono ?_); rintro e w2 ⟨rfl, rfl⟩; rw [HT.out])))
      go_ret
      exact ⟨rfl, hb1⟩
end Go.Proofs.Ytgiogocclkkkhaa.W
