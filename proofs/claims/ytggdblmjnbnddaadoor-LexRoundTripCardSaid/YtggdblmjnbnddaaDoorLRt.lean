/-
  The reference's token: the token at an offset, by Pl.rd, with its offset. Condition: at most 2^40 bytes.
-/
import Derived.Test.YtggdblmjnbnddaaDoorLRg
namespace Go.Proofs.YtggdblmjnbnddaaDoor.W
open Go.RowKit Go.Proofs.YtggdblmjnbnddaaDoor.Pl

set_option maxRecDepth 100000 in
set_option maxHeartbeats 6400000 in
theorem token_any (l : List UInt8) (a : Nat) (w : World) (hlen : l.length ≤ 1099511627776) (ha : a < l.length) :
    Calls Tryd.prog 25 #[.string (tx l), .int .i64 a] w fun e w' => e = .returned (rdV (rdAt a (rd (l.drop a)))) ∧ Nw w w' := by
  have hsz := tx_size l
  obtain ⟨c, hc⟩ : ∃ c, l[a]? = some c := ⟨l[a], List.getElem?_eq_getElem ha⟩
  have hm : l.drop a = c :: l.drop (a + 1) := by
    obtain ⟨h1, h2⟩ := List.getElem?_eq_some_iff.1 hc
    rw [List.drop_eq_getElem_cons h1, h2]
  have hrd := rd_cons c (l.drop (a + 1))
  rw [← hm] at hrd
  have hcb : c.toNat < 256 := c.toNat_lt
  have hix0 : ∀ W : World, (Instr.index 9 (.string (tx l)) (.int .i64 (a : Int))).run Tryd.prog W = .ok (.int .u8 c.toNat) W := run_tx_at l a c hc
  have hnum := fun w1 => number_any l a c w1 hlen hc
  have hnam := fun w1 => named_any l a w1 hlen (by omega)
  have hle := cw_le wordI (l.drop a)
  rw [List.length_drop] at hle
  have hcut : ∀ b, (tx l).extract a (a + b) = tx ((l.drop a).take b) := fun b => by rw [tx_cut, Nat.add_sub_cancel_left]
  have hone : (l.drop a).take 1 = [c] := by rw [hm]; rfl
  generalize l.drop a = m at *
  generalize l.length = n at *
  have HM := Lib.hid hm
  clear hm hc
  cases h1 : ltrI c.toNat
  · have H1 := Lib.hid h1
    cases h2 : digI c.toNat
    · have H2 := Lib.hid h2
      have h45 : ((c.toNat : Int) = 45) ↔ (c == 45) = true := by
        rw [beq_iff_eq]
        exact ⟨fun e => UInt8.toNat_inj.1 (by simp; omega), fun e => by subst e; rfl⟩
      cases h3 : (c == 45)
      · have hn45 : ¬ (c.toNat : Int) = 45 := fun e => by rw [h45.1 e] at h3; cases h3
        have hto := hcut 1
        rw [hone] at hto
        cases h4 : markB c
        · have H4 := Lib.hid h4
          have HR := Lib.hid (show rd m = (.zero, 0, 3) by rw [hrd, h1, h2, h3, h4]; rfl)
          clear h1 h2 h3 h4 h45 hnum hnam hrd hcut hone
          go_enter Tryd.func25, Tryd.ntmps25
          go_wp2_with (first | (go_at_call 31; refine (letter_any _ _).mono ?_; rintro e w1 ⟨rfl, rfl⟩; rw [H1.out]) | (go_at_call 38; refine (digit_any _ _).mono ?_; rintro e w1 ⟨rfl, rfl⟩; rw [H2.out]) | (go_at_call 40; refine (mark_any _ _).mono ?_; rintro e w1 ⟨rfl, rfl⟩; rw [H4.out]))
          exact bodyPost_ret (v := rdV (.zero, 0, 3)) (by simp [results, Tryd.results25, go_sem, rdV, tkV, Tk.zero, tx]) rfl ⟨by rw [HR.out]; rfl, (Kp.refl _ _).alloc _⟩
        · have H4 := Lib.hid h4
          have HR := Lib.hid (show rd m = (⟨3, [c], 0, 0⟩, 1, 0) by rw [hrd, h1, h2, h3, h4]; rfl)
          clear h1 h2 h3 h4 h45 hnum hnam hrd hcut hone
          have HT := Lib.hid hto
          clear hto
          go_enter Tryd.func25, Tryd.ntmps25
          go_wp2_with (first | (go_at_call 31; refine (letter_any _ _).mono ?_; rintro e w1 ⟨rfl, rfl⟩; rw [H1.out]) | (go_at_call 38; refine (digit_any _ _).mono ?_; rintro e w1 ⟨rfl, rfl⟩; rw [H2.out]) | (go_at_call 40; refine (mark_any _ _).mono ?_; rintro e w1 ⟨rfl, rfl⟩; rw [H4.out]))
          exact bodyPost_ret (v := rdV (⟨3, [c], 0, a⟩, 1, 0)) (by simp [results, Tryd.results25, go_sem, rdV, tkV, HT.out]) rfl ⟨by rw [HR.out]; rfl, (Kp.refl _ _).alloc _⟩
      · have hc45 : ((c.toNat : Int) == 45) = true := by rw [h45.2 h3]; rfl
        have hnum := fun w1 => hnum w1 (by rw [h3, Bool.or_true])
        have HR := Lib.hid (show rd m = rdNum m by rw [hrd, h1, h2, h3]; rfl)
        clear h1 h2 h3 h45 hnam hrd hcut hone
        rcases rdNum_three m with hq | hq | ⟨v, k, hq⟩
        · have HQ := Lib.hid hq
          clear hq
          go_enter Tryd.func25, Tryd.ntmps25
          go_wp2_with (first | (go_at_call 31; refine (letter_any _ _).mono ?_; rintro e w1 ⟨rfl, rfl⟩; rw [H1.out]) | (go_at_call 38; refine (digit_any _ _).mono ?_; rintro e w1 ⟨rfl, rfl⟩; rw [H2.out]) | (go_at_call 39; refine (hnum _).mono ?_; rintro e w1 ⟨rfl, rfl⟩; rw [HQ.out]; unfold numV))
          exact bodyPost_ret (v := rdV (.zero, 0, 3)) (by simp [results, Tryd.results25, go_sem, rdV, tkV, Tk.zero, tx]) rfl ⟨by rw [HR.out, HQ.out]; rfl, (Kp.refl _ _).alloc _⟩
        · have HQ := Lib.hid hq
          clear hq
          go_enter Tryd.func25, Tryd.ntmps25
          go_wp2_with (first | (go_at_call 31; refine (letter_any _ _).mono ?_; rintro e w1 ⟨rfl, rfl⟩; rw [H1.out]) | (go_at_call 38; refine (digit_any _ _).mono ?_; rintro e w1 ⟨rfl, rfl⟩; rw [H2.out]) | (go_at_call 39; refine (hnum _).mono ?_; rintro e w1 ⟨rfl, rfl⟩; rw [HQ.out]; unfold numV))
          exact bodyPost_ret (v := rdV (.zero, 0, 9)) (by simp [results, Tryd.results25, go_sem, rdV, tkV, Tk.zero, tx]) rfl ⟨by rw [HR.out, HQ.out]; rfl, (Kp.refl _ _).alloc _⟩
        · have HQ := Lib.hid hq
          clear hq
          go_enter Tryd.func25, Tryd.ntmps25
          go_wp2_with (first | (go_at_call 31; refine (letter_any _ _).mono ?_; rintro e w1 ⟨rfl, rfl⟩; rw [H1.out]) | (go_at_call 38; refine (digit_any _ _).mono ?_; rintro e w1 ⟨rfl, rfl⟩; rw [H2.out]) | (go_at_call 39; refine (hnum _).mono ?_; rintro e w1 ⟨rfl, rfl⟩; rw [HQ.out]; unfold numV))
          exact bodyPost_ret (v := rdV (⟨2, [], v, a⟩, k, 0)) (by simp [results, Tryd.results25, go_sem, rdV, tkV, tx]) rfl ⟨by rw [HR.out, HQ.out]; rfl, (Kp.refl _ _).alloc _⟩
    · have H2 := Lib.hid h2
      have hnum := fun w1 => hnum w1 (by rw [h2]; rfl)
      have HR := Lib.hid (show rd m = rdNum m by rw [hrd, h1, h2]; rfl)
      clear h1 h2 hnam hrd hcut hone
      rcases rdNum_three m with hq | hq | ⟨v, k, hq⟩
      · have HQ := Lib.hid hq
        clear hq
        go_enter Tryd.func25, Tryd.ntmps25
        go_wp2_with (first | (go_at_call 31; refine (letter_any _ _).mono ?_; rintro e w1 ⟨rfl, rfl⟩; rw [H1.out]) | (go_at_call 38; refine (digit_any _ _).mono ?_; rintro e w1 ⟨rfl, rfl⟩; rw [H2.out]) | (go_at_call 39; refine (hnum _).mono ?_; rintro e w1 ⟨rfl, rfl⟩; rw [HQ.out]; unfold numV))
        exact bodyPost_ret (v := rdV (.zero, 0, 3)) (by simp [results, Tryd.results25, go_sem, rdV, tkV, Tk.zero, tx]) rfl ⟨by rw [HR.out, HQ.out]; rfl, (Kp.refl _ _).alloc _⟩
      · have HQ := Lib.hid hq
        clear hq
        go_enter Tryd.func25, Tryd.ntmps25
        go_wp2_with (first | (go_at_call 31; refine (letter_any _ _).mono ?_; rintro e w1 ⟨rfl, rfl⟩; rw [H1.out]) | (go_at_call 38; refine (digit_any _ _).mono ?_; rintro e w1 ⟨rfl, rfl⟩; rw [H2.out]) | (go_at_call 39; refine (hnum _).mono ?_; rintro e w1 ⟨rfl, rfl⟩; rw [HQ.out]; unfold numV))
        exact bodyPost_ret (v := rdV (.zero, 0, 9)) (by simp [results, Tryd.results25, go_sem, rdV, tkV, Tk.zero, tx]) rfl ⟨by rw [HR.out, HQ.out]; rfl, (Kp.refl _ _).alloc _⟩
      · have HQ := Lib.hid hq
        clear hq
        go_enter Tryd.func25, Tryd.ntmps25
        go_wp2_with (first | (go_at_call 31; refine (letter_any _ _).mono ?_; rintro e w1 ⟨rfl, rfl⟩; rw [H1.out]) | (go_at_call 38; refine (digit_any _ _).mono ?_; rintro e w1 ⟨rfl, rfl⟩; rw [H2.out]) | (go_at_call 39; refine (hnum _).mono ?_; rintro e w1 ⟨rfl, rfl⟩; rw [HQ.out]; unfold numV))
        exact bodyPost_ret (v := rdV (⟨2, [], v, a⟩, k, 0)) (by simp [results, Tryd.results25, go_sem, rdV, tkV, tx]) rfl ⟨by rw [HR.out, HQ.out]; rfl, (Kp.refl _ _).alloc _⟩
  · have H1 := Lib.hid h1
    have hR : rd m = rdName m := by rw [hrd, h1]; rfl
    unfold rdName at hR
    have hto := hcut (cw wordI m)
    generalize cw wordI m = k at *
    generalize hT : m.take k = T at *
    have HT := Lib.hid hto
    clear hto hT h1 hnum hrd hcut hone
    by_cases h16 : 16 < k
    · rw [if_pos h16] at hR
      have HR := Lib.hid hR
      clear hR
      go_enter Tryd.func25, Tryd.ntmps25
      go_wp2_with (first | (go_at_call 31; refine (letter_any _ _).mono ?_; rintro e w1 ⟨rfl, rfl⟩; rw [H1.out]) | (go_at_call 32; refine (hnam _).mono ?_; rintro e w1 ⟨rfl, rfl⟩))
      exact bodyPost_ret (v := rdV (.zero, 0, 9)) (by simp [results, Tryd.results25, go_sem, rdV, tkV, Tk.zero, tx]) rfl ⟨by rw [HR.out]; rfl, (Kp.refl _ _).alloc _⟩
    · rw [if_neg h16] at hR
      have HR := Lib.hid hR
      clear hR
      go_enter Tryd.func25, Tryd.ntmps25
      go_wp2_with (first | (go_at_call 31; refine (letter_any _ _).mono ?_; rintro e w1 ⟨rfl, rfl⟩; rw [H1.out]) | (go_at_call 32; refine (hnam _).mono ?_; rintro e w1 ⟨rfl, rfl⟩))
      exact bodyPost_ret (v := rdV (⟨1, T, 0, a⟩, k, 0)) (by simp [results, Tryd.results25, go_sem, rdV, tkV, HT.out]) rfl ⟨by rw [HR.out]; rfl, (Kp.refl _ _).alloc _⟩
end Go.Proofs.YtggdblmjnbnddaaDoor.W