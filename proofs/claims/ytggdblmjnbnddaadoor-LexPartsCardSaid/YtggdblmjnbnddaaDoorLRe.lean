/-
  lex.read: the token at the start of a text that is not empty, by Pl.rd. Condition: at most 2^40 bytes.
-/
import Derived.Test.YtggdblmjnbnddaaDoorLRd
namespace Go.Proofs.YtggdblmjnbnddaaDoor.W
open Go.RowKit Go.Proofs.YtggdblmjnbnddaaDoor.Pl

set_option maxRecDepth 100000 in
set_option maxHeartbeats 3200000 in
theorem read_any (c : UInt8) (t : List UInt8) (w : World) (hlen : (c :: t).length ≤ 1099511627776) :
    Calls Tryd.prog 23 #[.string (tx (c :: t))] w fun e w' => e = .returned (rdV (rd (c :: t))) ∧ Nw w w' := by
  have hrd := rd_cons c t
  have hsz := tx_size (c :: t)
  have hi0 := run_tx_at0 c t
  have hnm := fun w1 => readName_any (c :: t) w1 hlen
  have hnum := fun w1 => readNumber_any c t w1 hlen
  have hto : (tx (c :: t)).extract 0 1 = tx [c] := tx_to (c :: t) 1
  have hcb : c.toNat < 256 := c.toNat_lt
  have hmk : (0 ≤ Lib.indexByte marks c) ↔ markB c = true := by
    have hall : ∀ x : Fin 256, (0 ≤ Lib.indexByte marks (UInt8.ofNat x.val)) ↔ markB (UInt8.ofNat x.val) = true := by decide +kernel
    have := hall ⟨c.toNat, hcb⟩
    simpa using this
  rw [List.length_cons] at hsz hlen
  generalize hl : c :: t = l at *
  have HL := Lib.hid hl
  clear hl
  generalize t.length = n at *
  cases h1 : ltrI c.toNat
  · have H1 := Lib.hid h1
    cases h2 : digI c.toNat
    · have H2 := Lib.hid h2
      have h45 : ((c.toNat : Int) = 45) ↔ (c == 45) = true := by
        rw [beq_iff_eq]
        exact ⟨fun e => UInt8.toNat_inj.1 (by simp; omega), fun e => by subst e; rfl⟩
      cases h3 : (c == 45)
      · have hn45 : ¬ (c.toNat : Int) = 45 := fun e => by rw [h45.1 e] at h3; cases h3
        cases h4 : markB c
        · have hi : ¬ 0 ≤ Lib.indexByte marks c := fun e => by rw [hmk.1 e] at h4; cases h4
          have hidx : ∀ w1 : World, Calls Tryd.prog 34 #[.string { data := #[123, 125, 40, 41, 44, 59, 58, 61] }, .int .u8 c.toNat] w1 fun e w' => e = .returned (.int .i64 (Lib.indexByte marks c)) ∧ w1 = w' := fun w1 => indexByte_any marks c w1
          have e : rd l = (.zero, 0, 3) := by rw [hrd, h1, h2, h3, h4]; rfl
          rw [e]
          clear e hrd hmk h45 hnm hnum
          generalize Lib.indexByte marks c = ib at *
          clear h1 h2 h3 h4
          go_enter Tryd.func23, Tryd.ntmps23
          go_wp2_with (first | (go_at_call 28; refine (isLetter_any _ _).mono ?_; rintro e w1 ⟨rfl, rfl⟩; rw [H1.out]) | (go_at_call 36; refine (isDigit_any _ _).mono ?_; rintro e w1 ⟨rfl, rfl⟩; rw [H2.out]) | (go_at_call 34; refine (hidx _).mono ?_; rintro e w1 ⟨rfl, rfl⟩))
          exact bodyPost_ret (v := rdV (.zero, 0, 3)) (by simp [results, Tryd.results23, go_sem, rdV, tkV, Tk.zero, tx]) rfl ⟨rfl, (Kp.refl _ _).alloc _⟩
        · have hi : 0 ≤ Lib.indexByte marks c := hmk.2 h4
          have hidx : ∀ w1 : World, Calls Tryd.prog 34 #[.string { data := #[123, 125, 40, 41, 44, 59, 58, 61] }, .int .u8 c.toNat] w1 fun e w' => e = .returned (.int .i64 (Lib.indexByte marks c)) ∧ w1 = w' := fun w1 => indexByte_any marks c w1
          have e : rd l = (⟨3, [c], 0, 0⟩, 1, 0) := by rw [hrd, h1, h2, h3, h4]; rfl
          rw [e]
          clear e hrd hmk h45 hnm hnum
          generalize Lib.indexByte marks c = ib at *
          clear h1 h2 h3 h4
          go_enter Tryd.func23, Tryd.ntmps23
          go_wp2_with (first | (go_at_call 28; refine (isLetter_any _ _).mono ?_; rintro e w1 ⟨rfl, rfl⟩; rw [H1.out]) | (go_at_call 36; refine (isDigit_any _ _).mono ?_; rintro e w1 ⟨rfl, rfl⟩; rw [H2.out]) | (go_at_call 34; refine (hidx _).mono ?_; rintro e w1 ⟨rfl, rfl⟩))
          exact bodyPost_ret (v := rdV (⟨3, [c], 0, 0⟩, 1, 0)) (by simp [results, Tryd.results23, go_sem, rdV, tkV, tx]) rfl ⟨rfl, (Kp.refl _ _).alloc _⟩
      · have hc45 : ((c.toNat : Int) == 45) = true := by rw [h45.2 h3]; rfl
        have hnum := fun w1 => hnum w1 (by rw [h3, Bool.or_true])
        have e : rd l = rdNum l := by rw [hrd, h1, h2, h3]; rfl
        rw [e]
        clear e hrd hmk h1 h2 h3 h45 hnm
        generalize rdNum l = z at *
        go_enter Tryd.func23, Tryd.ntmps23
        go_wp2_with (first | (go_at_call 28; refine (isLetter_any _ _).mono ?_; rintro e w1 ⟨rfl, rfl⟩; rw [H1.out]) | (go_at_call 36; refine (isDigit_any _ _).mono ?_; rintro e w1 ⟨rfl, rfl⟩; rw [H2.out]) | (go_at_call 37; refine (hnum _).mono ?_; rintro e w1 ⟨rfl, hnw⟩; obtain ⟨r0, r1, r2, r3, f0, f1, f2, f3⟩ := ((Blk.new w 35 #[.int .i64 0, .string { data := #[] }, .int .i64 0, .int .i64 0]).kp hnw (fun e => e)).four; unfold rdV tkV))
        have hkw : Nw w w1 := ((Kp.refl _ w).alloc _).tr hnw
        obtain ⟨q0, q1, q2, q3, _⟩ := (((Blk.new w 35 #[.int .i64 0, .string { data := #[] }, .int .i64 0, .int .i64 0]).kp hnw (fun e => e)).lay4 (.int .i64 z.1.kind) (.string (tx z.1.text)) (.int .i64 z.1.n) (.int .i64 z.1.at_)).four
        exact bodyPost_ret (v := rdV z) (by simp [results, Tryd.results23, go_sem, rdV, tkV, q0, q1, q2, q3]) rfl ⟨rfl, (((hkw.new (Nat.le_refl _) 0 _).new (Nat.le_refl _) 1 _).new (Nat.le_refl _) 2 _).new (Nat.le_refl _) 3 _⟩
    · have H2 := Lib.hid h2
      have hnum := fun w1 => hnum w1 (by rw [h2]; rfl)
      have e : rd l = rdNum l := by rw [hrd, h1, h2]; rfl
      rw [e]
      clear e hrd hmk h1 h2 hnm
      generalize rdNum l = z at *
      go_enter Tryd.func23, Tryd.ntmps23
      go_wp2_with (first | (go_at_call 28; refine (isLetter_any _ _).mono ?_; rintro e w1 ⟨rfl, rfl⟩; rw [H1.out]) | (go_at_call 36; refine (isDigit_any _ _).mono ?_; rintro e w1 ⟨rfl, rfl⟩; rw [H2.out]) | (go_at_call 37; refine (hnum _).mono ?_; rintro e w1 ⟨rfl, hnw⟩; obtain ⟨r0, r1, r2, r3, f0, f1, f2, f3⟩ := ((Blk.new w 35 #[.int .i64 0, .string { data := #[] }, .int .i64 0, .int .i64 0]).kp hnw (fun e => e)).four; unfold rdV tkV))
      have hkw : Nw w w1 := ((Kp.refl _ w).alloc _).tr hnw
      obtain ⟨q0, q1, q2, q3, _⟩ := (((Blk.new w 35 #[.int .i64 0, .string { data := #[] }, .int .i64 0, .int .i64 0]).kp hnw (fun e => e)).lay4 (.int .i64 z.1.kind) (.string (tx z.1.text)) (.int .i64 z.1.n) (.int .i64 z.1.at_)).four
      exact bodyPost_ret (v := rdV z) (by simp [results, Tryd.results23, go_sem, rdV, tkV, q0, q1, q2, q3]) rfl ⟨rfl, (((hkw.new (Nat.le_refl _) 0 _).new (Nat.le_refl _) 1 _).new (Nat.le_refl _) 2 _).new (Nat.le_refl _) 3 _⟩
  · have H1 := Lib.hid h1
    have H2 := Lib.hid (rfl : digI c.toNat = digI c.toNat)
    have e : rd l = rdName l := by rw [hrd, h1]; rfl
    rw [e]
    clear e hrd hmk h1 hnum
    generalize rdName l = z at *
    go_enter Tryd.func23, Tryd.ntmps23
    go_wp2_with (first | (go_at_call 28; refine (isLetter_any _ _).mono ?_; rintro e w1 ⟨rfl, rfl⟩; rw [H1.out]) | (go_at_call 36; refine (isDigit_any _ _).mono ?_; rintro e w1 ⟨rfl, rfl⟩; rw [H2.out]) | (go_at_call 35; refine (hnm _).mono ?_; rintro e w1 ⟨rfl, hnw⟩; obtain ⟨r0, r1, r2, r3, f0, f1, f2, f3⟩ := ((Blk.new w 35 #[.int .i64 0, .string { data := #[] }, .int .i64 0, .int .i64 0]).kp hnw (fun e => e)).four; unfold rdV tkV))
    have hkw : Nw w w1 := ((Kp.refl _ w).alloc _).tr hnw
    obtain ⟨q0, q1, q2, q3, _⟩ := (((Blk.new w 35 #[.int .i64 0, .string { data := #[] }, .int .i64 0, .int .i64 0]).kp hnw (fun e => e)).lay4 (.int .i64 z.1.kind) (.string (tx z.1.text)) (.int .i64 z.1.n) (.int .i64 z.1.at_)).four
    exact bodyPost_ret (v := rdV z) (by simp [results, Tryd.results23, go_sem, rdV, tkV, q0, q1, q2, q3]) rfl ⟨rfl, (((hkw.new (Nat.le_refl _) 0 _).new (Nat.le_refl _) 1 _).new (Nat.le_refl _) 2 _).new (Nat.le_refl _) 3 _⟩
end Go.Proofs.YtggdblmjnbnddaaDoor.W
