/-
  The reference's number: its value, its size and the error, by Pl.rdNum. Condition: at most 2^40 bytes.
-/
import Derived.Test.YtggdblmjnbnddaaDoorLRe
namespace Go.Proofs.YtggdblmjnbnddaaDoor.W
open Go.RowKit Go.Proofs.YtggdblmjnbnddaaDoor.Pl

/-- what the reference's number returns -/
def numV (r : Rd) : Value := .tuple #[.int .i64 r.1.n, .int .i64 (r.2.1 : Nat), .int .i64 r.2.2]

theorem ret_num {v v' s e : Int} (h : v = v') : Ending.returned (.tuple #[.int .i64 v, .int .i64 s, .int .i64 e]) = .returned (.tuple #[.int .i64 v', .int .i64 s, .int .i64 e]) := by rw [h]
theorem word_no {x : UInt8} (hl : ltrI x.toNat = false) (hd : digI x.toNat = false) (hu : ¬ (x.toNat : Int) = 95) : wordI x.toNat = false := by
  unfold wordI
  rw [hl, hd]
  simpa using hu
theorem dv_take {D : List UInt8} {q : Nat} {x : UInt8} (h : D[q]? = some x) : dv 0 (D.take (q + 1)) = dv 0 (D.take q) * 10 + (x.toNat - 48) := by
  rw [List.take_add_one, h]
  unfold dv
  rw [List.foldl_append]
  rfl
theorem dv_small {D : List UInt8} (hD : allDig D) {q : Nat} (hq : q ≤ 8) : dv 0 (D.take q) ≤ 99999999 := by
  have h := dv_lt (D.take q) 0 fun b hb => hD b (List.mem_of_mem_take hb)
  have h2 : 10 ^ (D.take q).length ≤ 10 ^ 8 := Nat.pow_le_pow_right (by decide) (by rw [List.length_take]; omega)
  omega

theorem dv_nine {D : List UInt8} (hD : allDig D) {q : Nat} (hq : q ≤ 9) : dv 0 (D.take q) ≤ 999999999 := by
  have h := dv_lt (D.take q) 0 fun b hb => hD b (List.mem_of_mem_take hb)
  have h2 : 10 ^ (D.take q).length ≤ 10 ^ 9 := Nat.pow_le_pow_right (by decide) (by rw [List.length_take]; omega)
  omega
/-- what the walks of number share: the text l, the offset a, the byte c there, the size k of the number, its digits D from f on, the answer z -/
structure RefN (l : List UInt8) (n a k f : Nat) (D : List UInt8) (F G : Bool) (v : Int) (z : Rd) : Prop where
  sz : (tx l).size = n
  len : l.length = n
  cnt : cw digI (l.drop (a + 1)) + 1 = k
  fits : a + k ≤ n
  dig : allDig D
  from_ : f + D.length = a + k
  at_ : ∀ q x, D[q]? = some x → l[f + q]? = some x
  bad : F = false → z = (.zero, 0, 3)
  fol : G = true → z = (.zero, 0, 3)
  lim : F = true → G = false → 9 < D.length → z = (.zero, 0, 9)
  ok : F = true → G = false → D.length ≤ 9 → z = (⟨2, [], v, 0⟩, k, 0)
  folE : a + k = n → G = false
  folX : ∀ x, l[a + k]? = some x → G = wordI x.toNat


set_option maxRecDepth 100000 in
set_option maxHeartbeats 6400000 in
theorem numberM_any (l D : List UInt8) (n a k : Nat) (F G : Bool) (v : Int) (z : Rd) (w : World) (h : RefN l n a k (a + 1) D F G v z) (hn : n ≤ 1099511627776) (h0 : l[a]? = some 45) (hF1 : k = 1 → F = false) (hFz : l[a + 1]? = some 48 → F = false) (hFn : ¬ k = 1 → ∀ d, l[a + 1]? = some d → d ≠ 48 → F = true) (hv : (dv 0 D : Int) = -v) :
    Calls Tryd.prog 39 #[.string (tx l), .int .i64 a] w fun e w' => e = .returned (numV z) ∧ w = w' := by
  have hsz := h.sz
  have hix0 : ∀ W : World, (Instr.index 9 (.string (tx l)) (.int .i64 (a : Int))).run Tryd.prog W = .ok (.int .u8 (45 : UInt8).toNat) W := run_tx_at l a 45 h0
  have hfit := h.fits
  have h1k : 1 ≤ k := by have := h.cnt; omega
  clear h0
  go_enter Tryd.func39, Tryd.ntmps39
  go_wp2_with fail
  go_loopw [7] (fun i wr => ∃ m : Nat, 1 ≤ m ∧ a + m ≤ n ∧ i = .int .i64 m ∧ cw digI (l.drop (a + 1)) = (m - 1) + cw digI (l.drop (a + m)) ∧ wr = w) (fun i _ => n - (intOf i).toNat)
  case atStart => exact ⟨1, Nat.le_refl _, by have := h.cnt; omega, rfl, by simp, rfl⟩
  case round =>
    obtain ⟨m', h1m, hm, rfl, hc, rfl⟩ := hrel
    have HC := Lib.hid hc
    clear hc
    by_cases hlt : a + m' < n
    · obtain ⟨x, hx⟩ : ∃ x, l[a + m']? = some x := ⟨l[a + m']'(by have := h.len; omega), List.getElem?_eq_getElem _⟩
      have hix : ∀ W : World, (Instr.index 9 (.string (tx l)) (.int .i64 ((a : Int) + (m' : Int)))).run Tryd.prog W = .ok (.int .u8 x.toNat) W := fun W => run_tx_at l (a + m') x hx W
      have HX := Lib.hid hx
      clear hx
      cases hd : digI x.toNat
      · have HD := Lib.hid hd
        clear hd
        have hmk : m' = k := by have := HC.out; rw [cw_stop HX.out HD.out] at this; have := h.cnt; omega
        clear h1m
        revert hm HC hlt hix HX
        rw [hmk]
        intro hm HC hlt hix HX
        clear hmk m'
        by_cases hk1 : k = 1
        · have HZ := Lib.hid (h.bad (hF1 hk1))
          have hk1' : (k : Int) ≤ 1 := by omega
          have hk1'' : (1 : Int) ≤ k := by omega
          clear hk1
          go_wp2_with (first | (go_at_call 38; refine (digit_any _ _).mono ?_; rintro e w1 ⟨rfl, rfl⟩; rw [HD.out]))
          go_ret3
          exact ⟨by rw [HZ.out]; rfl, rfl⟩
        · obtain ⟨d, hd⟩ : ∃ d, l[a + 1]? = some d := ⟨l[a + 1]'(by have := h.len; have := h.fits; have := h.cnt; omega), List.getElem?_eq_getElem _⟩
          have hix1 : ∀ W : World, (Instr.index 9 (.string (tx l)) (.int .i64 ((a : Int) + 1))).run Tryd.prog W = .ok (.int .u8 d.toNat) W := fun W => run_tx_at l (a + 1) d hd W
          by_cases h48 : d = 48
          · have HZ := Lib.hid (h.bad (hFz (h48 ▸ hd)))
            subst h48
            clear hd
            by_cases hk2 : (2 : Int) < k
            · go_wp2_with (first | (go_at_call 38; refine (digit_any _ _).mono ?_; rintro e w1 ⟨rfl, rfl⟩; rw [HD.out]))
              go_ret3
              exact ⟨by rw [HZ.out]; rfl, rfl⟩
            · have hk2' : (k : Int) ≤ 2 := by omega
              go_wp2_with (first | (go_at_call 38; refine (digit_any _ _).mono ?_; rintro e w1 ⟨rfl, rfl⟩; rw [HD.out]))
              go_ret3
              exact ⟨by rw [HZ.out]; rfl, rfl⟩
          · have HFt := Lib.hid (hFn hk1 d hd h48)
            have hn48 : ¬ (d.toNat : Int) = 48 := fun e => h48 (UInt8.toNat_inj.1 (by simp; omega))
            clear hd h48
            cases hl : ltrI x.toNat
            · have HW := Lib.hid hl
              by_cases hu : x = 95
              · have hub : ((x.toNat : Int) == 95) = true := by subst hu; rfl
                have HZ := Lib.hid (h.fol (by rw [h.folX x HX.out, hu]; rfl))
                clear hl hu
                go_wp2_with (first | (go_at_call 38; refine (digit_any _ _).mono ?_; rintro e w1 ⟨rfl, rfl⟩; rw [HD.out]) | (go_at_call 31; refine (letter_any _ _).mono ?_; rintro e w1 ⟨rfl, rfl⟩; rw [HW.out]))
                go_ret3
                exact ⟨by rw [HZ.out]; rfl, rfl⟩
              · have hub : ¬ (x.toNat : Int) = 95 := fun e => hu (UInt8.toNat_inj.1 (by simp; omega))
                have HGf := Lib.hid ((h.folX x HX.out).trans (word_no hl HD.out hub))
                clear hl hu
                by_cases h9 : 9 < D.length
                · have hlen := h.from_
                  have HZ := Lib.hid (h.lim HFt.out HGf.out h9)
                  have h9k : (10 : Int) < k := by omega
                  clear hlen h9
                  go_wp2_with (first | (go_at_call 38; refine (digit_any _ _).mono ?_; rintro e w1 ⟨rfl, rfl⟩; rw [HD.out]) | (go_at_call 31; refine (letter_any _ _).mono ?_; rintro e w1 ⟨rfl, rfl⟩; rw [HW.out]))
                  go_ret3
                  exact ⟨by rw [HZ.out]; rfl, rfl⟩
                · have hlen := h.from_
                  have h9k : (k : Int) ≤ 10 := by omega
                  clear hlen
                  go_wp2_with (first | (go_at_call 38; refine (digit_any _ _).mono ?_; rintro e w1 ⟨rfl, rfl⟩; rw [HD.out]) | (go_at_call 31; refine (letter_any _ _).mono ?_; rintro e w1 ⟨rfl, rfl⟩; rw [HW.out]))
                  go_loopw [10, 11] (fun vv i wr2 => ∃ q : Nat, q ≤ D.length ∧ vv = .int .i64 (dv 0 (D.take q)) ∧ i = .int .i64 (((a : Int) + 1) + (q : Int)) ∧ wr2 = wr) (fun _ i _ => n - (intOf i).toNat)
                  case atStart => exact ⟨0, Nat.zero_le _, rfl, by simp, rfl⟩
                  case round =>
                    obtain ⟨q, hq, rfl, rfl, rfl⟩ := hrel
                    have hlen := h.from_
                    by_cases hlt : q < D.length
                    · obtain ⟨x, hx⟩ : ∃ x, D[q]? = some x := ⟨D[q]'hlt, List.getElem?_eq_getElem _⟩
                      have hix : ∀ W : World, (Instr.index 9 (.string (tx l)) (.int .i64 (((a : Int) + 1) + (q : Int)))).run Tryd.prog W = .ok (.int .u8 x.toNat) W := fun W => by
                        have := run_tx_at l ((a + 1) + q) x (h.at_ q x hx) W
                        rwa [show (((a + 1) + q : Nat) : Int) = ((a : Int) + 1) + (q : Int) by omega] at this
                      have hxd := dig_val (h.dig x (List.mem_of_getElem? hx))
                      have hvb := dv_small h.dig (q := q) (by omega)
                      have hvs := dv_take hx
                      have hcu : ((a : Int) + 1) + (q : Int) < (a : Int) + (k : Int) := by omega
                      generalize dv 0 (D.take q) = v at *
                      have HVS := Lib.hid hvs
                      have HL := Lib.hid hlen
                      clear hvs hx hlen
                      generalize D.length = L at *
                      go_wp2_with fail
                      go_roundw
                      case rel => exact ⟨q + 1, by omega, congrArg (Value.int .i64) (by have := HVS.out; omega), by go_num, trivial⟩
                      case measure => simp [intOf]; omega
                    · have hqe : q = D.length := by omega
                      subst hqe
                      have hfin : (dv 0 (D.take D.length) : Int) = -v := by rw [List.take_length]; exact hv
                      have hcu : (a : Int) + (k : Int) ≤ ((a : Int) + 1) + (D.length : Int) := by omega
                      have hVb := dv_nine h.dig (q := D.length) (by omega)
                      generalize dv 0 (D.take D.length) = V at hfin hVb ⊢
                      have HF := Lib.hid hfin
                      have HOK := Lib.hid (h.ok HFt.out HGf.out (by omega))
                      have HL := Lib.hid hlen
                      clear hfin hlen
                      generalize D.length = L at *
                      go_wp2_with fail
                      go_ret3
                      exact ⟨by rw [HOK.out]; exact ret_num (v' := v) (by have := HF.out; omega), rfl⟩
            · have HW := Lib.hid hl
              have HZ := Lib.hid (h.fol (by rw [h.folX x HX.out]; exact ltr_word hl))
              clear hl
              go_wp2_with (first | (go_at_call 38; refine (digit_any _ _).mono ?_; rintro e w1 ⟨rfl, rfl⟩; rw [HD.out]) | (go_at_call 31; refine (letter_any _ _).mono ?_; rintro e w1 ⟨rfl, rfl⟩; rw [HW.out]))
              go_ret3
              exact ⟨by rw [HZ.out]; rfl, rfl⟩
      · have HD := Lib.hid hd
        clear hd
        go_wp2_with (first | (go_at_call 38; refine (digit_any _ _).mono ?_; rintro e w1 ⟨rfl, rfl⟩; rw [HD.out]))
        go_roundw
        case rel => exact ⟨m' + 1, by omega, by omega, by go_num, by rw [HC.out, cw_go HX.out HD.out, Nat.add_assoc a m' 1]; omega, trivial⟩
        case measure => simp [intOf]; omega
    · have hmk : m' = k := by have := HC.out; rw [cw_end (i := a + m') (by have := h.len; omega)] at this; have := h.cnt; omega
      clear h1m
      revert hm HC hlt
      rw [hmk]
      intro hm HC hlt
      clear hmk m'
      by_cases hk1 : k = 1
      · have HZ := Lib.hid (h.bad (hF1 hk1))
        have hk1' : (k : Int) ≤ 1 := by omega
        have hk1'' : (1 : Int) ≤ k := by omega
        clear hk1
        go_wp2_with fail
        go_ret3
        exact ⟨by rw [HZ.out]; rfl, rfl⟩
      · obtain ⟨d, hd⟩ : ∃ d, l[a + 1]? = some d := ⟨l[a + 1]'(by have := h.len; have := h.fits; have := h.cnt; omega), List.getElem?_eq_getElem _⟩
        have hix1 : ∀ W : World, (Instr.index 9 (.string (tx l)) (.int .i64 ((a : Int) + 1))).run Tryd.prog W = .ok (.int .u8 d.toNat) W := fun W => run_tx_at l (a + 1) d hd W
        by_cases h48 : d = 48
        · have HZ := Lib.hid (h.bad (hFz (h48 ▸ hd)))
          subst h48
          clear hd
          by_cases hk2 : (2 : Int) < k
          · go_wp2_with fail
            go_ret3
            exact ⟨by rw [HZ.out]; rfl, rfl⟩
          · have hk2' : (k : Int) ≤ 2 := by omega
            go_wp2_with fail
            go_ret3
            exact ⟨by rw [HZ.out]; rfl, rfl⟩
        · have HFt := Lib.hid (hFn hk1 d hd h48)
          have hn48 : ¬ (d.toNat : Int) = 48 := fun e => h48 (UInt8.toNat_inj.1 (by simp; omega))
          clear hd h48
          have HGf := Lib.hid (h.folE (by omega))
          by_cases h9 : 9 < D.length
          · have hlen := h.from_
            have HZ := Lib.hid (h.lim HFt.out HGf.out h9)
            have h9k : (10 : Int) < k := by omega
            clear hlen h9
            go_wp2_with fail
            go_ret3
            exact ⟨by rw [HZ.out]; rfl, rfl⟩
          · have hlen := h.from_
            have h9k : (k : Int) ≤ 10 := by omega
            clear hlen
            go_wp2_with fail
            go_loopw [10, 11] (fun vv i wr2 => ∃ q : Nat, q ≤ D.length ∧ vv = .int .i64 (dv 0 (D.take q)) ∧ i = .int .i64 (((a : Int) + 1) + (q : Int)) ∧ wr2 = wr) (fun _ i _ => n - (intOf i).toNat)
            case atStart => exact ⟨0, Nat.zero_le _, rfl, by simp, rfl⟩
            case round =>
              obtain ⟨q, hq, rfl, rfl, rfl⟩ := hrel
              have hlen := h.from_
              by_cases hlt : q < D.length
              · obtain ⟨x, hx⟩ : ∃ x, D[q]? = some x := ⟨D[q]'hlt, List.getElem?_eq_getElem _⟩
                have hix : ∀ W : World, (Instr.index 9 (.string (tx l)) (.int .i64 (((a : Int) + 1) + (q : Int)))).run Tryd.prog W = .ok (.int .u8 x.toNat) W := fun W => by
                  have := run_tx_at l ((a + 1) + q) x (h.at_ q x hx) W
                  rwa [show (((a + 1) + q : Nat) : Int) = ((a : Int) + 1) + (q : Int) by omega] at this
                have hxd := dig_val (h.dig x (List.mem_of_getElem? hx))
                have hvb := dv_small h.dig (q := q) (by omega)
                have hvs := dv_take hx
                have hcu : ((a : Int) + 1) + (q : Int) < (a : Int) + (k : Int) := by omega
                generalize dv 0 (D.take q) = v at *
                have HVS := Lib.hid hvs
                have HL := Lib.hid hlen
                clear hvs hx hlen
                generalize D.length = L at *
                go_wp2_with fail
                go_roundw
                case rel => exact ⟨q + 1, by omega, congrArg (Value.int .i64) (by have := HVS.out; omega), by go_num, trivial⟩
                case measure => simp [intOf]; omega
              · have hqe : q = D.length := by omega
                subst hqe
                have hfin : (dv 0 (D.take D.length) : Int) = -v := by rw [List.take_length]; exact hv
                have hcu : (a : Int) + (k : Int) ≤ ((a : Int) + 1) + (D.length : Int) := by omega
                have hVb := dv_nine h.dig (q := D.length) (by omega)
                generalize dv 0 (D.take D.length) = V at hfin hVb ⊢
                have HF := Lib.hid hfin
                have HOK := Lib.hid (h.ok HFt.out HGf.out (by omega))
                have HL := Lib.hid hlen
                clear hfin hlen
                generalize D.length = L at *
                go_wp2_with fail
                go_ret3
                exact ⟨by rw [HOK.out]; exact ret_num (v' := v) (by have := HF.out; omega), rfl⟩


set_option maxRecDepth 100000 in
set_option maxHeartbeats 6400000 in
theorem numberZ_any (l D : List UInt8) (n a k : Nat) (F G : Bool) (v : Int) (z : Rd) (w : World) (h : RefN l n a k a D F G v z) (hn : n ≤ 1099511627776) (h0 : l[a]? = some 48) (hF1 : k = 1 → F = true) (hFz : ¬ k = 1 → F = false) (hv : (dv 0 D : Int) = v) :
    Calls Tryd.prog 39 #[.string (tx l), .int .i64 a] w fun e w' => e = .returned (numV z) ∧ w = w' := by
  have hsz := h.sz
  have hix0 : ∀ W : World, (Instr.index 9 (.string (tx l)) (.int .i64 (a : Int))).run Tryd.prog W = .ok (.int .u8 (48 : UInt8).toNat) W := run_tx_at l a 48 h0
  have hfit := h.fits
  have h1k : 1 ≤ k := by have := h.cnt; omega
  clear h0
  go_enter Tryd.func39, Tryd.ntmps39
  go_wp2_with fail
  go_loopw [7] (fun i wr => ∃ m : Nat, 1 ≤ m ∧ a + m ≤ n ∧ i = .int .i64 m ∧ cw digI (l.drop (a + 1)) = (m - 1) + cw digI (l.drop (a + m)) ∧ wr = w) (fun i _ => n - (intOf i).toNat)
  case atStart => exact ⟨1, Nat.le_refl _, by have := h.cnt; omega, rfl, by simp, rfl⟩
  case round =>
    obtain ⟨m', h1m, hm, rfl, hc, rfl⟩ := hrel
    have HC := Lib.hid hc
    clear hc
    by_cases hlt : a + m' < n
    · obtain ⟨x, hx⟩ : ∃ x, l[a + m']? = some x := ⟨l[a + m']'(by have := h.len; omega), List.getElem?_eq_getElem _⟩
      have hix : ∀ W : World, (Instr.index 9 (.string (tx l)) (.int .i64 ((a : Int) + (m' : Int)))).run Tryd.prog W = .ok (.int .u8 x.toNat) W := fun W => run_tx_at l (a + m') x hx W
      have HX := Lib.hid hx
      clear hx
      cases hd : digI x.toNat
      · have HD := Lib.hid hd
        clear hd
        have hmk : m' = k := by have := HC.out; rw [cw_stop HX.out HD.out] at this; have := h.cnt; omega
        clear h1m
        revert hm HC hlt hix HX
        rw [hmk]
        intro hm HC hlt hix HX
        clear hmk m'
        by_cases hk1 : (1 : Int) < k
        · have HZ := Lib.hid (h.bad (hFz (by omega)))
          go_wp2_with (first | (go_at_call 38; refine (digit_any _ _).mono ?_; rintro e w1 ⟨rfl, rfl⟩; rw [HD.out]))
          go_ret3
          exact ⟨by rw [HZ.out]; rfl, rfl⟩
        · have HFt := Lib.hid (hF1 (by omega))
          have hd1 : (a : Int) + (k : Int) - (a : Int) = 1 := by omega
          cases hl : ltrI x.toNat
          · have HW := Lib.hid hl
            by_cases hu : x = 95
            · have hub : ((x.toNat : Int) == 95) = true := by subst hu; rfl
              have HZ := Lib.hid (h.fol (by rw [h.folX x HX.out, hu]; rfl))
              clear hl hu
              go_wp2_with (first | (go_at_call 38; refine (digit_any _ _).mono ?_; rintro e w1 ⟨rfl, rfl⟩; rw [HD.out]) | (go_at_call 31; refine (letter_any _ _).mono ?_; rintro e w1 ⟨rfl, rfl⟩; rw [HW.out]))
              go_ret3
              exact ⟨by rw [HZ.out]; rfl, rfl⟩
            · have hub : ¬ (x.toNat : Int) = 95 := fun e => hu (UInt8.toNat_inj.1 (by simp; omega))
              have HGf := Lib.hid ((h.folX x HX.out).trans (word_no hl HD.out hub))
              clear hl hu
              by_cases h9 : 9 < D.length
              · exfalso
                have := h.from_
                omega
              · have hlen := h.from_
                have h9k : (k : Int) ≤ 9 := by omega
                clear hlen
                go_wp2_with (first | (go_at_call 38; refine (digit_any _ _).mono ?_; rintro e w1 ⟨rfl, rfl⟩; rw [HD.out]) | (go_at_call 31; refine (letter_any _ _).mono ?_; rintro e w1 ⟨rfl, rfl⟩; rw [HW.out]))
                go_loopw [10, 11] (fun vv i wr2 => ∃ q : Nat, q ≤ D.length ∧ vv = .int .i64 (dv 0 (D.take q)) ∧ i = .int .i64 ((a : Int) + (q : Int)) ∧ wr2 = wr) (fun _ i _ => n - (intOf i).toNat)
                case atStart => exact ⟨0, Nat.zero_le _, rfl, by simp, rfl⟩
                case round =>
                  obtain ⟨q, hq, rfl, rfl, rfl⟩ := hrel
                  have hlen := h.from_
                  by_cases hlt : q < D.length
                  · obtain ⟨x, hx⟩ : ∃ x, D[q]? = some x := ⟨D[q]'hlt, List.getElem?_eq_getElem _⟩
                    have hix : ∀ W : World, (Instr.index 9 (.string (tx l)) (.int .i64 ((a : Int) + (q : Int)))).run Tryd.prog W = .ok (.int .u8 x.toNat) W := fun W => by
                      have := run_tx_at l (a + q) x (h.at_ q x hx) W
                      rwa [show ((a + q : Nat) : Int) = (a : Int) + (q : Int) by omega] at this
                    have hxd := dig_val (h.dig x (List.mem_of_getElem? hx))
                    have hvb := dv_small h.dig (q := q) (by omega)
                    have hvs := dv_take hx
                    have hcu : (a : Int) + (q : Int) < (a : Int) + (k : Int) := by omega
                    generalize dv 0 (D.take q) = v at *
                    have HVS := Lib.hid hvs
                    have HL := Lib.hid hlen
                    clear hvs hx hlen
                    generalize D.length = L at *
                    go_wp2_with fail
                    go_roundw
                    case rel => exact ⟨q + 1, by omega, congrArg (Value.int .i64) (by have := HVS.out; omega), by go_num, trivial⟩
                    case measure => simp [intOf]; omega
                  · have hqe : q = D.length := by omega
                    subst hqe
                    have hfin : (dv 0 (D.take D.length) : Int) = v := by rw [List.take_length]; exact hv
                    have hcu : (a : Int) + (k : Int) ≤ (a : Int) + (D.length : Int) := by omega
                    have hVb := dv_nine h.dig (q := D.length) (by omega)
                    generalize dv 0 (D.take D.length) = V at hfin hVb ⊢
                    have HF := Lib.hid hfin
                    have HOK := Lib.hid (h.ok HFt.out HGf.out (by omega))
                    have HL := Lib.hid hlen
                    clear hfin hlen
                    generalize D.length = L at *
                    go_wp2_with fail
                    go_ret3
                    exact ⟨by rw [HOK.out]; exact ret_num (v' := v) (by have := HF.out; omega), rfl⟩
          · have HW := Lib.hid hl
            have HZ := Lib.hid (h.fol (by rw [h.folX x HX.out]; exact ltr_word hl))
            clear hl
            go_wp2_with (first | (go_at_call 38; refine (digit_any _ _).mono ?_; rintro e w1 ⟨rfl, rfl⟩; rw [HD.out]) | (go_at_call 31; refine (letter_any _ _).mono ?_; rintro e w1 ⟨rfl, rfl⟩; rw [HW.out]))
            go_ret3
            exact ⟨by rw [HZ.out]; rfl, rfl⟩
      · have HD := Lib.hid hd
        clear hd
        go_wp2_with (first | (go_at_call 38; refine (digit_any _ _).mono ?_; rintro e w1 ⟨rfl, rfl⟩; rw [HD.out]))
        go_roundw
        case rel => exact ⟨m' + 1, by omega, by omega, by go_num, by rw [HC.out, cw_go HX.out HD.out, Nat.add_assoc a m' 1]; omega, trivial⟩
        case measure => simp [intOf]; omega
    · have hmk : m' = k := by have := HC.out; rw [cw_end (i := a + m') (by have := h.len; omega)] at this; have := h.cnt; omega
      clear h1m
      revert hm HC hlt
      rw [hmk]
      intro hm HC hlt
      clear hmk m'
      by_cases hk1 : (1 : Int) < k
      · have HZ := Lib.hid (h.bad (hFz (by omega)))
        go_wp2_with fail
        go_ret3
        exact ⟨by rw [HZ.out]; rfl, rfl⟩
      · have HFt := Lib.hid (hF1 (by omega))
        have hd1 : (a : Int) + (k : Int) - (a : Int) = 1 := by omega
        have HGf := Lib.hid (h.folE (by omega))
        by_cases h9 : 9 < D.length
        · exfalso
          have := h.from_
          omega
        · have hlen := h.from_
          have h9k : (k : Int) ≤ 9 := by omega
          clear hlen
          go_wp2_with fail
          go_loopw [10, 11] (fun vv i wr2 => ∃ q : Nat, q ≤ D.length ∧ vv = .int .i64 (dv 0 (D.take q)) ∧ i = .int .i64 ((a : Int) + (q : Int)) ∧ wr2 = wr) (fun _ i _ => n - (intOf i).toNat)
          case atStart => exact ⟨0, Nat.zero_le _, rfl, by simp, rfl⟩
          case round =>
            obtain ⟨q, hq, rfl, rfl, rfl⟩ := hrel
            have hlen := h.from_
            by_cases hlt : q < D.length
            · obtain ⟨x, hx⟩ : ∃ x, D[q]? = some x := ⟨D[q]'hlt, List.getElem?_eq_getElem _⟩
              have hix : ∀ W : World, (Instr.index 9 (.string (tx l)) (.int .i64 ((a : Int) + (q : Int)))).run Tryd.prog W = .ok (.int .u8 x.toNat) W := fun W => by
                have := run_tx_at l (a + q) x (h.at_ q x hx) W
                rwa [show ((a + q : Nat) : Int) = (a : Int) + (q : Int) by omega] at this
              have hxd := dig_val (h.dig x (List.mem_of_getElem? hx))
              have hvb := dv_small h.dig (q := q) (by omega)
              have hvs := dv_take hx
              have hcu : (a : Int) + (q : Int) < (a : Int) + (k : Int) := by omega
              generalize dv 0 (D.take q) = v at *
              have HVS := Lib.hid hvs
              have HL := Lib.hid hlen
              clear hvs hx hlen
              generalize D.length = L at *
              go_wp2_with fail
              go_roundw
              case rel => exact ⟨q + 1, by omega, congrArg (Value.int .i64) (by have := HVS.out; omega), by go_num, trivial⟩
              case measure => simp [intOf]; omega
            · have hqe : q = D.length := by omega
              subst hqe
              have hfin : (dv 0 (D.take D.length) : Int) = v := by rw [List.take_length]; exact hv
              have hcu : (a : Int) + (k : Int) ≤ (a : Int) + (D.length : Int) := by omega
              have hVb := dv_nine h.dig (q := D.length) (by omega)
              generalize dv 0 (D.take D.length) = V at hfin hVb ⊢
              have HF := Lib.hid hfin
              have HOK := Lib.hid (h.ok HFt.out HGf.out (by omega))
              have HL := Lib.hid hlen
              clear hfin hlen
              generalize D.length = L at *
              go_wp2_with fail
              go_ret3
              exact ⟨by rw [HOK.out]; exact ret_num (v' := v) (by have := HF.out; omega), rfl⟩


set_option maxRecDepth 100000 in
set_option maxHeartbeats 6400000 in
theorem numberN_any (l D : List UInt8) (n a k : Nat) (F G : Bool) (v : Int) (z : Rd) (c : UInt8) (h45 : ¬ (c.toNat : Int) = 45) (h48 : ¬ (c.toNat : Int) = 48) (w : World) (h : RefN l n a k a D F G v z) (hn : n ≤ 1099511627776) (h0 : l[a]? = some c) (hF : F = true) (hv : (dv 0 D : Int) = v) :
    Calls Tryd.prog 39 #[.string (tx l), .int .i64 a] w fun e w' => e = .returned (numV z) ∧ w = w' := by
  have hsz := h.sz
  have hix0 : ∀ W : World, (Instr.index 9 (.string (tx l)) (.int .i64 (a : Int))).run Tryd.prog W = .ok (.int .u8 (c : UInt8).toNat) W := run_tx_at l a c h0
  have hfit := h.fits
  have h1k : 1 ≤ k := by have := h.cnt; omega
  clear h0
  go_enter Tryd.func39, Tryd.ntmps39
  go_wp2_with fail
  go_loopw [7] (fun i wr => ∃ m : Nat, 1 ≤ m ∧ a + m ≤ n ∧ i = .int .i64 m ∧ cw digI (l.drop (a + 1)) = (m - 1) + cw digI (l.drop (a + m)) ∧ wr = w) (fun i _ => n - (intOf i).toNat)
  case atStart => exact ⟨1, Nat.le_refl _, by have := h.cnt; omega, rfl, by simp, rfl⟩
  case round =>
    obtain ⟨m', h1m, hm, rfl, hc, rfl⟩ := hrel
    have HC := Lib.hid hc
    clear hc
    by_cases hlt : a + m' < n
    · obtain ⟨x, hx⟩ : ∃ x, l[a + m']? = some x := ⟨l[a + m']'(by have := h.len; omega), List.getElem?_eq_getElem _⟩
      have hix : ∀ W : World, (Instr.index 9 (.string (tx l)) (.int .i64 ((a : Int) + (m' : Int)))).run Tryd.prog W = .ok (.int .u8 x.toNat) W := fun W => run_tx_at l (a + m') x hx W
      have HX := Lib.hid hx
      clear hx
      cases hd : digI x.toNat
      · have HD := Lib.hid hd
        clear hd
        have hmk : m' = k := by have := HC.out; rw [cw_stop HX.out HD.out] at this; have := h.cnt; omega
        clear h1m
        revert hm HC hlt hix HX
        rw [hmk]
        intro hm HC hlt hix HX
        clear hmk m'
        have HFt := Lib.hid hF
        cases hl : ltrI x.toNat
        · have HW := Lib.hid hl
          by_cases hu : x = 95
          · have hub : ((x.toNat : Int) == 95) = true := by subst hu; rfl
            have HZ := Lib.hid (h.fol (by rw [h.folX x HX.out, hu]; rfl))
            clear hl hu
            go_wp2_with (first | (go_at_call 38; refine (digit_any _ _).mono ?_; rintro e w1 ⟨rfl, rfl⟩; rw [HD.out]) | (go_at_call 31; refine (letter_any _ _).mono ?_; rintro e w1 ⟨rfl, rfl⟩; rw [HW.out]))
            go_ret3
            exact ⟨by rw [HZ.out]; rfl, rfl⟩
          · have hub : ¬ (x.toNat : Int) = 95 := fun e => hu (UInt8.toNat_inj.1 (by simp; omega))
            have HGf := Lib.hid ((h.folX x HX.out).trans (word_no hl HD.out hub))
            clear hl hu
            by_cases h9 : 9 < D.length
            · have hlen := h.from_
              have HZ := Lib.hid (h.lim HFt.out HGf.out h9)
              have h9k : (9 : Int) < k := by omega
              clear hlen h9
              go_wp2_with (first | (go_at_call 38; refine (digit_any _ _).mono ?_; rintro e w1 ⟨rfl, rfl⟩; rw [HD.out]) | (go_at_call 31; refine (letter_any _ _).mono ?_; rintro e w1 ⟨rfl, rfl⟩; rw [HW.out]))
              go_ret3
              exact ⟨by rw [HZ.out]; rfl, rfl⟩
            · have hlen := h.from_
              have h9k : (k : Int) ≤ 9 := by omega
              clear hlen
              go_wp2_with (first | (go_at_call 38; refine (digit_any _ _).mono ?_; rintro e w1 ⟨rfl, rfl⟩; rw [HD.out]) | (go_at_call 31; refine (letter_any _ _).mono ?_; rintro e w1 ⟨rfl, rfl⟩; rw [HW.out]))
              go_loopw [10, 11] (fun vv i wr2 => ∃ q : Nat, q ≤ D.length ∧ vv = .int .i64 (dv 0 (D.take q)) ∧ i = .int .i64 ((a : Int) + (q : Int)) ∧ wr2 = wr) (fun _ i _ => n - (intOf i).toNat)
              case atStart => exact ⟨0, Nat.zero_le _, rfl, by simp, rfl⟩
              case round =>
                obtain ⟨q, hq, rfl, rfl, rfl⟩ := hrel
                have hlen := h.from_
                by_cases hlt : q < D.length
                · obtain ⟨x, hx⟩ : ∃ x, D[q]? = some x := ⟨D[q]'hlt, List.getElem?_eq_getElem _⟩
                  have hix : ∀ W : World, (Instr.index 9 (.string (tx l)) (.int .i64 ((a : Int) + (q : Int)))).run Tryd.prog W = .ok (.int .u8 x.toNat) W := fun W => by
                    have := run_tx_at l (a + q) x (h.at_ q x hx) W
                    rwa [show ((a + q : Nat) : Int) = (a : Int) + (q : Int) by omega] at this
                  have hxd := dig_val (h.dig x (List.mem_of_getElem? hx))
                  have hvb := dv_small h.dig (q := q) (by omega)
                  have hvs := dv_take hx
                  have hcu : (a : Int) + (q : Int) < (a : Int) + (k : Int) := by omega
                  generalize dv 0 (D.take q) = v at *
                  have HVS := Lib.hid hvs
                  have HL := Lib.hid hlen
                  clear hvs hx hlen
                  generalize D.length = L at *
                  go_wp2_with fail
                  go_roundw
                  case rel => exact ⟨q + 1, by omega, congrArg (Value.int .i64) (by have := HVS.out; omega), by go_num, trivial⟩
                  case measure => simp [intOf]; omega
                · have hqe : q = D.length := by omega
                  subst hqe
                  have hfin : (dv 0 (D.take D.length) : Int) = v := by rw [List.take_length]; exact hv
                  have hcu : (a : Int) + (k : Int) ≤ (a : Int) + (D.length : Int) := by omega
                  have hVb := dv_nine h.dig (q := D.length) (by omega)
                  generalize dv 0 (D.take D.length) = V at hfin hVb ⊢
                  have HF := Lib.hid hfin
                  have HOK := Lib.hid (h.ok HFt.out HGf.out (by omega))
                  have HL := Lib.hid hlen
                  clear hfin hlen
                  generalize D.length = L at *
                  go_wp2_with fail
                  go_ret3
                  exact ⟨by rw [HOK.out]; exact ret_num (v' := v) (by have := HF.out; omega), rfl⟩
        · have HW := Lib.hid hl
          have HZ := Lib.hid (h.fol (by rw [h.folX x HX.out]; exact ltr_word hl))
          clear hl
          go_wp2_with (first | (go_at_call 38; refine (digit_any _ _).mono ?_; rintro e w1 ⟨rfl, rfl⟩; rw [HD.out]) | (go_at_call 31; refine (letter_any _ _).mono ?_; rintro e w1 ⟨rfl, rfl⟩; rw [HW.out]))
          go_ret3
          exact ⟨by rw [HZ.out]; rfl, rfl⟩
      · have HD := Lib.hid hd
        clear hd
        go_wp2_with (first | (go_at_call 38; refine (digit_any _ _).mono ?_; rintro e w1 ⟨rfl, rfl⟩; rw [HD.out]))
        go_roundw
        case rel => exact ⟨m' + 1, by omega, by omega, by go_num, by rw [HC.out, cw_go HX.out HD.out, Nat.add_assoc a m' 1]; omega, trivial⟩
        case measure => simp [intOf]; omega
    · have hmk : m' = k := by have := HC.out; rw [cw_end (i := a + m') (by have := h.len; omega)] at this; have := h.cnt; omega
      clear h1m
      revert hm HC hlt
      rw [hmk]
      intro hm HC hlt
      clear hmk m'
      have HFt := Lib.hid hF
      have HGf := Lib.hid (h.folE (by omega))
      by_cases h9 : 9 < D.length
      · have hlen := h.from_
        have HZ := Lib.hid (h.lim HFt.out HGf.out h9)
        have h9k : (9 : Int) < k := by omega
        clear hlen h9
        go_wp2_with fail
        go_ret3
        exact ⟨by rw [HZ.out]; rfl, rfl⟩
      · have hlen := h.from_
        have h9k : (k : Int) ≤ 9 := by omega
        clear hlen
        go_wp2_with fail
        go_loopw [10, 11] (fun vv i wr2 => ∃ q : Nat, q ≤ D.length ∧ vv = .int .i64 (dv 0 (D.take q)) ∧ i = .int .i64 ((a : Int) + (q : Int)) ∧ wr2 = wr) (fun _ i _ => n - (intOf i).toNat)
        case atStart => exact ⟨0, Nat.zero_le _, rfl, by simp, rfl⟩
        case round =>
          obtain ⟨q, hq, rfl, rfl, rfl⟩ := hrel
          have hlen := h.from_
          by_cases hlt : q < D.length
          · obtain ⟨x, hx⟩ : ∃ x, D[q]? = some x := ⟨D[q]'hlt, List.getElem?_eq_getElem _⟩
            have hix : ∀ W : World, (Instr.index 9 (.string (tx l)) (.int .i64 ((a : Int) + (q : Int)))).run Tryd.prog W = .ok (.int .u8 x.toNat) W := fun W => by
              have := run_tx_at l (a + q) x (h.at_ q x hx) W
              rwa [show ((a + q : Nat) : Int) = (a : Int) + (q : Int) by omega] at this
            have hxd := dig_val (h.dig x (List.mem_of_getElem? hx))
            have hvb := dv_small h.dig (q := q) (by omega)
            have hvs := dv_take hx
            have hcu : (a : Int) + (q : Int) < (a : Int) + (k : Int) := by omega
            generalize dv 0 (D.take q) = v at *
            have HVS := Lib.hid hvs
            have HL := Lib.hid hlen
            clear hvs hx hlen
            generalize D.length = L at *
            go_wp2_with fail
            go_roundw
            case rel => exact ⟨q + 1, by omega, congrArg (Value.int .i64) (by have := HVS.out; omega), by go_num, trivial⟩
            case measure => simp [intOf]; omega
          · have hqe : q = D.length := by omega
            subst hqe
            have hfin : (dv 0 (D.take D.length) : Int) = v := by rw [List.take_length]; exact hv
            have hcu : (a : Int) + (k : Int) ≤ (a : Int) + (D.length : Int) := by omega
            have hVb := dv_nine h.dig (q := D.length) (by omega)
            generalize dv 0 (D.take D.length) = V at hfin hVb ⊢
            have HF := Lib.hid hfin
            have HOK := Lib.hid (h.ok HFt.out HGf.out (by omega))
            have HL := Lib.hid hlen
            clear hfin hlen
            generalize D.length = L at *
            go_wp2_with fail
            go_ret3
            exact ⟨by rw [HOK.out]; exact ret_num (v' := v) (by have := HF.out; omega), rfl⟩

end Go.Proofs.YtggdblmjnbnddaaDoor.W
