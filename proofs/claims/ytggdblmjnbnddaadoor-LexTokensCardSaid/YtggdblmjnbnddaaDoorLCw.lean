/-
  lex.countLeading at inWord and at isDigit, lex.commentSize; the reference's Named. Condition: at most 2^40 bytes.
-/
import Derived.Test.YtggdblmjnbnddaaDoorLC
import Derived.Test.YtggdblmjnbnddaaDoorLSh
namespace Go.Proofs.YtggdblmjnbnddaaDoor.W
open Go.RowKit Go.Proofs.YtggdblmjnbnddaaDoor.Pl

/-- a byte of a text -/
theorem run_tx_at (l : List UInt8) (i : Nat) (c : UInt8) (h : l[i]? = some c) (W : World) : (Instr.index 9 (.string (tx l)) (.int .i64 (i : Int))).run Tryd.prog W = .ok (.int .u8 c.toNat) W := by
  obtain ⟨hi, rfl⟩ := List.getElem?_eq_some_iff.1 h
  rw [run_index_string W 9 (tx l) .i64 i Tryd.underlying9, dif_pos ⟨by omega, by rw [tx_size]; omega⟩]
  congr 1

set_option maxRecDepth 100000 in
set_option maxHeartbeats 1600000 in
theorem countWord_any (l : List UInt8) (w : World) (hlen : l.length ≤ 1099511627776) :
    Calls Tryd.prog 29 #[.string (tx l), .func (.func 30) #[] #[]] w fun e w' => e = .returned (.int .i64 (cw wordI l)) ∧ w = w' := by
  have hsz := tx_size l
  obtain ⟨n, hn⟩ : ∃ n, l.length = n := ⟨_, rfl⟩
  rw [hn] at hsz hlen
  have HN := Lib.hid hn
  clear hn
  go_enter Tryd.func29, Tryd.ntmps29
  go_wp2_with fail
  go_loopw [8] (fun i wr => ∃ k : Nat, k ≤ n ∧ i = .int .i64 k ∧ cw wordI l = k + cw wordI (l.drop k) ∧ wr = w) (fun i _ => n - (intOf i).toNat)
  case atStart => exact ⟨0, Nat.zero_le _, rfl, by simp, rfl⟩
  case round =>
    obtain ⟨k, hk, rfl, hc, rfl⟩ := hrel
    have HC := Lib.hid hc
    clear hc
    by_cases hlt : k < n
    · obtain ⟨c, hc⟩ : ∃ c, l[k]? = some c := ⟨l[k]'(by have := HN.out; omega), List.getElem?_eq_getElem _⟩
      have hix := run_tx_at l k c hc
      have HX := Lib.hid hc
      clear hc
      cases hp : wordI c.toNat
      · have HP := Lib.hid hp
        clear hp
        go_wp2_with (go_at_call 30; refine (inWord_any _ _).mono ?_; rintro e w1 ⟨rfl, rfl⟩; rw [HP.out])
        go_ret
        exact ⟨ret_int (by rw [HC.out, cw_stop HX.out HP.out]; simp), rfl⟩
      · have HP := Lib.hid hp
        clear hp
        go_wp2_with (go_at_call 30; refine (inWord_any _ _).mono ?_; rintro e w1 ⟨rfl, rfl⟩; rw [HP.out])
        go_roundw
        case rel => exact ⟨k + 1, hlt, by go_num, by rw [HC.out, cw_go HX.out HP.out]; omega, trivial⟩
        case measure => simp [intOf]; omega
    · go_wp2_with fail
      go_ret
      exact ⟨ret_int (by rw [HC.out, cw_end (by have := HN.out; omega)]; omega), rfl⟩

set_option maxRecDepth 100000 in
set_option maxHeartbeats 1600000 in
theorem countDig_any (l : List UInt8) (w : World) (hlen : l.length ≤ 1099511627776) :
    Calls Tryd.prog 29 #[.string (tx l), .func (.func 36) #[] #[]] w fun e w' => e = .returned (.int .i64 (cw digI l)) ∧ w = w' := by
  have hsz := tx_size l
  obtain ⟨n, hn⟩ : ∃ n, l.length = n := ⟨_, rfl⟩
  rw [hn] at hsz hlen
  have HN := Lib.hid hn
  clear hn
  go_enter Tryd.func29, Tryd.ntmps29
  go_wp2_with fail
  go_loopw [8] (fun i wr => ∃ k : Nat, k ≤ n ∧ i = .int .i64 k ∧ cw digI l = k + cw digI (l.drop k) ∧ wr = w) (fun i _ => n - (intOf i).toNat)
  case atStart => exact ⟨0, Nat.zero_le _, rfl, by simp, rfl⟩
  case round =>
    obtain ⟨k, hk, rfl, hc, rfl⟩ := hrel
    have HC := Lib.hid hc
    clear hc
    by_cases hlt : k < n
    · obtain ⟨c, hc⟩ : ∃ c, l[k]? = some c := ⟨l[k]'(by have := HN.out; omega), List.getElem?_eq_getElem _⟩
      have hix := run_tx_at l k c hc
      have HX := Lib.hid hc
      clear hc
      cases hp : digI c.toNat
      · have HP := Lib.hid hp
        clear hp
        go_wp2_with (go_at_call 36; refine (isDigit_any _ _).mono ?_; rintro e w1 ⟨rfl, rfl⟩; rw [HP.out])
        go_ret
        exact ⟨ret_int (by rw [HC.out, cw_stop HX.out HP.out]; simp), rfl⟩
      · have HP := Lib.hid hp
        clear hp
        go_wp2_with (go_at_call 36; refine (isDigit_any _ _).mono ?_; rintro e w1 ⟨rfl, rfl⟩; rw [HP.out])
        go_roundw
        case rel => exact ⟨k + 1, hlt, by go_num, by rw [HC.out, cw_go HX.out HP.out]; omega, trivial⟩
        case measure => simp [intOf]; omega
    · go_wp2_with fail
      go_ret
      exact ⟨ret_int (by rw [HC.out, cw_end (by have := HN.out; omega)]; omega), rfl⟩

theorem indexLf : ∀ l : List UInt8, Lib.indexByte l 10 = if cw notLf l < l.length then (cw notLf l : Int) else -1
  | [] => rfl
  | c :: r => by
    unfold Lib.indexByte cw
    by_cases h : c = 10
    · subst h
      simp [notLf]
    · have hn : ((c.toNat : Int) == 10) = false := by
        have : c.toNat ≠ 10 := fun e => h (UInt8.toNat_inj.1 e)
        simp only [beq_eq_false_iff_ne, ne_eq]
        omega
      have ih := indexLf r
      rw [if_neg (by simp [h]), if_pos (show notLf c.toNat = true by unfold notLf; rw [hn]; rfl), List.length_cons]
      generalize cw notLf r = m at ih ⊢
      by_cases hl : m < r.length
      · rw [if_pos hl] at ih
        rw [ih, if_pos (show m + 1 < r.length + 1 by omega), if_neg (show ¬ ((m : Int) == -1) = true by simp)]
        omega
      · rw [if_neg hl] at ih
        rw [ih, if_neg (show ¬ m + 1 < r.length + 1 by omega)]
        rfl

set_option maxHeartbeats 800000 in
theorem commentSize_any (l : List UInt8) (w : World) (_hlen : l.length ≤ 1099511627776) :
    Calls Tryd.prog 22 #[.string (tx l)] w fun e w' => e = .returned (.int .i64 (cw notLf l)) ∧ w = w' := by
  have hsz := tx_size l
  have hle := cw_le notLf l
  obtain ⟨n, hn⟩ : ∃ n, l.length = n := ⟨_, rfl⟩
  obtain ⟨m, hm⟩ : ∃ m, cw notLf l = m := ⟨_, rfl⟩
  have hi := indexLf l
  rw [hn, hm] at hi
  rw [hn, hm] at hle
  rw [hn] at hsz _hlen
  rw [hm]
  by_cases h : m < n
  · rw [if_pos h] at hi
    have HI := Lib.hid hi
    clear hi hm hn
    go_enter Tryd.func22, Tryd.ntmps22
    go_wp2_with (go_at_call 34; refine (indexByte_any l 10 _).mono ?_; rintro e w1 ⟨rfl, rfl⟩; rw [HI.out])
    go_ret
    exact ⟨rfl, rfl⟩
  · rw [if_neg h] at hi
    have HI := Lib.hid hi
    clear hi hm hn
    go_enter Tryd.func22, Tryd.ntmps22
    go_wp2_with (go_at_call 34; refine (indexByte_any l 10 _).mono ?_; rintro e w1 ⟨rfl, rfl⟩; rw [HI.out])
    go_ret
    exact ⟨ret_int (by omega), rfl⟩

set_option maxRecDepth 100000 in
set_option maxHeartbeats 1600000 in
theorem named_any (l : List UInt8) (a : Nat) (w : World) (hlen : l.length ≤ 1099511627776) (ha : a ≤ l.length) :
    Calls Tryd.prog 32 #[.string (tx l), .int .i64 a] w fun e w' => e = .returned (.int .i64 (cw wordI (l.drop a))) ∧ w = w' := by
  have hsz := tx_size l
  obtain ⟨n, hn⟩ : ∃ n, l.length = n := ⟨_, rfl⟩
  rw [hn] at hsz hlen ha
  have HN := Lib.hid hn
  clear hn
  go_enter Tryd.func32, Tryd.ntmps32
  go_wp2_with fail
  go_loopw [5] (fun i wr => ∃ k : Nat, a + k ≤ n ∧ i = .int .i64 k ∧ cw wordI (l.drop a) = k + cw wordI (l.drop (a + k)) ∧ wr = w) (fun i _ => n - (intOf i).toNat)
  case atStart => exact ⟨0, ha, rfl, by simp, rfl⟩
  case round =>
    obtain ⟨k, hk, rfl, hc, rfl⟩ := hrel
    have HC := Lib.hid hc
    clear hc
    have hsum : (a : Int) + (k : Int) = ((a + k : Nat) : Int) := by omega
    by_cases hlt : a + k < n
    · obtain ⟨c, hc⟩ : ∃ c, l[a + k]? = some c := ⟨l[a + k]'(by have := HN.out; omega), List.getElem?_eq_getElem _⟩
      have hix0 := run_tx_at l (a + k) c hc
      have hix : ∀ W : World, (Instr.index 9 (.string (tx l)) (.int .i64 ((a : Int) + (k : Int)))).run Tryd.prog W = .ok (.int .u8 c.toNat) W := fun W => by rw [hsum]; exact hix0 W
      have HX := Lib.hid hc
      clear hc hix0 hsum
      have hcb : c.toNat < 256 := c.toNat_lt
      cases hp : wordI c.toNat
      · obtain ⟨hl, hd, hu⟩ : ltrI c.toNat = false ∧ digI c.toNat = false ∧ ((c.toNat : Int) == 95) = false := by unfold wordI at hp; simpa [and_assoc] using hp
        have HP := Lib.hid hp
        have HL := Lib.hid hl
        have HD := Lib.hid hd
        clear hp hl hd
        go_wp2_with (first | (go_at_call 31; refine (letter_any _ _).mono ?_; rintro e w1 ⟨rfl, rfl⟩; rw [HL.out]) | (go_at_call 38; refine (digit_any _ _).mono ?_; rintro e w1 ⟨rfl, rfl⟩; rw [HD.out]))
        go_ret
        exact ⟨ret_int (by rw [HC.out, cw_stop HX.out HP.out]; simp), rfl⟩
      · have HP := Lib.hid hp
        cases hl : ltrI c.toNat
        · cases hd : digI c.toNat
          · have hu : ((c.toNat : Int) == 95) = true := by unfold wordI at hp; rw [hl, hd] at hp; simpa using hp
            have HL := Lib.hid hl
            have HD := Lib.hid hd
            clear hp hl hd
            go_wp2_with (first | (go_at_call 31; refine (letter_any _ _).mono ?_; rintro e w1 ⟨rfl, rfl⟩; rw [HL.out]) | (go_at_call 38; refine (digit_any _ _).mono ?_; rintro e w1 ⟨rfl, rfl⟩; rw [HD.out]))
            go_roundw
            case rel => exact ⟨k + 1, by omega, by go_num, by rw [HC.out, cw_go HX.out HP.out, Nat.add_assoc a k 1]; omega, trivial⟩
            case measure => simp [intOf]; omega
          · have HL := Lib.hid hl
            have HD := Lib.hid hd
            clear hp hl hd
            go_wp2_with (first | (go_at_call 31; refine (letter_any _ _).mono ?_; rintro e w1 ⟨rfl, rfl⟩; rw [HL.out]) | (go_at_call 38; refine (digit_any _ _).mono ?_; rintro e w1 ⟨rfl, rfl⟩; rw [HD.out]))
            go_roundw
            case rel => exact ⟨k + 1, by omega, by go_num, by rw [HC.out, cw_go HX.out HP.out, Nat.add_assoc a k 1]; omega, trivial⟩
            case measure => simp [intOf]; omega
        · have HL := Lib.hid hl
          clear hp hl
          go_wp2_with (go_at_call 31; refine (letter_any _ _).mono ?_; rintro e w1 ⟨rfl, rfl⟩; rw [HL.out])
          go_roundw
          case rel => exact ⟨k + 1, by omega, by go_num, by rw [HC.out, cw_go HX.out HP.out, Nat.add_assoc a k 1]; omega, trivial⟩
          case measure => simp [intOf]; omega
    · clear hsum
      go_wp2_with fail
      go_ret
      exact ⟨ret_int (by rw [HC.out, cw_end (by have := HN.out; omega)]; omega), rfl⟩

theorem mark_take {c : UInt8} {k : Nat} {x : UInt8} (h : (marks.take k).contains c = false) (hx : marks[k]? = some x) (hne : c ≠ x) : (marks.take (k + 1)).contains c = false := by
  rw [List.take_add_one, hx]
  simp only [Option.toList_some, List.contains_eq_mem, List.mem_append, List.mem_singleton, decide_eq_false_iff_not, not_or]
  exact ⟨by simpa using h, hne⟩

set_option maxRecDepth 100000 in
set_option maxHeartbeats 1600000 in
theorem mark_any (c : UInt8) (w : World) :
    Calls Tryd.prog 40 #[.int .u8 c.toNat] w fun e w' => e = .returned (.bool (markB c)) ∧ w = w' := by
  have hcb : c.toNat < 256 := c.toNat_lt
  have hsz := tx_size marks
  go_enter Tryd.func40, Tryd.ntmps40
  go_wp2_with fail
  go_loopw [4] (fun i wr => ∃ k : Nat, k ≤ 8 ∧ i = .int .i64 k ∧ (marks.take k).contains c = false ∧ wr = w) (fun i _ => 8 - (intOf i).toNat)
  case atStart => exact ⟨0, by omega, rfl, rfl, rfl⟩
  case round =>
    obtain ⟨k, hk, rfl, hc, rfl⟩ := hrel
    have HC := Lib.hid hc
    clear hc
    by_cases hlt : k < 8
    · obtain ⟨x, hx⟩ : ∃ x, marks[k]? = some x := ⟨marks[k]'hlt, List.getElem?_eq_getElem _⟩
      have hix : ∀ W : World, (Instr.index 9 (.string { data := #[123, 125, 40, 41, 44, 59, 58, 61] }) (.int .i64 (k : Int))).run Tryd.prog W = .ok (.int .u8 x.toNat) W := run_tx_at marks k x hx
      have HX := Lib.hid hx
      clear hx
      by_cases hcx : c = x
      · subst hcx
        go_wp2_with fail
        go_ret
        exact ⟨ret_bool (by unfold markB; have := List.mem_of_getElem? HX.out; simpa using this), rfl⟩
      · have hne : ((x.toNat : Int) == (c.toNat : Int)) = false := by
          have : x.toNat ≠ c.toNat := fun e => hcx (UInt8.toNat_inj.1 e.symm)
          simp only [beq_eq_false_iff_ne, ne_eq]
          omega
        go_wp2_with fail
        go_roundw
        case rel => exact ⟨k + 1, by omega, by go_num, mark_take HC.out HX.out hcx, trivial⟩
        case measure => simp [intOf]; omega
    · obtain rfl : k = 8 := by omega
      go_wp2_with fail
      go_ret
      exact ⟨ret_bool (HC.out.symm), rfl⟩
end Go.Proofs.YtggdblmjnbnddaaDoor.W
