/-
  The reference's Tokens: the tokens of a source, by Pl.toks. Condition: at most 2^40 bytes.
-/
import Derived.Test.YtggdblmjnbnddaaDoorLRt
import Derived.Test.YtggdblmjnbnddaaDoorLTk
namespace Go.Proofs.YtggdblmjnbnddaaDoor.W
open Go.RowKit Go.Proofs.YtggdblmjnbnddaaDoor.Pl

theorem infoRk : (Tryd.prog.info? 34).map (fun i => (i.zero, i.size, i.bytes)) = some (some (.agg #[.int .i64 0, .string { data := #[] }, .int .i64 0, .int .i64 0]), 4, 40) := by kernel_rfl
/-- the list v has just these tokens of the reference, in memory from block B on -/
abbrev OwnRk (w : World) (B : Nat) (v : Value) (ts : List Tk) : Prop := w.ownsRow B 34 4 v ts.length (flat tkC ts)
theorem cw_at (p : Int → Bool) : ∀ (l : List UInt8) (c : UInt8), l[cw p l]? = some c → p c.toNat = false
  | [], _, h => by simp at h
  | d :: r, c, h => by
    by_cases hp : p d.toNat = true
    · rw [cw_cons, if_pos hp, List.getElem?_cons_succ] at h
      exact cw_at p r c h
    · rw [cw_cons, if_neg hp, List.getElem?_cons_zero] at h
      cases h
      simpa using hp

set_option maxRecDepth 100000 in
set_option maxHeartbeats 6400000 in
theorem refTokens_any (l : List UInt8) (w : World) (hlen : l.length ≤ 1099511627776) :
    Calls Tryd.prog 12 #[.string (tx l)] w fun e w' => ∃ v, e = .returned (.tuple #[v, .int .i64 ((toks l).2.1 : Nat), .int .i64 (toks l).2.2]) ∧ OwnRk w' w.heap.size v (toks l).1 ∧ Nw w w' := by
  have hsz := tx_size l
  have htk : toks l = if 20000 < l.length then ([], 0, 9) else lx 0 l := rfl
  obtain ⟨n, hn⟩ : ∃ n, l.length = n := ⟨_, rfl⟩
  rw [hn] at hsz hlen htk
  have HN := Lib.hid hn
  clear hn
  generalize htz : toks l = z at *
  clear htz
  go_enter Tryd.func12, Tryd.ntmps12
  by_cases hbig : 20000 < n
  · rw [if_pos hbig] at htk
    subst htk
    go_wp2_with fail
    go_ret3
    exact ⟨_, rfl, World.ownsRow_nil _ _ _ _, Kp.refl _ _⟩
  · rw [if_neg hbig] at htk
    have HZ := Lib.hid htk
    clear htk
    go_wp2_with fail
    go_loopw [5, 6] (fun v i wr => ∃ (acc : List Tk) (k : Nat), k ≤ n ∧ acc.length ≤ k ∧ i = .int .i64 k ∧ OwnRk wr w.heap.size v acc ∧ Nw w wr ∧ z = glue acc (lx k (l.drop k))) (fun _ i _ => n - (intOf i).toNat)
    case atStart => exact ⟨[], 0, Nat.zero_le _, Nat.le_refl _, rfl, World.ownsRow_nil _ _ _ _, Kp.refl _ _, by rw [List.drop_zero, glue_lx]; exact HZ.out⟩
    case round =>
      obtain ⟨acc, k, hk, hak, rfl, hown, hnw, hz⟩ := hrel
      have HO := Lib.hid hown
      have HW := Lib.hid hnw
      have HE := Lib.hid hz
      clear hown hnw hz
      by_cases hlt : k < n
      · obtain ⟨c, hc⟩ : ∃ c, l[k]? = some c := ⟨l[k]'(by have := HN.out; omega), List.getElem?_eq_getElem _⟩
        have hix := run_tx_at l k c hc
        have hcb : c.toNat < 256 := c.toNat_lt
        have hm := rest_at hc
        have hml : (l.drop k).length = n - k := by rw [List.length_drop, HN.out]
        obtain ⟨m, hmm⟩ : ∃ m, l.drop k = m := ⟨_, rfl⟩
        rw [hmm] at hm hml
        have HM := Lib.hid hm
        have HMM := Lib.hid hmm
        have HML := Lib.hid hml
        clear hm hc hmm hml
        cases hb : blankI c.toNat
        · have HB := Lib.hid hb
          clear hb
          cases hh : (c == 35)
          · have HH := Lib.hid hh
            have hn35 : ¬ (c.toNat : Int) = 35 := fun e => by rw [show c = 35 from UInt8.toNat_inj.1 (by simp; omega)] at hh; exact absurd hh (by decide)
            clear hh
            have hrdc : ∀ w1 : World, Calls Tryd.prog 25 #[.string (tx l), .int .i64 k] w1 fun e w' => e = .returned (rdV (rdAt k (rd m))) ∧ Nw w1 w' := by
              rw [← HMM.out]
              exact fun w1 => token_any l k w1 (by rw [HN.out]; exact hlen) (by rw [HN.out]; exact hlt)
            obtain ⟨⟨t, j, er⟩, hq⟩ : ∃ q, rd m = q := ⟨_, rfl⟩
            rw [hq] at hrdc
            have HQ := Lib.hid hq
            have hq' : rd (c :: l.drop (k + 1)) = (t, j, er) := by rw [← HM.out]; exact hq
            have HQ' := Lib.hid hq'
            clear hq hq'
            by_cases her : er = 0
            · subst her
              have hat : rdAt k (t, j, 0) = ({ t with at_ := k }, j, 0) := rfl
              rw [hat] at hrdc
              clear hat
              have hs := rd_size (l := m) (by rw [HQ.out])
              rw [HQ.out, HML.out] at hs
              have hs1 : 1 ≤ j := hs.1
              have hs2 : j ≤ n - k := hs.2
              have hlx : lx k m = glue [{ t with at_ := k }] (lx (k + j) (l.drop (k + j))) := by
                rw [← rest_skip HMM.out HM.out hs1]
                have h := lx_tok k HB.out HH.out (r := l.drop (k + 1)) (by rw [HQ'.out])
                rw [HQ'.out, ← HM.out] at h
                exact h
              have HLX := Lib.hid hlx
              clear hlx hs
              go_wp2_with (first
                | (go_at_call 24; refine (blank_any _ _).mono ?_; rintro e w1 ⟨rfl, rfl⟩; rw [HB.out])
                | (go_at_call 25; refine (hrdc _).mono ?_; rintro e w1 ⟨rfl, hnw1⟩; have HN1 := Lib.hid hnw1; clear hnw1; have HO2 := Lib.hid (own_nw HO.out ((HN1.out).alloc (.cells #[.int .i64 t.kind, .string (tx t.text), .int .i64 t.n, .int .i64 k] 34))); have HW2 := Lib.hid ((HW.out.tr HN1.out).alloc (.cells #[.int .i64 t.kind, .string (tx t.text), .int .i64 t.n, .int .i64 k] 34)); unfold rdV tkV)
                | (at_builtin; refine wp_pushAt (w1.heap.size + 1) (by simp) rfl (.tmp 50) (.tmp 52) 27 34 4 40 (.agg #[.int .i64 0, .string { data := #[] }, .int .i64 0, .int .i64 0]) rfl Tryd.underlying27 infoRk rfl (by omega) w.heap.size acc.length _ (flat tkC acc) [.int .i64 t.kind, .string (tx t.text), .int .i64 t.n, .int .i64 k] rfl HO2.out rfl ?_ rfl ?_ ?_ HW2.out.size ?_; (intro u hu; simp at hu; rcases hu with rfl | rfl | rfl | rfl <;> rfl); omega; omega; intro v5 w5 own5 gr5))
              go_roundw
              case rel =>
                refine ⟨acc ++ [{ t with at_ := k }], k + j, by omega, by rw [List.length_append, List.length_singleton]; omega, by go_num, ?_, gr5.nw HW2.out (own_from HO2.out), by rw [HE.out, HMM.out, HLX.out, glue_glue]⟩
                unfold OwnRk
                rw [flat_snoc, List.length_append]
                exact own5
              case measure => simp [intOf]; omega
            · have hat : rdAt k (t, j, er) = (t, j, er) := if_neg her
              rw [hat] at hrdc
              clear hat
              have hlx : lx k m = ([], k, er) := by
                have h := lx_bad k HB.out HH.out (r := l.drop (k + 1)) (by rw [HQ'.out]; exact her)
                rw [HQ'.out, ← HM.out] at h
                exact h
              have HLX := Lib.hid hlx
              clear hlx
              go_wp2_with (first
                | (go_at_call 24; refine (blank_any _ _).mono ?_; rintro e w1 ⟨rfl, rfl⟩; rw [HB.out])
                | (go_at_call 25; refine (hrdc _).mono ?_; rintro e w1 ⟨rfl, hnw1⟩; have HN1 := Lib.hid hnw1; clear hnw1; unfold rdV tkV))
              go_ret3
              have hzz : z = ([], k, er) := by rw [HE.out, HMM.out, HLX.out, glue_bad _ _ her]
              subst hzz
              exact ⟨_, rfl, World.ownsRow_nil _ _ _ _, (HW.out.tr HN1.out).alloc _⟩
          · have HH := Lib.hid hh
            have hc35 : ((c.toNat : Int) == 35) = true := by rw [show c = 35 by simpa using hh]; rfl
            clear hh
            have hle := cw_le notLf m
            have h1 : 1 ≤ cw notLf m := by rw [HM.out, hash_cw _ HH.out]; omega
            rw [HML.out] at hle
            have hskip := rest_skip HMM.out HM.out h1
            have hlx : lx k m = lx (k + cw notLf m) (l.drop (k + cw notLf m)) := by
              rw [← hskip, HM.out, lx_hash k HB.out HH.out]
            have HLX := Lib.hid hlx
            have hin : ∀ i x, i < cw notLf m → l[k + i]? = some x → ((x.toNat : Int) == 10) = false := fun i x hi hx => by
              have := cw_in notLf m i x hi (by rw [← HMM.out, List.getElem?_drop]; exact hx)
              unfold notLf at this
              simpa using this
            have hend : ∀ x, l[k + cw notLf m]? = some x → ((x.toNat : Int) == 10) = true := fun x hx => by
              have := cw_at notLf m x (by rw [← HMM.out, List.getElem?_drop, HMM.out]; exact hx)
              unfold notLf at this
              simpa using this
            have HIN := Lib.hid hin
            have HEND := Lib.hid hend
            clear hlx hskip hin hend
            generalize cw notLf m = j at *
            go_wp2_with (go_at_call 24; refine (blank_any _ _).mono ?_; rintro e w1 ⟨rfl, rfl⟩; rw [HB.out])
            go_loopw [6] (fun v wr2 => ∃ i : Nat, i ≤ j ∧ v = .int .i64 ((k : Int) + (i : Int)) ∧ wr2 = wr) (fun v _ => n - (intOf v).toNat)
            case atStart => exact ⟨0, Nat.zero_le _, by simp, rfl⟩
            case round =>
              obtain ⟨i, hi, rfl, rfl⟩ := hrel
              by_cases hij : i < j
              · obtain ⟨x, hx⟩ : ∃ x, l[k + i]? = some x := ⟨l[k + i]'(by have := HN.out; omega), List.getElem?_eq_getElem _⟩
                have hix2 : ∀ W : World, (Instr.index 9 (.string (tx l)) (.int .i64 ((k : Int) + (i : Int)))).run Tryd.prog W = .ok (.int .u8 x.toNat) W := fun W => run_tx_at l (k + i) x hx W
                have hx10 := HIN.out i x hij hx
                clear hx
                go_wp2_with fail
                go_roundw
                case rel => exact ⟨i + 1, hij, by go_num, trivial⟩
                case measure => simp [intOf]; omega
              · obtain rfl : i = j := by omega
                by_cases hkn : k + i < n
                · obtain ⟨x, hx⟩ : ∃ x, l[k + i]? = some x := ⟨l[k + i]'(by have := HN.out; omega), List.getElem?_eq_getElem _⟩
                  have hix2 : ∀ W : World, (Instr.index 9 (.string (tx l)) (.int .i64 ((k : Int) + (i : Int)))).run Tryd.prog W = .ok (.int .u8 x.toNat) W := fun W => run_tx_at l (k + i) x hx W
                  have hx10 := HEND.out x hx
                  clear hx
                  go_wp2_with fail
                  go_roundw
                  case rel => exact ⟨acc, k + i, by omega, by omega, by go_num, HO.out, HW.out, by rw [HE.out, HMM.out, HLX.out]⟩
                  case measure => simp [intOf]; omega
                · go_wp2_with fail
                  go_roundw
                  case rel => exact ⟨acc, k + i, by omega, by omega, by go_num, HO.out, HW.out, by rw [HE.out, HMM.out, HLX.out]⟩
                  case measure => simp [intOf]; omega
        · have HB := Lib.hid hb
          clear hb
          go_wp2_with (go_at_call 24; refine (blank_any _ _).mono ?_; rintro e w1 ⟨rfl, rfl⟩; rw [HB.out])
          go_roundw
          case rel => exact ⟨acc, k + 1, hlt, by omega, by go_num, HO.out, HW.out, by rw [HE.out, HMM.out, HM.out, lx_blank k HB.out]⟩
          case measure => simp [intOf]; omega
      · go_wp2_with fail
        go_ret3
        have hzz : z = (acc, 0, 0) := by rw [HE.out, List.drop_eq_nil_of_le (by have := HN.out; omega), lx_nil, glue_end]
        subst hzz
        exact ⟨_, rfl, HO.out, HW.out⟩
end Go.Proofs.YtggdblmjnbnddaaDoor.W
