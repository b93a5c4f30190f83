/-
  ratio.nat: over, timesPlus, times: what they return. Condition: at most 100000 words.
-/
import Derived.Test.YthefkomalakfeaaQNa
import Derived.Laws.CopyOwn
import Derived.Deep.OwnRows
namespace Go.Proofs.Ythefkomalakfeaa.W
open Go.RowKit Go.Proofs.Ythefkomalakfeaa.Q

theorem infoW : (Try.prog.info? 48).map (fun i => (i.zero, i.size, i.bytes)) = some (some (.int .u64 0), 1, 8) := by kernel_rfl
theorem made_words (n : Nat) : madeCells #[Value.int .u64 0] n = (wdV (List.replicate n 0)).toArray := by
  have h := toList_madeCells_one (.int .u64 0) n
  rw [← Array.toArray_toList (xs := madeCells #[Value.int .u64 0] n), h]
  simp [wdV]
/-- make of n words -/
theorem make_words (n : Nat) (hn : n ≤ 1099511627776) (w : World) : (Instr.makeSlice 58 (.int .i64 (n : Int)) (.int .i64 (n : Int))).run Try.prog w = .ok (.slice (some ⟨w.heap.size, 0, none⟩) n n) (w.alloc (.cells (wdV (List.replicate n 0)).toArray 48)) := by
  rw [← made_words]
  exact run_make_row' (P := Try.prog) 58 48 (.int .u64 0) 8 Try.underlying58 infoW rfl .i64 .i64 n (by omega) (by omega) w
/-- a row of words that the call has made -/
abbrev RowN (w : World) (g : Nat) (l : List Nat) : Prop := Blk w g 48 (wdV l).toArray
theorem RowN.cell {w : World} {g : Nat} {l : List Nat} (h : RowN w g l) {k x : Nat} (hx : l[k]? = some x) : w.cell? ⟨g, k, none⟩ = some (.int .u64 x) := by
  rw [Blk.cell h k, List.getElem?_toArray, wdV_at, hx]
  rfl
theorem wdV_set (l : List Nat) (k x : Nat) : (wdV l).set k (.int .u64 x) = wdV (l.set k x) := by
  unfold wdV
  rw [List.map_set]
theorem RowN.set_ {w : World} {g : Nat} {l : List Nat} (h : RowN w g l) (k x : Nat) : RowN (w.setCell ⟨g, k, none⟩ (.int .u64 x)) g (l.set k x) := by
  have := Blk.set_ h k (.int .u64 x)
  rw [List.setIfInBounds_toArray, wdV_set] at this
  exact this
theorem RowN.natV {w : World} {g : Nat} {l : List Nat} (h : RowN w g l) (hl : l.length ≤ 1099511627776) : NatV w (.slice (some ⟨g, 0, none⟩) l.length l.length) l := by
  refine ⟨by rw [wdV_len, Nat.mul_one], _, _, rfl, Nat.le_refl _, by unfold maxLen; omega, fun _ => ⟨g, 0, rfl, Blk.lt h, fun j u hu => ?_⟩⟩
  rw [Nat.zero_add, Blk.cell h j, List.getElem?_toArray]
  exact hu
theorem RowN.tyW {w : World} {g : Nat} {l : List Nat} (h : RowN w g l) (n c : Nat) : TyW w (.slice (some ⟨g, 0, none⟩) n c) := fun k hk => by
  have e : g = k := by simpa [Value.ownBlock] using hk
  exact ⟨_, e ▸ h⟩
theorem set_zeros (j q : Nat) (m : List Nat) : (List.replicate (j + 1) 0 ++ m).set j q = List.replicate j 0 ++ (q :: m) := by
  rw [List.replicate_succ', List.append_assoc, List.set_append_right _ _ (by simp)]
  simp
theorem set_word (a b : List Nat) (x y j : Nat) (h : a.length = j) : (a ++ y :: b).set j x = a ++ x :: b := by
  rw [List.set_append_right _ _ (by omega), h, Nat.sub_self]
  rfl
theorem zeros_at (j : Nat) (m : List Nat) : (List.replicate (j + 1) 0 ++ m)[j]? = some 0 := by
  rw [List.getElem?_append_left (by simp)]
  simp

theorem rep_at {m : List Nat} {k r : Nat} (h : m.length = k) (hr : 0 < r) : (m ++ List.replicate r 0)[k]? = some 0 := by
  rw [List.getElem?_append_right (by omega), h, Nat.sub_self]
  simp [hr]
theorem rep_set {m : List Nat} {k n x : Nat} (h : m.length = k) (hk : k < n) : (m ++ List.replicate (n - k) 0).set k x = m ++ [x] ++ List.replicate (n - (k + 1)) 0 := by
  rw [show n - k = (n - (k + 1)) + 1 by omega, List.replicate_succ, set_word m _ x 0 k h, List.append_assoc]
  rfl

set_option maxRecDepth 100000 in
set_option maxHeartbeats 3200000 in
theorem over_any (N d : Nat) (v : Value) (w : World) (hv : Is w v N) (hN : Few N) (hd0 : 0 < d) (hd : d < 18446744073709551616) :
    Calls Try.prog 63 #[v, .int .u64 d] w fun e w' => ∃ v', e = .returned v' ∧ Is w' v' (N / d) ∧ Nw w w' := by
  obtain ⟨l, ⟨hl, A, c, rfl, hnc, hcm, hcell⟩, hw, hcut, rfl, _⟩ := hv
  have hlen := few_len hcut hN
  obtain ⟨n, hn⟩ : ∃ n, l.length = n := ⟨_, rfl⟩
  rw [hn] at hlen hnc hcell hl ⊢
  have HN := Lib.hid hn
  have HC := Lib.hid hcell
  have HW := Lib.hid hw
  have HL := Lib.hid hlen
  have hmk := make_words n (by omega)
  have HR : Hid (RowN (w.alloc (.cells (wdV (List.replicate n 0)).toArray 48)) w.heap.size (List.replicate n 0)) := Lib.hid (Blk.new w _ _)
  have HK0 := Lib.hid (nw_alloc w (.cells (wdV (List.replicate n 0)).toArray 48))
  have e0 : IntKind.i64.wrap ((n : Int) - 1) = (n : Int) - 1 := by rw [IntKind.wrap_i64]; omega
  clear hl hn hcell hw hcut hN hcm hnc
  go_enter Try.func63, Try.ntmps63
  go_wp2
  clear e0 hmk
  go_loopw [6, 7] (fun r s wr => ∃ (q k : Nat) (m : List Nat), r = .int .u64 q ∧ s = .int .i64 ((k : Int) - 1) ∧ k + m.length = n ∧ Wds m ∧ q < d ∧ num (l.drop k) = num m * d + q ∧ RowN wr w.heap.size (List.replicate k 0 ++ m) ∧ Nw w wr) (fun _ s _ => (intOf s + 1).toNat)
  case atStart => exact ⟨0, n, [], rfl, rfl, rfl, wds_nil, hd0, by rw [← HN.out, List.drop_length]; simp [num], by rw [List.append_nil]; exact HR.out, HK0.out⟩
  case round =>
    obtain ⟨q, k, m, rfl, rfl, hk, hm, hqd, hq, hrow, hnw⟩ := hrel
    have HQ := Lib.hid hq
    have HK := Lib.hid hnw
    have HO := Lib.hid hrow
    have HM := Lib.hid hm
    clear hq hnw hrow hm
    rcases Nat.eq_zero_or_pos k with h0 | h0
    · subst h0
      obtain rfl : m.length = n := by omega
      have hv : NatV wr (.slice (some ⟨w.heap.size, 0, none⟩) m.length m.length) m := RowN.natV (by have := HO.out; simpa using this) (by have := HL.out; omega)
      have ht := fun w1 hw1 hw2 => trimmed_any m (.slice (some ⟨w.heap.size, 0, none⟩) m.length m.length) w1 hw1 HM.out (by have := HL.out; omega) hw2
      go_wp2_with fail
      refine (ht _ hv (RowN.tyW HO.out _ _)).mono ?_
      rintro e w1 ⟨rfl, v', rfl, his⟩
      go_wp2
      go_ret
      refine ⟨v', rfl, ?_, HK.out⟩
      have : num m = num l / d := by
        have h := HQ.out
        rw [List.drop_zero] at h
        rw [h, Nat.mul_comm, Nat.mul_add_div hd0, Nat.div_eq_of_lt hqd, Nat.add_zero]
      rw [← this]
      exact his
    · obtain ⟨j, hj⟩ : ∃ j, k = j + 1 := ⟨k - 1, by omega⟩
      have hkj : (k : Int) - 1 = j := by omega
      rw [hkj]
      have e1 : decide ((j : Int) ≥ 0) = true := decide_eq_true (by omega)
      have i3 : (0 : Int) ≤ (j : Int) := by omega
      have i4 : (j : Int) < (n : Int) := by omega
      have e2 : IntKind.i64.wrap ((j : Int) - 1) = (j : Int) - 1 := by rw [IntKind.wrap_i64]; have := HL.out; omega
      obtain ⟨g, o, rfl, hb, hc⟩ := HC.out (by omega)
      obtain ⟨x, hx⟩ : ∃ x, l[j]? = some x := ⟨l[j]'(by rw [HN.out]; omega), List.getElem?_eq_getElem _⟩
      have q0 := (HK.out.cell (p := ⟨g, o + j, none⟩) hb id).trans (hc j (.int .u64 x) (by rw [wdV_at, hx]; rfl))
      have hxb := HW.out.at hx
      have hdv := fun w1 => div64_any q x d (by rw [b64_eq] at hxb; exact hxb) hd hqd w1
      obtain ⟨q', hq'⟩ : ∃ q', (q * 18446744073709551616 + x) % d = q' := ⟨_, rfl⟩
      obtain ⟨z, hz⟩ : ∃ z, (q * 18446744073709551616 + x) / d = z := ⟨_, rfl⟩
      have hzb : z < B64 := by rw [← hz, ← b64_eq]; exact over_lt hqd hxb
      have hqb : q' < d := by rw [← hq']; exact Nat.mod_lt _ hd0
      have hstep : num (l.drop j) = num (z :: m) * d + q' := by
        rw [← hz, ← hq', ← b64_eq, num]
        exact over_step HQ.out (by rw [num_drop hx, hj])
      rw [hq', hz] at hdv
      have HS := Lib.hid hstep
      clear hc hxb hq' hz hstep
      subst hj
      go_wp2_with fail
      with_reducible refine (hdv _).mono ?_
      rintro e w1 ⟨rfl, kk, hw1⟩
      have HK1 := Lib.hid (show Nw wr w1 by rw [hw1]; exact nw_drewN _ _)
      have HO1 := Lib.hid (HO.out.kp HK1.out id : RowN w1 w.heap.size (List.replicate (j + 1) 0 ++ m))
      clear hw1
      have r0 := RowN.cell HO1.out (zeros_at j m)
      have r1 := Blk.frozen HO1.out j
      go_wp2_with fail
      go_roundw
      case rel =>
        refine ⟨q', j, z :: m, rfl, rfl, ?_, ?_, hqb, HS.out, ?_, ?_⟩
        · rw [List.length_cons]; omega
        · intro y hy
          rcases List.mem_cons.1 hy with h | h
          · rw [h]; exact hzb
          · exact HM.out y h
        · rw [← set_zeros]
          exact RowN.set_ HO1.out j z
        · exact (HK.out.tr HK1.out).new (Nat.le_refl _) _ _
      case measure => simp [intOf]

set_option maxRecDepth 100000 in
set_option maxHeartbeats 3200000 in
theorem timesPlus_any (N f a : Nat) (v : Value) (w : World) (hv : Is w v N) (hN : Few N) (hf : f < 18446744073709551616) (ha : a < 18446744073709551616) :
    Calls Try.prog 74 #[v, .int .u64 f, .int .u64 a] w fun e w' => ∃ v', e = .returned v' ∧ Is w' v' (N * f + a) ∧ Nw w w' := by
  obtain ⟨l, ⟨hl, A, c, rfl, hnc, hcm, hcell⟩, hw, hcut, rfl, _⟩ := hv
  have hlen := few_len hcut hN
  obtain ⟨n, hn⟩ : ∃ n, l.length = n := ⟨_, rfl⟩
  rw [hn] at hlen hnc hcell hl ⊢
  have HN := Lib.hid hn
  have HC := Lib.hid hcell
  have HW := Lib.hid hw
  have HL := Lib.hid hlen
  have HF := Lib.hid hf
  have HA := Lib.hid ha
  obtain ⟨n1, hn1⟩ : ∃ n1, n + 1 = n1 := ⟨_, rfl⟩
  have hmk := make_words n1 (by omega)
  have HR : Hid (RowN (w.alloc (.cells (wdV (List.replicate n1 0)).toArray 48)) w.heap.size (List.replicate n1 0)) := Lib.hid (Blk.new w _ _)
  have HK0 := Lib.hid (nw_alloc w (.cells (wdV (List.replicate n1 0)).toArray 48))
  have e0 : IntKind.i64.wrap ((n : Int) + 1) = (n1 : Int) := by rw [IntKind.wrap_i64]; omega
  have HN1 := Lib.hid hn1
  clear hl hn hcell hw hcut hN hcm hnc hf ha hn1
  go_enter Try.func74, Try.ntmps74
  go_wp2
  clear e0 hmk
  go_loopw [8, 22] (fun r s wr => ∃ (q k : Nat) (m : List Nat), r = .int .u64 q ∧ s = .int .i64 (k : Int) ∧ k ≤ n ∧ m.length = k ∧ Wds m ∧ q < B64 ∧ num m + B64 ^ k * q = num (l.take k) * f + a ∧ RowN wr w.heap.size (m ++ List.replicate (n1 - k) 0) ∧ Nw w wr) (fun _ s _ => n - (intOf s).toNat)
  case atStart => exact ⟨a, 0, [], rfl, rfl, Nat.zero_le _, rfl, wds_nil, by rw [b64_eq]; exact HA.out, by simp [num], by rw [Nat.sub_zero, List.nil_append]; exact HR.out, HK0.out⟩
  case round =>
    obtain ⟨q, k, m, rfl, rfl, hk, hml, hm, hqb, hq, hrow, hnw⟩ := hrel
    have HQ := Lib.hid hq
    have HK := Lib.hid hnw
    have HO := Lib.hid hrow
    have HM := Lib.hid hm
    have HQB := Lib.hid hqb
    have HML := Lib.hid hml
    clear hq hnw hrow hm hml hqb
    by_cases hkn : k < n
    · have i3 : (0 : Int) ≤ (k : Int) := by omega
      have i4 : (k : Int) < (n : Int) := by omega
      have i5 : (k : Int) < (n1 : Int) := by have := HN1.out; omega
      have e2 : IntKind.i64.wrap ((k : Int) + 1) = (k : Int) + 1 := by rw [IntKind.wrap_i64]; have := HL.out; omega
      obtain ⟨g, o, rfl, hb, hc⟩ := HC.out (by omega)
      obtain ⟨x, hx⟩ : ∃ x, l[k]? = some x := ⟨l[k]'(by rw [HN.out]; omega), List.getElem?_eq_getElem _⟩
      have q0 := (HK.out.cell (p := ⟨g, o + k, none⟩) hb id).trans (hc k (.int .u64 x) (by rw [wdV_at, hx]; rfl))
      have hxb := HW.out.at hx
      obtain ⟨t1, t2⟩ := times_round x f q hxb (by rw [b64_eq]; exact HF.out) HQB.out
      have hm64 := fun w1 => mul64_any x f (by rw [b64_eq] at hxb; exact hxb) HF.out w1
      have hst := times_step (x * f) HQ.out t2
      have hq2 : num (l.take k) * f + a + B64 ^ k * (x * f) = num (l.take (k + 1)) * f + a := by
        rw [num_take hx, Nat.add_mul, Nat.mul_assoc, Nat.add_right_comm]
      rw [hq2] at hst
      rw [b64_eq] at t1 hst
      obtain ⟨h, hh⟩ : ∃ z, x * f / 18446744073709551616 = z := ⟨_, rfl⟩
      obtain ⟨lw, hlw⟩ : ∃ z, x * f % 18446744073709551616 = z := ⟨_, rfl⟩
      rw [hh, hlw] at hm64
      rw [hh, hlw] at t1 hst
      have had : ∀ w1, (callFunc 82 #[.int .u64 lw, .int .u64 q, .int .u64 0]).run Try.prog w1 = .ok (.value (.tuple #[.int .u64 (((lw + q + 0) % 18446744073709551616 : Nat) : Int), .int .u64 (((lw + q + 0) / 18446744073709551616 : Nat) : Int)])) w1 := fun w1 => add64_any lw q 0 (by omega) w1
      rw [Nat.add_zero] at had
      obtain ⟨sm, hsm⟩ : ∃ z, (lw + q) % 18446744073709551616 = z := ⟨_, rfl⟩
      obtain ⟨ov, hov⟩ : ∃ z, (lw + q) / 18446744073709551616 = z := ⟨_, rfl⟩
      rw [hsm, hov] at had
      rw [hov] at t1
      rw [hsm, hov] at hst
      have hsmb : sm < B64 := by rw [← hsm, b64_eq]; exact Nat.mod_lt _ (by omega)
      have e3 : IntKind.u64.wrap ((h : Int) + ov) = ((h + ov : Nat) : Int) := by rw [← Int.natCast_add]; exact wrapU _ t1
      obtain ⟨q', hq'⟩ : ∃ z, h + ov = z := ⟨_, rfl⟩
      rw [hq'] at e3 t1 hst
      have HS := Lib.hid hst
      have HT := Lib.hid t1
      have HSM := Lib.hid hsmb
      clear hc hxb t1 t2 hst hq2 hh hlw hsm hov hsmb hq'
      go_wp2_with fail
      with_reducible refine (hm64 _).mono ?_
      rintro e w1 ⟨rfl, rfl⟩
      have r0 := RowN.cell HO.out (k := k) (x := 0) (rep_at HML.out (by omega))
      have r1 := Blk.frozen HO.out k
      go_wp2_with fail
      go_roundw
      case rel =>
        refine ⟨q', k + 1, m ++ [sm], rfl, by go_num, by omega, by rw [List.length_append, HML.out]; rfl, HM.out.append (Wds.one HSM.out), HT.out, ?_, ?_, ?_⟩
        · rw [num_snoc, HML.out, b64_eq]; exact HS.out
        · rw [← rep_set HML.out (by omega)]
          exact RowN.set_ HO.out k sm
        · exact HK.out.new (Nat.le_refl _) _ _
      case measure => simp [intOf]; omega
    · obtain rfl : k = n := by omega
      have i5 : (k : Int) < (n1 : Int) := by have := HN1.out; omega
      have i3 : (0 : Int) ≤ (k : Int) := by omega
      have r0 := RowN.cell HO.out (k := k) (x := 0) (rep_at HML.out (by omega))
      have r1 := Blk.frozen HO.out k
      have hrow := RowN.set_ HO.out k q
      rw [rep_set HML.out (by omega), show n1 - (k + 1) = 0 by have := HN1.out; omega, List.replicate_zero, List.append_nil] at hrow
      have hlen : (m ++ [q]).length = n1 := by rw [List.length_append, HML.out]; exact HN1.out
      have hv : NatV _ (.slice (some ⟨w.heap.size, 0, none⟩) (m ++ [q]).length (m ++ [q]).length) (m ++ [q]) := RowN.natV hrow (by have := HL.out; have := HN1.out; omega)
      have ht := trimmed_any (m ++ [q]) _ _ hv (HM.out.append (Wds.one HQB.out)) (by have := HL.out; have := HN1.out; omega) (RowN.tyW hrow _ _)
      have e1 : num (m ++ [q]) = num l * f + a := by
        have h := HQ.out
        rw [List.take_of_length_le (by rw [HN.out]; exact Nat.le_refl _)] at h
        rw [num_snoc, HML.out, h]
      rw [e1, hlen] at ht
      have HT := Lib.hid ht
      clear hv ht hrow hlen e1
      go_wp2_with fail
      refine (HT.out).mono ?_
      rintro e w1 ⟨rfl, v', rfl, his⟩
      go_wp2
      go_ret
      exact ⟨v', rfl, his, HK.out.new (Nat.le_refl _) _ _⟩

set_option maxHeartbeats 800000 in
theorem times_any (N f : Nat) (v : Value) (w : World) (hv : Is w v N) (hN : Few N) (hf : f < 18446744073709551616) :
    Calls Try.prog 64 #[v, .int .u64 f] w fun e w' => ∃ v', e = .returned v' ∧ Is w' v' (N * f) ∧ Nw w w' := by
  have ht : Calls Try.prog 74 #[v, .int .u64 f, .int .u64 0] w _ := timesPlus_any N f 0 v w hv hN hf (by omega)
  rw [Nat.add_zero] at ht
  go_enter Try.func64, Try.ntmps64
  go_wp2_with fail
  refine ht.mono ?_
  rintro e w1 ⟨v', rfl, his, hnw⟩
  go_wp2
  go_ret
  exact ⟨v', rfl, his, hnw⟩
end Go.Proofs.Ythefkomalakfeaa.W
