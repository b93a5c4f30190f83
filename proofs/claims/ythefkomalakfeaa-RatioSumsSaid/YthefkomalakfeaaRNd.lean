/-
  The reference's natMul: what it returns. Condition: at most 100000 digits.
-/
import Derived.Test.YthefkomalakfeaaRNc
import Derived.Deep.OwnRows
namespace Go.Proofs.Ythefkomalakfeaa.W
open Go.RowKit Go.Proofs.Ythefkomalakfeaa.Q

theorem made_digits (n : Nat) : madeCells #[Value.int .i64 0] n = (dgV (List.replicate n 0)).toArray := by
  have h := toList_madeCells_one (.int .i64 0) n
  rw [← Array.toArray_toList (xs := madeCells #[Value.int .i64 0] n), h]
  simp [dgV]
theorem make_digits (n : Nat) (hn : n ≤ 1099511627776) (w : World) : (Instr.makeSlice 43 (.int .i64 (n : Int)) (.int .i64 (n : Int))).run Try.prog w = .ok (.slice (some ⟨w.heap.size, 0, none⟩) n n) (w.alloc (.cells (dgV (List.replicate n 0)).toArray 3)) := by
  rw [← made_digits]
  exact run_make_row' (P := Try.prog) 43 3 (.int .i64 0) 8 Try.underlying43 infoI rfl .i64 .i64 n (by omega) (by omega) w
/-- a row of digits that the call has made -/
abbrev RowD (w : World) (g : Nat) (l : List Nat) : Prop := Blk w g 3 (dgV l).toArray
theorem RowD.cell {w : World} {g : Nat} {l : List Nat} (h : RowD w g l) {k : Nat} (hk : k < l.length) : w.cell? ⟨g, k, none⟩ = some (.int .i64 (l.getD k 0 : Nat)) := by
  rw [Blk.cell h k, List.getElem?_toArray, getD_at hk]
theorem dgV_set (l : List Nat) (k x : Nat) : (dgV l).set k (.int .i64 x) = dgV (l.set k x) := by
  unfold dgV
  rw [List.map_set]
theorem RowD.set_ {w : World} {g : Nat} {l : List Nat} (h : RowD w g l) (k x : Nat) : RowD (w.setCell ⟨g, k, none⟩ (.int .i64 x)) g (l.set k x) := by
  have := Blk.set_ h k (.int .i64 x)
  rw [List.setIfInBounds_toArray, dgV_set] at this
  exact this
theorem RowD.dgV {w : World} {g : Nat} {l : List Nat} (h : RowD w g l) (hl : l.length ≤ 1099511627776) : DgV w (.slice (some ⟨g, 0, none⟩) l.length l.length) l := by
  refine ⟨by rw [dgV_len, Nat.mul_one], _, _, rfl, Nat.le_refl _, by unfold maxLen; omega, fun _ => ⟨g, 0, rfl, Blk.lt h, fun j u hu => ?_⟩⟩
  rw [Nat.zero_add, Blk.cell h j, List.getElem?_toArray]
  exact hu
theorem RowD.tyD {w : World} {g : Nat} {l : List Nat} (h : RowD w g l) (n c : Nat) : TyD w (.slice (some ⟨g, 0, none⟩) n c) := fun k hk => by
  have e : g = k := by simpa [Value.ownBlock] using hk
  exact ⟨_, e ▸ h⟩
/-- a digit laid anew -/
theorem dnum_set {l : List Nat} {k : Nat} (h : k < l.length) (x : Nat) : dnum (l.set k x) + B15 ^ k * l.getD k 0 = dnum l + B15 ^ k * x := by
  induction l generalizing k with
  | nil => simp at h
  | cons y r ih =>
    cases k with
    | zero =>
      simp [dnum]
      omega
    | succ k =>
      have := ih (k := k) (by simpa using h)
      rw [List.set_cons_succ, dnum, dnum, List.getD_cons_succ, Nat.pow_succ]
      have e1 : B15 ^ k * B15 * r.getD k 0 = B15 * (B15 ^ k * r.getD k 0) := by rw [Nat.mul_comm (B15 ^ k), Nat.mul_assoc]
      have e2 : B15 ^ k * B15 * x = B15 * (B15 ^ k * x) := by rw [Nat.mul_comm (B15 ^ k), Nat.mul_assoc]
      rw [e1, e2]
      have e3 := congrArg (B15 * ·) this
      simp only [Nat.mul_add] at e3
      omega
theorem Dgs.set {l : List Nat} (h : Dgs l) (k : Nat) {x : Nat} (hx : x < 32768) : Dgs (l.set k x) := fun y hy => by
  rcases List.mem_or_eq_of_mem_set hy with h1 | h1
  · exact h y h1
  · rw [h1, b15_eq]; exact hx
theorem getD_set_ne {l : List Nat} {k j x : Nat} (h : k ≠ j) : (l.set k x).getD j 0 = l.getD j 0 := by
  rw [List.getD_eq_getElem?_getD, List.getD_eq_getElem?_getD, List.getElem?_set_ne h]
theorem dmul_step {n n' c o x y t s c' P R j : Nat} (h : n + B15 ^ j * c = P + R) (e : n' + B15 ^ j * o = n + B15 ^ j * s) (ht : c + (o + x * y) = t) (hs : t = s + B15 * c') : n' + B15 ^ (j + 1) * c' = P + (R + B15 ^ j * (x * y)) := by
  have e2 : B15 ^ j * c + B15 ^ j * o + B15 ^ j * (x * y) = B15 ^ j * s + B15 ^ (j + 1) * c' := by
    rw [Nat.pow_succ, Nat.mul_assoc, ← Nat.mul_add, ← Nat.mul_add, ← Nat.mul_add, ← hs, ← ht, Nat.add_assoc]
  generalize B15 ^ j * c = a1 at *
  generalize B15 ^ j * o = a2 at *
  generalize B15 ^ j * (x * y) = a3 at *
  generalize B15 ^ j * s = a4 at *
  generalize B15 ^ (j + 1) * c' = a5 at *
  omega

set_option maxRecDepth 100000 in
set_option maxHeartbeats 6400000 in
theorem natMul_any (N M : Nat) (x y : Value) (w : World) (hx : Js w x N) (hy : Js w y M) (hN : FewD N) (hM : FewD M) :
    Calls Try.prog 45 #[x, y] w fun e w' => ∃ v', e = .returned v' ∧ Js w' v' (N * M) ∧ Nw w w' := by
  obtain ⟨la, ⟨hla, A1, c1, rfl, hn1, hc1, hcell1⟩, hw1, hcut1, rfl, _⟩ := hx
  obtain ⟨lb, ⟨hlb, A2, c2, rfl, hn2, hc2, hcell2⟩, hw2, hcut2, rfl, _⟩ := hy
  have hlen1 := dfew_len hcut1 hN
  have hlen2 := dfew_len hcut2 hM
  obtain ⟨na, hna⟩ : ∃ n, la.length = n := ⟨_, rfl⟩
  obtain ⟨nb, hnb⟩ : ∃ n, lb.length = n := ⟨_, rfl⟩
  rw [hna] at hlen1 hcell1 ⊢
  rw [hnb] at hlen2 hcell2 ⊢
  obtain ⟨n, hn⟩ : ∃ n, na + nb = n := ⟨_, rfl⟩
  have e0 : IntKind.i64.wrap ((na : Int) + nb) = (n : Int) := by rw [← Int.natCast_add, hn]; exact wrapI n (by omega)
  have hmk := make_digits n (by omega)
  have HR := Lib.hid (show RowD (w.alloc (.cells (dgV (List.replicate n 0)).toArray 3)) w.heap.size (List.replicate n 0) from Blk.new w _ _)
  have HK0 := Lib.hid (nw_alloc w (.cells (dgV (List.replicate n 0)).toArray 3))
  have HA := Lib.hid (And.intro hcell1 (And.intro hw1 (And.intro hna hlen1)))
  have HB := Lib.hid (And.intro hcell2 (And.intro hw2 (And.intro hnb hlen2)))
  have HN := Lib.hid hn
  clear hcell1 hcell2 hw1 hw2 hna hnb hlen1 hlen2 hcut1 hcut2 hla hlb hN hM hn1 hn2 hc1 hc2 hn
  go_enter Try.func45, Try.ntmps45
  go_wp2
  clear e0 hmk
  go_loopw [6] (fun i wr => ∃ (k : Nat) (L : List Nat), i = .int .i64 k ∧ k ≤ na ∧ L.length = n ∧ Dgs L ∧ (∀ j, k + nb ≤ j → L.getD j 0 = 0) ∧ dnum L = dnum (la.take k) * dnum lb ∧ RowD wr w.heap.size L ∧ Nw w wr) (fun i _ => na - (intOf i).toNat)
  case atStart => exact ⟨0, _, rfl, Nat.zero_le _, List.length_replicate, fun z hz => by rw [List.eq_of_mem_replicate hz, b15_eq]; omega, fun j _ => by rw [List.getD_eq_getElem?_getD, List.getElem?_replicate]; split <;> rfl, by rw [dnum_zeros]; simp [dnum], HR.out, HK0.out⟩
  case round =>
    obtain ⟨i, L, rfl, hi, hL, hd, hz, hv, hrow, hnw⟩ := hrel
    have HL := Lib.hid (And.intro hL (And.intro hd (And.intro hz hv)))
    have HO := Lib.hid hrow
    have HK := Lib.hid hnw
    clear hL hd hz hv hrow hnw
    have i0 : (0 : Int) ≤ (i : Int) := by omega
    by_cases ha : i < na
    · have ia : (i : Int) < (na : Int) := by omega
      have hib : i ≤ 100000 := by have := HA.out.2.2.2; omega
      have e9 : IntKind.i64.wrap ((i : Int) + 1) = (i : Int) + 1 := by rw [IntKind.wrap_i64]; omega
      obtain ⟨a, hxa⟩ : ∃ a, la.getD i 0 = a := ⟨_, rfl⟩
      have hab : a < 32768 := by rw [← hxa]; exact getD_lt HA.out.2.1 i
      have HXA := Lib.hid hxa
      clear hxa
      go_wp2_with fail
      go_loopw [7, 8] (fun c k wx => ∃ (q k' : Nat) (L' : List Nat), c = .int .i64 q ∧ k = .int .i64 k' ∧ k' ≤ nb ∧ q < 32768 ∧ L'.length = n ∧ Dgs L' ∧ (∀ j, i + nb ≤ j → L'.getD j 0 = 0) ∧ dnum L' + B15 ^ (i + k') * q = dnum L + B15 ^ i * (a * dnum (lb.take k')) ∧ RowD wx w.heap.size L' ∧ Nw w wx) (fun _ k _ => nb - (intOf k).toNat)
      case atStart => exact ⟨0, 0, L, rfl, rfl, Nat.zero_le _, by omega, HL.out.1, HL.out.2.1, HL.out.2.2.1, by simp [dnum], HO.out, HK.out⟩
      case round =>
        obtain ⟨q, k, L', rfl, rfl, hk, hq, hL', hd', hz', hv', hrow', hnw'⟩ := hrel
        have HL' := Lib.hid (And.intro hL' (And.intro hd' (And.intro hz' (And.intro hv' hq))))
        have HO' := Lib.hid hrow'
        have HK' := Lib.hid hnw'
        clear hL' hd' hz' hv' hrow' hnw'
        have k0 : (0 : Int) ≤ (k : Int) := by omega
        have hkb : k ≤ 100000 := by have := HB.out.2.2.2; omega
        by_cases hb : k < nb
        · have ib : (k : Int) < (nb : Int) := by omega
          have e8 : IntKind.i64.wrap ((k : Int) + 1) = (k : Int) + 1 := by rw [IntKind.wrap_i64]; omega
          obtain ⟨y, hy⟩ : ∃ y, lb.getD k 0 = y := ⟨_, rfl⟩
          have hyb : y < 32768 := by rw [← hy]; exact getD_lt HB.out.2.1 k
          obtain ⟨j, hj⟩ : ∃ j, i + k = j := ⟨_, rfl⟩
          have hjn : j < n := by have := HN.out; omega
          have j0 : (0 : Int) ≤ (j : Int) := by omega
          have j1 : (j : Int) < (n : Int) := by omega
          have e7 : IntKind.i64.wrap ((i : Int) + k) = (j : Int) := by rw [← Int.natCast_add, hj]; exact wrapI j (by omega)
          obtain ⟨o, ho⟩ : ∃ o, L'.getD j 0 = o := ⟨_, rfl⟩
          have hob : o < 32768 := by rw [← ho]; exact getD_lt HL'.out.2.1 j
          have hp := Nat.mul_le_mul (show a ≤ 32767 by omega) (show y ≤ 32767 by omega)
          have m1 : IntKind.i64.wrap ((a : Int) * y) = ((a * y : Nat) : Int) := by rw [← Int.natCast_mul]; exact wrapI _ (by omega)
          obtain ⟨p, hpp⟩ : ∃ p, a * y = p := ⟨_, rfl⟩
          rw [hpp] at m1 hp
          have m2 : IntKind.i64.wrap ((o : Int) + p) = ((o + p : Nat) : Int) := by rw [← Int.natCast_add]; exact wrapI _ (by omega)
          obtain ⟨u, hu⟩ : ∃ u, o + p = u := ⟨_, rfl⟩
          rw [hu] at m2
          have m3 : IntKind.i64.wrap ((q : Int) + u) = ((q + u : Nat) : Int) := by rw [← Int.natCast_add]; exact wrapI _ (by omega)
          obtain ⟨t, ht⟩ : ∃ t, q + u = t := ⟨_, rfl⟩
          rw [ht] at m3
          obtain ⟨f1, f2, f3, f4, f5, f6⟩ := digit_forms t (by omega)
          obtain ⟨s, hs⟩ : ∃ s, t % 32768 = s := ⟨_, rfl⟩
          obtain ⟨c', hc'⟩ : ∃ c', t / 32768 = c' := ⟨_, rfl⟩
          rw [hs] at f1 f2 f3
          rw [hc'] at f4 f5 f6
          have w1 := wrapI s (by omega)
          have w2 := wrapI c' (by omega)
          obtain ⟨ga, oa, rfl, hba, hcla⟩ := HA.out.1 (by omega)
          have qa := (HK'.out.cell (p := ⟨ga, oa + i, none⟩) hba id).trans (hcla i _ (getD_at (by rw [HA.out.2.2.1]; omega)))
          rw [HXA.out] at qa
          obtain ⟨gb, ob, rfl, hbb, hclb⟩ := HB.out.1 (by omega)
          have qb := (HK'.out.cell (p := ⟨gb, ob + k, none⟩) hbb id).trans (hclb k _ (getD_at (by rw [HB.out.2.2.1]; omega)))
          rw [hy] at qb
          have qo := RowD.cell HO'.out (k := j) (by rw [HL'.out.1]; exact hjn)
          rw [ho] at qo
          have HD := Lib.hid (And.intro hy (And.intro hj (And.intro ho (And.intro hpp (And.intro hu (And.intro ht (show s < 32768 ∧ c' < 32768 ∧ t = s + B15 * c' ∧ j < n ∧ j < i + nb by rw [b15_eq]; omega)))))))
          clear hy hj ho hpp hu ht hs hc' hq hcla hclb hp
          go_wp2_with fail
          go_quiet (fail)
          generalize hw3 : World.drewN wr _ = w3
          have hk3 : Nw wr w3 := by rw [← hw3]; exact nw_drewN _ _
          have HO3 := Lib.hid (HO'.out.kp hk3 id : RowD w3 w.heap.size L')
          have HK3 := Lib.hid (HK'.out.tr hk3)
          have qo := RowD.cell HO3.out (k := j) (by rw [HL'.out.1]; exact HD.out.2.2.2.2.2.2.2.2.2.1)
          have qf := Blk.frozen HO3.out j
          clear hw3 hk3 qa qb
          go_wp2_with fail
          go_roundw
          case rel =>
            obtain ⟨hy, hj, ho, hpp, hu, ht, hs, hc, hts, hjn, hji⟩ := HD.out
            refine ⟨c', k + 1, L'.set j s, rfl, by go_num, by omega, hc, by rw [List.length_set]; exact HL'.out.1, Dgs.set HL'.out.2.1 j hs, fun z hz => by rw [getD_set_ne (by omega)]; exact HL'.out.2.2.1 z hz, ?_, RowD.set_ HO3.out j s, HK3.out.new (Nat.le_refl _) _ _⟩
            have hst := dnum_set (l := L') (k := j) (by rw [HL'.out.1]; exact hjn) s
            rw [ho] at hst
            have hv := HL'.out.2.2.2.1
            rw [hj] at hv
            have := dmul_step (x := a) (y := y) (t := t) hv hst (by rw [hpp, hu, ht]) hts
            rw [← Nat.add_assoc, hj, this, dnum_getD, hy, Nat.mul_add a, Nat.mul_add (B15 ^ i), ← hj, Nat.pow_add]
            congr 2
            simp only [Nat.mul_assoc, Nat.mul_comm, Nat.mul_left_comm]
          case measure => simp [intOf]; omega
        · obtain rfl : k = nb := by omega
          obtain ⟨j, hj⟩ : ∃ j, i + k = j := ⟨_, rfl⟩
          have hjn : j < n := by have := HN.out; omega
          have j0 : (0 : Int) ≤ (j : Int) := by omega
          have j1 : (j : Int) < (n : Int) := by omega
          have e7 : IntKind.i64.wrap ((i : Int) + k) = (j : Int) := by rw [← Int.natCast_add, hj]; exact wrapI j (by omega)
          have w1 := wrapI q (by omega)
          have hz0 := HL'.out.2.2.1 j (by omega)
          have qo := RowD.cell HO'.out (k := j) (by rw [HL'.out.1]; exact hjn)
          rw [hz0] at qo
          have qf := Blk.frozen HO'.out j
          have HD := Lib.hid (And.intro hj (And.intro hjn (And.intro hz0 hq)))
          clear hj hjn hz0 hq
          go_wp2_with fail
          go_roundw
          case rel =>
            obtain ⟨hj, hjn, hz0, hq⟩ := HD.out
            refine ⟨i + 1, L'.set j q, by go_num, by omega, by rw [List.length_set]; exact HL'.out.1, Dgs.set HL'.out.2.1 j hq, fun z hz => by rw [getD_set_ne (by omega)]; exact HL'.out.2.2.1 z (by omega), ?_, RowD.set_ HO'.out j q, HK'.out.new (Nat.le_refl _) _ _⟩
            have hst := dnum_set (l := L') (k := j) (by rw [HL'.out.1]; exact hjn) q
            rw [hz0, Nat.mul_zero, Nat.add_zero] at hst
            have hv := HL'.out.2.2.2.1
            rw [hj, List.take_of_length_le (by rw [HB.out.2.2.1]; exact Nat.le_refl _)] at hv
            rw [hst, hv, HL.out.2.2.2, dnum_getD, HXA.out, Nat.add_mul, Nat.mul_assoc]
          case measure => simp [intOf]; omega
    · obtain rfl : i = na := by omega
      have hv := HL.out.2.2.2
      rw [List.take_of_length_le (by rw [HA.out.2.2.1]; exact Nat.le_refl _)] at hv
      have ht := trim_any L (.slice (some ⟨w.heap.size, 0, none⟩) L.length L.length) wr (RowD.dgV HO.out (by rw [HL.out.1]; have := HN.out; have := HA.out.2.2.2; have := HB.out.2.2.2; omega)) HL.out.2.1 (by rw [HL.out.1]; have := HN.out; have := HA.out.2.2.2; have := HB.out.2.2.2; omega) (RowD.tyD HO.out _ _)
      rw [hv, HL.out.1] at ht
      have HT := Lib.hid ht
      clear ht hv
      go_wp2_with fail
      refine HT.out.mono ?_
      rintro e w6 ⟨rfl, v6, rfl, hjs⟩
      go_wp2
      go_ret
      exact ⟨v6, rfl, hjs, HK.out⟩
end Go.Proofs.Ythefkomalakfeaa.W
