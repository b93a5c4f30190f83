/-
  fretsawlaw03.HeapClones returns true for every two lists and number. Condition: the arguments are read.
-/
import Derived.Test.YtogfcenebbipeaaHClone
import Derived.Test.YtogfcenebbipeaaHArgI
namespace Go.Proofs.Ytogfcenebbipeaa.W
open Go.RowKit Go.Proofs.Ytogfcenebbipeaa.Pl

theorem allQ_app (rk : Int → Int) : ∀ (l m : List (Int × Int)) (p : Nat) (q : List Ent), allQ rk (l ++ m) p q = allQ rk m (p + l.length) (allQ rk l p q)
  | [], m, p, q => rfl
  | x :: l, m, p, q => by
    rw [List.cons_append, allQ, allQ_app rk l m, allQ, List.length_cons]
    have e : p + 1 + l.length = p + (l.length + 1) := by omega
    rw [e]

/-- a heap in block H, of blocks behind w0 -/
structure Lone (w0 w : World) (H p : Nat) (v : Value) (q : List Ent) : Prop where
  hp : HpI 0 w H v q p
  ft : ∀ k, Ft H v k → w0.heap.size ≤ k
theorem Lone.nw {w0 w w' : World} {H p : Nat} {v : Value} {q : List Ent} (h : Lone w0 w H p v q) (hk : Nw w w') : Lone w0 w' H p v q := ⟨h.hp.nw hk, h.ft⟩
theorem Lone.kp {S : Nat → Prop} {w0 w w' : World} {H p : Nat} {v : Value} {q : List Ent} (h : Lone w0 w H p v q) (hk : Kp S w w') (hS : ∀ k, Ft H v k → ¬ S k) : Lone w0 w' H p v q := ⟨h.hp.kp hk hS, h.ft⟩
theorem Lone.popped {w0 w w' : World} {H p : Nat} {v v' : Value} {q q' : List Ent} (h : Lone w0 w H p v q) (h' : HpI 0 w' H v' q' p) (hv : v'.ownBlock = v.ownBlock) : Lone w0 w' H p v' q' :=
  ⟨h', fun k e => h.ft k (e.imp id fun e => hv ▸ e)⟩
theorem Lone.pushed {w0 w w' : World} {H p p' : Nat} {v v' : Value} {q q' : List Ent} (h : Lone w0 w H p v q) (h0 : Nw w0 w) (h' : HpI 0 w' H v' q' p') (hv : v'.ownBlock = v.ownBlock ∨ ∃ k, v'.ownBlock = some k ∧ w.heap.size ≤ k) : Lone w0 w' H p' v' q' :=
  ⟨h', fun k e => e.elim (fun e => h.ft k (.inl e)) (fun e => by
    rcases hv with e2 | ⟨k2, e2, hk2⟩
    · exact h.ft k (.inr (e2 ▸ e))
    · rw [e2] at e
      injection e with e
      have := h0.size
      omega)⟩
/-- two heaps that share no block -/
def Apart (H1 : Nat) (v1 : Value) (H2 : Nat) (v2 : Value) : Prop := ∀ k, Ft H1 v1 k → ¬ Ft H2 v2 k
theorem Apart.symm {H1 H2 : Nat} {v1 v2 : Value} (h : Apart H1 v1 H2 v2) : Apart H2 v2 H1 v1 := fun k e e2 => h k e2 e
theorem Apart.popped {H1 H2 : Nat} {v1 v1' v2 : Value} (h : Apart H1 v1 H2 v2) (hv : v1'.ownBlock = v1.ownBlock) : Apart H1 v1' H2 v2 := fun k e => h k (e.imp id fun e => hv ▸ e)
theorem Apart.pushed {w : World} {H1 H2 : Nat} {v1 v1' v2 : Value} (h : Apart H1 v1 H2 v2) (h2 : ∀ k, Ft H2 v2 k → k < w.heap.size) (hv : v1'.ownBlock = v1.ownBlock ∨ ∃ k, v1'.ownBlock = some k ∧ w.heap.size ≤ k) : Apart H1 v1' H2 v2 := fun k e e2 =>
  e.elim (fun e => h k (.inl e) e2) (fun e => by
    rcases hv with e3 | ⟨k2, e3, hk2⟩
    · exact h k (.inr (e3 ▸ e)) e2
    · rw [e3] at e
      injection e with e
      have := h2 k e2
      omega)
theorem kpFt {w w' : World} {H : Nat} {v : Value} (h : Kp (fun k => Ft H v k ∨ CsI 0 k) w w') : Kp (Ft H v) w w' := h.mono fun _ _ e => e.elim id fun e => e.elim

/-- a row of our own and a part cut from it -/
structure CutV (w : World) (B : Nat) (v : Value) (l : List (Int × Int)) (u : Value) (m : List (Int × Int)) : Prop where
  own : OwnVI w B v l
  src : SrcI w u m
  blk : ∀ g, u.ownBlock = some g → v.ownBlock = some g
theorem CutV.kp {S : Nat → Prop} {w w' : World} {B : Nat} {v u : Value} {l m : List (Int × Int)} (h : CutV w B v l u m) (hk : Kp S w w') (hv : ∀ g, v.ownBlock = some g → ¬ S g) : CutV w' B v l u m :=
  ⟨h.own.kp hk hv, Src.kp h.src hk fun g _ e => hv g (h.blk g e), h.blk⟩
theorem CutV.nw {w w' : World} {B : Nat} {v u : Value} {l m : List (Int × Int)} (h : CutV w B v l u m) (hk : Nw w w') : CutV w' B v l u m := h.kp hk fun _ _ e => e
theorem OwnVI.cutl {w : World} {B n c : Nat} {A : Option Addr} {l : List (Int × Int)} (h : OwnVI w B (.slice A n c) l) (hl : l.length = n) (k : Nat) (hk : k ≤ n) :
    ∃ D d, (∀ W : World, (Instr.slice 29 (.slice A n c) (some (.int .i64 (k : Int))) none none).run Try.prog W = .ok (.slice D (n - k) d) W) ∧ CutV w B (.slice A n c) l (.slice D (n - k) d) (l.drop k) := by
  have hs : Src w 2 (.slice A n c) n (flat cvI l) := by have := h.src; unfold SrcI at this; rw [hl] at this; exact this
  obtain ⟨D, d, hr, h1, h2⟩ := Src.cutl elemV Try.underlying29 infoVI hs k hk
  refine ⟨D, d, hr, h, ?_, h2⟩
  unfold SrcI
  rw [flat_drop cvI_len] at h1
  rw [List.length_drop, hl]
  exact h1

set_option maxRecDepth 100000 in
set_option maxHeartbeats 12800000 in
theorem clones_walk (va vb : Value) (a b : List (Int × Int)) (pops : Int) (w : World) (ha : SrcI w va a) (hb : SrcI w vb b) (hpop : 0 ≤ pops ∧ pops < 256) (hla : a.length ≤ 140737488355328) (hlb : b.length ≤ 140737488355328) :
    Calls Try.prog 7 #[va, vb, .int .u8 pops] w fun e w' => e = .returned (.bool true) ∧ Nw w w' := by
  obtain ⟨A, capa, rfl⟩ := ha.shape
  obtain ⟨B, capb, rfl⟩ := hb.shape
  obtain ⟨na, hna⟩ : ∃ n, a.length = n := ⟨_, rfl⟩
  obtain ⟨nb, hnb⟩ : ∃ n, b.length = n := ⟨_, rfl⟩
  obtain ⟨hpop0, hpop1⟩ := hpop
  have hnai : (na : Int) ≤ 140737488355328 := by omega
  have hnbi : (nb : Int) ≤ 140737488355328 := by omega
  have HNA := Lib.hid hna
  have HNB := Lib.hid hnb
  have HSA := Lib.hid ha
  have HSB := Lib.hid hb
  rw [hna, hnb]
  clear hna hnb ha hb hla hlb
  by_cases hbiga : (100 : Int) < na
  · go_enter Try.func7, Try.ntmps7
    go_wp2_with (go_at_call 10; ((with_reducible refine (awake_any _).mono ?_); rintro e w1 ⟨rfl, hk1⟩))
    go_ret
    exact ⟨rfl, hk1⟩
  · by_cases hbigb : (100 : Int) < nb
    · have hsma : (na : Int) ≤ 100 := by omega
      go_enter Try.func7, Try.ntmps7
      go_wp2_with (go_at_call 10; ((with_reducible refine (awake_any _).mono ?_); rintro e w1 ⟨rfl, hk1⟩))
      go_ret
      exact ⟨rfl, hk1⟩
    · have hsma : (na : Int) ≤ 100 := by omega
      have hsmb : (nb : Int) ≤ 100 := by omega
      have hd0 : decide ((100 : Int) < (na : Int)) = false := decide_eq_false hbiga
      have hd1 : decide ((100 : Int) < (nb : Int)) = false := decide_eq_false hbigb
      have hsa : ∀ {w' : World}, Nw w w' → SrcI w' (.slice A na capa) a := fun hk => by have := HSA.out.nw hk; rw [HNA.out] at this; exact this
      have hsb : ∀ {w' : World}, Nw w w' → SrcI w' (.slice B nb capb) b := fun hk => by have := HSB.out.nw hk; rw [HNB.out] at this; exact this
      obtain ⟨m, hm⟩ : ∃ m : Nat, pops % 50 = (m : Int) := ⟨(pops % 50).toNat, by omega⟩
      have hm50 : m < 50 := by omega
      have HM := Lib.hid hm
      clear hbiga hbigb hm
      go_enter Try.func7, Try.ntmps7
      go_wp2_with fail
      refine (awake_any _).mono ?_
      rintro e w1 ⟨rfl, hk1⟩
      have hs1 := hsa hk1
      go_wp2_with fail
      refine (fromI_any _ a w1 hs1 (by rw [HNA.out]; omega)).mono ?_
      rintro e w2 ⟨rfl, v1, hh1, hf1, hk2⟩
      obtain ⟨H1, hH1⟩ : ∃ H1, w1.heap.size = H1 := ⟨_, rfl⟩
      have hl1 : Lone w w2 H1 na v1 (allQ rkI a 0 []) := ⟨by rw [← hH1, ← HNA.out]; exact hh1, fun k e => Nat.le_trans hk1.size (hf1 k (by rw [hH1]; exact e))⟩
      have hnw2 := hk1.tr hk2
      rw [hH1]
      obtain ⟨qa, hqa⟩ : ∃ q, allQ rkI a 0 [] = q := ⟨_, rfl⟩
      rw [hqa] at hl1
      have HQA := Lib.hid hqa
      have HQAL := Lib.hid (show qa.length = na by rw [← hqa, allQ_length, HNA.out]; simp)
      have HQAM := Lib.hid (show qa.map (·.1) = sortV rkI a [] by rw [← hqa, allQ_map]; rfl)
      clear hs1 hh1 hf1 hk1 hk2 hH1 hqa
      go_wp2_with fail
      refine (cloneI_any 0 H1 na v1 qa w2 hl1.hp (by rw [HQAL.out]; omega)).mono ?_
      rintro e w3 ⟨H2, rfl, v2, hh2, hf2, hk3⟩
      have hl2 : Lone w w3 H2 na v2 qa := ⟨hh2, fun k e => Nat.le_trans hnw2.size (hf2 k e)⟩
      have hap : Apart H1 v1 H2 v2 := fun k e e2 => absurd (hl1.hp.lt k e) (Nat.not_lt.2 (hf2 k e2))
      have hl1' := hl1.nw hk3
      have hnw3 := hnw2.tr hk3
      clear hl1 hh2 hf2 hk3 hnw2
      go_wp2_with fail
      -- the pushes
      go_loopw [30] (fun i wr => ∃ (k : Nat) (v : Value), i = .int .i64 k ∧ k ≤ nb ∧ Lone w wr H1 (na + k) v (allQ rkI (a ++ b.take k) 0 []) ∧ Lone w wr H2 na v2 qa ∧ Apart H1 v H2 v2 ∧ Nw w wr) (fun i _ => nb - (intOf i).toNat)
      case atStart => exact ⟨0, v1, rfl, Nat.zero_le _, by rw [List.take_zero, List.append_nil, HQA.out]; exact hl1', hl2, hap, hnw3⟩
      case round =>
        obtain ⟨k, v, rfl, hk, hp1, hp2, hap2, hnw⟩ := hrel
        by_cases hlt : k < nb
        · have hkl : k < b.length := by have := HNB.out; omega
          obtain ⟨x, hx⟩ : ∃ x, b[k]? = some x := ⟨_, List.getElem?_eq_getElem hkl⟩
          have hst := hsb hnw
          obtain ⟨g, o, hA⟩ := Src.lies (size := 2) (n := nb) (by have := hst; unfold SrcI at this; rw [HNB.out] at this; exact this) (by omega)
          obtain ⟨x0, x1⟩ := hst.at_ hA hx
          subst hA
          have hki : (k : Int) < (nb : Int) := by omega
          have hd2 : decide ((k : Int) < (nb : Int)) = true := decide_eq_true hki
          have htk : a ++ b.take (k + 1) = (a ++ b.take k) ++ [x] := by rw [List.take_add_one, hx, List.append_assoc]; rfl
          have hpl : (a ++ b.take k).length = na + k := by rw [List.length_append, List.length_take, Nat.min_eq_left (Nat.le_of_lt hkl), HNA.out]
          have HST := Lib.hid (show ins rkI (x, na + k) (allQ rkI (a ++ b.take k) 0 []) = allQ rkI (a ++ b.take (k + 1)) 0 [] by rw [htk, allQ_snoc, hpl, Nat.zero_add])
          have HL := Lib.hid (show (allQ rkI (a ++ b.take k) 0 []).length = na + k by rw [allQ_length, hpl]; simp)
          obtain ⟨wx, hwx⟩ : ∃ wx, wr.alloc (.cells #[.int .i64 x.1, .int .i64 x.2] 27) = wx := ⟨_, rfl⟩
          have hkx : Nw wr wx := hwx ▸ (Kp.refl _ wr).alloc _
          have hp1x := hp1.nw hkx
          have hp2x := hp2.nw hkx
          have hnwx := hnw.tr hkx
          have HWX := Lib.hid hwx
          have HP1 := Lib.hid hp1x
          have HP2 := Lib.hid hp2x
          have HNW := Lib.hid hnwx
          have HAP := Lib.hid hap2
          clear hx hst htk hpl hwx hp1 hp2 hp1x hp2x hnw hnwx hap2 hkx
          go_wp2_with fail
          rw [HWX.out]
          refine (pushI_any 0 H1 0 (na + k) v x _ wx HP1.out.hp (cntI_t _ _ _) (by rw [HL.out]; omega) (by omega)).mono ?_
          rintro e w4 ⟨rfl, v4, c4, hh4, hkk4, hv4, _, _⟩
          rw [HST.out] at hh4
          have hk4 := kpFt hkk4
          have hl4 : Lone w w4 H1 (na + (k + 1)) v4 (allQ rkI (a ++ b.take (k + 1)) 0 []) := HP1.out.pushed HNW.out hh4 hv4
          have hl5 := HP2.out.kp hk4 (fun k e e2 => HAP.out k e2 e)
          have hap4 := HAP.out.pushed (w := wx) HP2.out.hp.lt hv4
          have hnw4 := HNW.out.own hk4 HP1.out.ft
          clear hkk4 hk4 hh4
          go_wp2_with fail
          go_roundw
          case rel => exact ⟨k + 1, v4, by go_num, by omega, hl4, hl5, hap4, hnw4⟩
          case measure => simp [intOf]; omega
        · obtain rfl : nb = k := by omega
          have hfin : b.take nb = b := List.take_of_length_le (by have := HNB.out; omega)
          rw [hfin] at hp1
          obtain ⟨qh, hqh⟩ : ∃ q, allQ rkI (a ++ b) 0 [] = q := ⟨_, rfl⟩
          rw [hqh] at hp1
          have HQHL := Lib.hid (show qh.length = na + nb by rw [← hqh, allQ_length, List.length_append, HNA.out, HNB.out]; simp)
          have HQHM := Lib.hid (show qh.map (·.1) = sortV rkI (a ++ b) [] by rw [← hqh, allQ_map]; rfl)
          have hd2 : decide ((nb : Int) < (nb : Int)) = false := decide_eq_false (by omega)
          have HP1 := Lib.hid hp1
          have HP2 := Lib.hid hp2
          have HNW := Lib.hid hnw
          have HAP := Lib.hid hap2
          clear hfin hqh hp1 hp2 hnw hap2 hl1' hl2 hap hnw3
          go_wp2_with fail
          rw [HM.out]
          -- the clone is popped
          go_loopw [41] (fun i wr => ∃ (j : Nat) (v' : Value), i = .int .i64 j ∧ j ≤ m ∧ Lone w wr H1 (na + nb) v qh ∧ Lone w wr H2 na v' (qa.drop j) ∧ Apart H1 v H2 v' ∧ Nw w wr) (fun i _ => m - (intOf i).toNat)
          case atStart => exact ⟨0, v2, rfl, Nat.zero_le _, HP1.out, HP2.out, HAP.out, HNW.out⟩
          case round =>
            obtain ⟨j, v', rfl, hj, hp1, hp2, hap2, hnw⟩ := hrel
            by_cases hlt2 : j < m
            · have hji : (j : Int) < (m : Int) := by omega
              have hd3 : decide ((j : Int) < (m : Int)) = true := decide_eq_true hji
              have HTL := Lib.hid (show (qa.drop j).tail = qa.drop (j + 1) by rw [List.tail_drop])
              have HDL := Lib.hid (show (qa.drop j).length ≤ 1099511627776 by rw [List.length_drop, HQAL.out]; omega)
              have HQ1 := Lib.hid hp1
              have HQ2 := Lib.hid hp2
              clear hp1 hp2
              go_wp2_with fail
              refine (popI_any 0 H2 0 na v' (qa.drop j) wr HQ2.out.hp (cntI_t _ _ _) HDL.out).mono ?_
              rintro e w4 ⟨rfl, v4, c4, hh4, hkk4, hv4, _, _⟩
              rw [HTL.out] at hh4
              have hk4 := kpFt hkk4
              have hl4 := HQ2.out.popped hh4 hv4
              have hl5 := HQ1.out.kp hk4 hap2
              have hap4 := (hap2.symm.popped hv4).symm
              have hnw4 := hnw.own hk4 HQ2.out.ft
              clear hkk4 hk4 hh4
              go_wp2_with fail
              go_roundw
              case rel => exact ⟨j + 1, v4, by go_num, by omega, hl5, hl4, hap4, hnw4⟩
              case measure => simp [intOf]; omega
            · obtain rfl : m = j := by omega
              have hd3 : decide ((m : Int) < (m : Int)) = false := decide_eq_false (by omega)
              have HQ1 := Lib.hid hp1
              have HQ2 := Lib.hid hp2
              have HAP2 := Lib.hid hap2
              have HNW2 := Lib.hid hnw
              clear hp1 hp2 hap2 hnw
              go_wp2_with fail
              refine (cloneI_any 0 H1 (na + nb) v qh wr HQ1.out.hp (by rw [HQHL.out]; omega)).mono ?_
              rintro e w4 ⟨H3, rfl, v3, hh3, hf3, hk4⟩
              have hl3 : Lone w w4 H3 (na + nb) v3 qh := ⟨hh3, fun k e => Nat.le_trans HNW2.out.size (hf3 k e)⟩
              have hap13 : Apart H1 v H3 v3 := fun k e e2 => absurd (HQ1.out.hp.lt k e) (Nat.not_lt.2 (hf3 k e2))
              have hap23 : Apart H2 v' H3 v3 := fun k e e2 => absurd (HQ2.out.hp.lt k e) (Nat.not_lt.2 (hf3 k e2))
              have hl1 := HQ1.out.nw hk4
              have hl2 := HQ2.out.nw hk4
              have hnw4 := HNW2.out.tr hk4
              clear hh3 hf3 hk4
              go_wp2_with fail
              rw [HM.out]
              -- the heap is popped
              go_loopw [51] (fun i wr => ∃ (j : Nat) (vv : Value), i = .int .i64 j ∧ j ≤ m ∧ Lone w wr H1 (na + nb) vv (qh.drop j) ∧ Lone w wr H2 na v' (qa.drop m) ∧ Lone w wr H3 (na + nb) v3 qh ∧ Apart H1 vv H2 v' ∧ Apart H1 vv H3 v3 ∧ Nw w wr) (fun i _ => m - (intOf i).toNat)
              case atStart => exact ⟨0, v, rfl, Nat.zero_le _, hl1, hl2, hl3, HAP2.out, hap13, hnw4⟩
              case round =>
                obtain ⟨j, vv, rfl, hj, hp1, hp2, hp3, hap2, hap3, hnw⟩ := hrel
                by_cases hlt3 : j < m
                · have hji : (j : Int) < (m : Int) := by omega
                  have hd4 : decide ((j : Int) < (m : Int)) = true := decide_eq_true hji
                  have HTL := Lib.hid (show (qh.drop j).tail = qh.drop (j + 1) by rw [List.tail_drop])
                  have HDL := Lib.hid (show (qh.drop j).length ≤ 1099511627776 by rw [List.length_drop, HQHL.out]; omega)
                  have HR1 := Lib.hid hp1
                  have HR2 := Lib.hid hp2
                  have HR3 := Lib.hid hp3
                  clear hp1 hp2 hp3
                  go_wp2_with fail
                  refine (popI_any 0 H1 0 (na + nb) vv (qh.drop j) _ HR1.out.hp (cntI_t _ _ _) HDL.out).mono ?_
                  rintro e w5 ⟨rfl, v5, c5, hh5, hkk5, hv5, _, _⟩
                  rw [HTL.out] at hh5
                  have hk5 := kpFt hkk5
                  have hm1 := HR1.out.popped hh5 hv5
                  have hm2 := HR2.out.kp hk5 hap2.symm
                  have hm3 := HR3.out.kp hk5 hap3.symm
                  have ha2 := hap2.popped hv5
                  have ha3 := hap3.popped hv5
                  have hnw5 := hnw.own hk5 HR1.out.ft
                  clear hkk5 hk5 hh5
                  go_wp2_with fail
                  go_roundw
                  case rel => exact ⟨j + 1, v5, by go_num, by omega, hm1, hm2, hm3, ha2, ha3, hnw5⟩
                  case measure => simp [intOf]; omega
                · obtain rfl : m = j := by omega
                  have hd4 : decide ((m : Int) < (m : Int)) = false := decide_eq_false (by omega)
                  have HR1 := Lib.hid hp1
                  have HR2 := Lib.hid hp2
                  have HR3 := Lib.hid hp3
                  have HA2 := Lib.hid hap2
                  have HA3 := Lib.hid hap3
                  have HA23 := Lib.hid hap23
                  clear hp1 hp2 hp3 hap2 hap3 hap23 hap13 hl1 hl2 hl3 hnw4
                  have hsaw := hsa hnw
                  have ho0 : (wr.alloc (.cells #[] 27)).ownsRow wr.heap.size 27 2 (.slice (some ⟨wr.heap.size, 0, none⟩) 0 0) 0 [] := World.ownsRow_lit wr #[] 0 (Nat.le_refl _) (Nat.zero_le _) rfl
                  have hka : Nw wr (wr.alloc (.cells #[] 27)) := (Kp.refl _ wr).alloc _
                  have hsaa := hsaw.nw hka
                  go_wp2_with (first
                    | (at_builtin; refine wp_appG rfl (.tmp 56) (.tmp 57) 29 27 2 16 (.agg #[.int .i64 0, .int .i64 0]) rfl Try.underlying29 infoVI rfl (by omega) wr.heap.size 0 na (.slice (some ⟨wr.heap.size, 0, none⟩) 0 0) (.slice A na capa) [] (flat cvI a) rfl ho0 rfl (HNA.out ▸ hsaa) (cvI_one _) ?_ ?_ hka.size ?_; omega; omega; intro v6 w6 own6 gr6; simp only [Nat.zero_add, List.nil_append] at own6; have hk6 := gr6.nw hka (own_from ho0); have hsb6 := hsb (hnw.tr hk6))
                    | (at_builtin; refine wp_appG rfl (.tmp 58) (.tmp 59) 29 27 2 16 (.agg #[.int .i64 0, .int .i64 0]) rfl Try.underlying29 infoVI rfl (by omega) wr.heap.size na nb v6 (.slice B nb capb) (flat cvI a) (flat cvI b) rfl own6 rfl (HNB.out ▸ hsb6) (cvI_one _) ?_ ?_ hk6.size ?_; omega; omega; intro v7 w7 own7 gr7; have hk7 := gr7.nw hk6 (own_from own6)))
                  have hlab : (a ++ b).length = na + nb := by rw [List.length_append, HNA.out, HNB.out]
                  have hown7 : OwnVI w7 wr.heap.size v7 (a ++ b) := by
                    unfold OwnVI
                    rw [hlab, flat_app]
                    exact own7
                  refine (refSorted_any _ (a ++ b) w7 hown7.src (by omega)).mono ?_
                  rintro e w8 ⟨u8, rfl, hw8, hk8⟩
                  have hnw8 := (hnw.tr hk7).tr hk8
                  have hr1 := (HR1.out.nw hk7).nw hk8
                  have hr2 := (HR2.out.nw hk7).nw hk8
                  have hr3 := (HR3.out.nw hk7).nw hk8
                  have hlw : (sortV rkI (a ++ b) []).length = na + nb := by rw [sortV_length, hlab]; simp
                  obtain ⟨W8, cap8, rfl⟩ := hw8.src.shape
                  rw [hlw]
                  have HRW := Lib.hid hw8
                  have HR1 := Lib.hid hr1
                  have HR2 := Lib.hid hr2
                  have HR3 := Lib.hid hr3
                  have HNW := Lib.hid hnw8
                  have HLW := Lib.hid hlw
                  clear hw8 hr1 hr2 hr3 hnw8 hnw hk8 hk7 hown7 own7 gr7 own6 hk6 gr6 hsb6 hsaa hka ho0 hsaw hlab hlw
                  go_wp2_with fail
                  rw [HM.out]
                  go_wp2_with fail
                  obtain ⟨nw, hnn⟩ : ∃ nw, na + nb = nw := ⟨_, rfl⟩
                  have hnn9 : (nw : Int) ≤ 200 := by omega
                  rw [hnn]
                  have hsw : OwnVI w8 w7.heap.size (.slice W8 nw cap8) (sortV rkI (a ++ b) []) := by have := HRW.out; rw [HLW.out, hnn] at this; exact this
                  obtain ⟨k1, hk1⟩ : ∃ k1, min m na = k1 := ⟨_, rfl⟩
                  obtain ⟨k2, hk2⟩ : ∃ k2, min m nw = k2 := ⟨_, rfl⟩
                  have hk1a : k1 ≤ na := by omega
                  have hk2a : k2 ≤ nw := by omega
                  have hm1 : (if (na : Int) < (m : Int) then (na : Int) else (m : Int)) = (k1 : Int) := by split <;> omega
                  have hm1' : (if na < m then (na : Int) else (m : Int)) = (k1 : Int) := by split <;> omega
                  have hm2 : (if (nw : Int) < (m : Int) then (nw : Int) else (m : Int)) = (k2 : Int) := by split <;> omega
                  have hm2' : (if nw < m then (nw : Int) else (m : Int)) = (k2 : Int) := by split <;> omega

                  have hkd : Nw w8 w8.drew := (Kp.refl _ w8).drewN 1
                  have hnwd := HNW.out.tr hkd
                  have hsw8 := hsw.nw hkd
                  -- what the heaps hold
                  have hsal : (sortV rkI a []).length = na := by rw [sortV_length, HNA.out]; simp
                  have hc1 : (qa.drop m).map (·.1) = (sortV rkI a []).drop k1 := by
                    rw [List.map_drop, HQAM.out]
                    by_cases h : m ≤ na
                    · rw [show k1 = m by omega]
                    · rw [List.drop_eq_nil_of_le (by omega), List.drop_eq_nil_of_le (by omega)]
                  have hc3 : (qh.drop m).map (·.1) = (sortV rkI (a ++ b) []).drop k2 := by
                    rw [List.map_drop, HQHM.out]
                    have := HLW.out
                    by_cases h : m ≤ nw
                    · rw [show k2 = m by omega]
                    · rw [List.drop_eq_nil_of_le (by omega), List.drop_eq_nil_of_le (by omega)]
                  have HC1 := Lib.hid hc1
                  have HC3 := Lib.hid hc3
                  have HL10 := Lib.hid (show ((sortV rkI a []).drop k1).length = na - k1 by rw [List.length_drop, hsal])
                  have HL30 := Lib.hid (show ((sortV rkI (a ++ b) []).drop k2).length = nw - k2 by rw [List.length_drop, HLW.out, hnn])
                  have HLW2 := Lib.hid (show (sortV rkI (a ++ b) []).length = nw by rw [HLW.out, hnn])
                  obtain ⟨B2, d2, hrun2, hcv⟩ := hsw8.cutl (show (sortV rkI (a ++ b) []).length = nw by rw [HLW.out, hnn]) k2 hk2a
                  have HSAL := Lib.hid hsal
                  have HSW := Lib.hid hcv
                  have HND := Lib.hid hnwd
                  have HD1 := Lib.hid (HR1.out.nw hkd)
                  have HD2 := Lib.hid (HR2.out.nw hkd)
                  have HD3 := Lib.hid (HR3.out.nw hkd)
                  have hll0 : a.length ≤ 1099511627775 := by rw [HNA.out]; omega
                  have hll1 : ((sortV rkI a []).drop k1).length ≤ 1099511627775 := by rw [HL10.out]; omega
                  have hll2 : (sortV rkI (a ++ b) []).length ≤ 1099511627775 := by rw [HLW2.out]; omega
                  have hll3 : ((sortV rkI (a ++ b) []).drop k2).length ≤ 1099511627775 := by rw [HL30.out]; omega
                  have HL0 := Lib.hid hll0
                  have HLL1 := Lib.hid hll1
                  have HLL2 := Lib.hid hll2
                  have HLL3 := Lib.hid hll3
                  have HL1 := Lib.hid (show (qa.drop m).length ≤ 1099511627775 by rw [List.length_drop, HQAL.out]; omega)
                  have HL2 := Lib.hid (show qh.length ≤ 1099511627775 by rw [HQHL.out]; omega)
                  have HL3 := Lib.hid (show (qh.drop m).length ≤ 1099511627775 by rw [List.length_drop, HQHL.out]; omega)
                  clear hc1 hc3 hsal hsw hsw8 hcv hk1 hk2 hnn hnwd hkd hll0 hll1 hll2 hll3
                  go_region_held3 (fun _ : World => True) (trivial)
                    (first
                      | (go_at_call 20; ((with_reducible refine (drain_any 0 H2 0 na v' (qa.drop m) _ HD2.out.hp HL1.out).mono ?_); rintro e w9 ⟨u9, rfl, ho9, hk9, _⟩; (have HR19 := Lib.hid (HD1.out.kp hk9 HA2.out)); (have HR39 := Lib.hid (HD3.out.kp hk9 HA23.out.symm)); (have HSW9 := Lib.hid (HSW.out.kp hk9 (fun g e e2 => HSW.out.own.far HD2.out.hp g e2 e))); (have HN9 := Lib.hid (HND.out.own hk9 HD2.out.ft)); rw [HC1.out] at ho9; (obtain ⟨U9, c9, rfl⟩ := ho9.src.shape); rw [HL10.out] at ho9; (have HO9 := Lib.hid ho9); (have HSA9 := Lib.hid (hsa HN9.out)); rw [HL10.out]; clear ho9 hk9))
                      | (go_at_call 21; ((with_reducible refine (refSorted_any _ a _ HSA9.out HL0.out).mono ?_); rintro e w10 ⟨u10, rfl, ho10, hk10⟩; (obtain ⟨U10, c10, rfl⟩ := ho10.src.shape); rw [HSAL.out]; rw [HSAL.out] at ho10; (obtain ⟨B1, d1, hrun1, hcv1⟩ := ho10.cutl HSAL.out k1 hk1a); (have HR110 := Lib.hid (HR19.out.nw hk10)); (have HR310 := Lib.hid (HR39.out.nw hk10)); (have HSW10 := Lib.hid (HSW9.out.nw hk10)); (have HN10 := Lib.hid (HN9.out.tr hk10)); (have HO10 := Lib.hid (HO9.out.nw hk10)); (have HCV := Lib.hid hcv1); clear ho10 hcv1 hk10))
                      | (go_at_call 19; ((with_reducible refine (same_true _ _ ((sortV rkI a []).drop k1) _ HO10.out.src HCV.out.src HLL1.out).mono ?_); rintro e w11 ⟨rfl, hk11⟩; (have HR111 := Lib.hid (HR110.out.nw hk11)); (have HR311 := Lib.hid (HR310.out.nw hk11)); (have HSW11 := Lib.hid (HSW10.out.nw hk11)); (have HN11 := Lib.hid (HN10.out.tr hk11)); clear hk11))
                      | (go_at_call 20; ((with_reducible refine (drain_any 0 H3 0 (na + nb) v3 qh _ HR311.out.hp HL2.out).mono ?_); rintro e w12 ⟨u12, rfl, ho12, hk12, _⟩; (have HR112 := Lib.hid (HR111.out.kp hk12 HA3.out)); (have HSW12 := Lib.hid (HSW11.out.kp hk12 (fun g e e2 => HSW11.out.own.far HR311.out.hp g e2 e))); (have HN12 := Lib.hid (HN11.out.own hk12 HR311.out.ft)); rw [HQHM.out] at ho12; (obtain ⟨U12, c12, rfl⟩ := ho12.src.shape); rw [HLW2.out] at ho12; (have HO12 := Lib.hid ho12); rw [HLW2.out]; clear ho12 hk12))
                      | (go_at_call 19; ((with_reducible refine (same_true _ _ (sortV rkI (a ++ b) []) _ HO12.out.src HSW12.out.own.src HLL2.out).mono ?_); rintro e w13 ⟨rfl, hk13⟩; (have HR113 := Lib.hid (HR112.out.nw hk13)); (have HSW13 := Lib.hid (HSW12.out.nw hk13)); (have HN13 := Lib.hid (HN12.out.tr hk13)); clear hk13))
                      | (go_at_call 20; ((with_reducible refine (drain_any 0 H1 0 (na + nb) vv (qh.drop m) _ HR113.out.hp HL3.out).mono ?_); rintro e w14 ⟨u14, rfl, ho14, hk14, _⟩; (have HSW14 := Lib.hid (HSW13.out.kp hk14 (fun g e e2 => HSW13.out.own.far HR113.out.hp g e2 e))); (have HN14 := Lib.hid (HN13.out.own hk14 HR113.out.ft)); rw [HC3.out] at ho14; (obtain ⟨U14, c14, rfl⟩ := ho14.src.shape); rw [HL30.out] at ho14; (have HO14 := Lib.hid ho14); rw [HL30.out]; clear ho14 hk14))
                      | (go_at_call 19; ((with_reducible refine (same_true _ _ ((sortV rkI (a ++ b) []).drop k2) _ HO14.out.src HSW14.out.src HLL3.out).mono ?_); rintro e w15 ⟨rfl, hk15⟩; (have HN15 := Lib.hid (HN14.out.tr hk15)); clear hk15)))
                  all_goals go_wp2
                  all_goals go_ret
                  all_goals exact ⟨rfl, HN15.out⟩
end Go.Proofs.Ytogfcenebbipeaa.W
