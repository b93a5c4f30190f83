/-
  fretsawlaw03.HeapCost returns true for every list of keys. Condition: the argument is read.
-/
import Derived.Test.YtogfcenebbipeaaHUf
import Derived.Test.YtogfcenebbipeaaHArgI
namespace Go.Proofs.Ytogfcenebbipeaa.W
open Go.RowKit Go.Proofs.Ytogfcenebbipeaa.Pl

def prs (l : List Int) : List (Int × Int) := l.map fun k => (k, 0)
theorem allQ_mem (rk : Int → Int) : ∀ (l : List (Int × Int)) (p : Nat) (q : List Ent) (y : Ent), y ∈ allQ rk l p q → y.1 ∈ l ∨ y ∈ q
  | [], p, q, y, h => .inr h
  | x :: l, p, q, y, h => by
    rw [allQ] at h
    rcases allQ_mem rk l _ _ y h with h | h
    · exact .inl (List.mem_cons_of_mem _ h)
    · rcases List.mem_cons.1 ((ins_perm rk (x, p) q).mem_iff.1 h) with rfl | h
      · exact .inl List.mem_cons_self
      · exact .inr h
theorem good_drop {q : List Ent} {p k : Nat} {x : Ent} (h : GoodQ rkU q p) (hx : q[k]? = some x) : ∀ y ∈ q.drop (k + 1), x.1.1 ≤ y.1.1 := by
  intro y hy
  have hk := (List.getElem?_eq_some_iff.1 hx).1
  have e : q.drop k = x :: q.drop (k + 1) := by
    rw [List.drop_eq_getElem_cons hk]
    rw [List.getElem?_eq_getElem hk] at hx
    injection hx with hx
    rw [hx]
  have hs : Sorted rkU (q.drop k) := List.Pairwise.sublist (List.drop_sublist k q) h.1
  rw [e] at hs
  have := (List.pairwise_cons.1 hs).1 y hy
  unfold lt rkU at this
  omega

set_option maxRecDepth 100000 in
set_option maxHeartbeats 3200000 in
theorem cost_walk (v : Value) (l : List Int) (w : World) (hs : Src w 1 v l.length (flat cvS l)) (hp : ∀ x ∈ l, 0 ≤ x ∧ x < 65536) (hlen : l.length ≤ 140737488355328) :
    Calls Try.prog 8 #[v] w fun e w' => e = .returned (.bool true) ∧ Nw w w' := by
  obtain ⟨A, cap, rfl⟩ := hs.shape
  obtain ⟨n, hn⟩ : ∃ n, l.length = n := ⟨_, rfl⟩
  have hni : (n : Int) ≤ 140737488355328 := by omega
  have HN := Lib.hid hn
  have HS := Lib.hid hs
  have HP := Lib.hid hp
  rw [hn]
  clear hn hs hlen hp
  by_cases hbig : (1000 : Int) < n
  · go_enter Try.func8, Try.ntmps8
    go_wp2_with (go_at_call 10; ((with_reducible refine (awake_any _).mono ?_); rintro e w1 ⟨rfl, hk1⟩))
    go_ret
    exact ⟨rfl, hk1⟩
  · have hsm : (n : Int) ≤ 1000 := by omega
    obtain ⟨q, hq⟩ : ∃ q, allQ rkU (prs l) 0 [] = q := ⟨_, rfl⟩
    have hql : q.length = n := by rw [← hq, allQ_length]; simp [prs, HN.out]
    have hqg : GoodQ rkU q n := by
      have := allQ_good (rk := rkU) (prs l) (GoodQ.nil rkU 0)
      rw [hq] at this
      have e : 0 + (prs l).length = n := by simp [prs, HN.out]
      rwa [e] at this
    have hqp : ∀ y ∈ q, 0 ≤ y.1.1 := by
      intro y hy
      rw [← hq] at hy
      rcases allQ_mem rkU _ _ _ y hy with h | h
      · obtain ⟨x, hx, e⟩ := List.mem_map.1 h
        have := (HP.out x hx).1
        rw [← e]
        exact this
      · cases h
    have HQ := Lib.hid hq
    have HQL := Lib.hid hql
    have HQG := Lib.hid hqg
    have HQP := Lib.hid hqp
    have hd0 : decide ((1000 : Int) < (n : Int)) = false := decide_eq_false hbig
    clear hbig hq hql hqg hqp
    go_enter Try.func8, Try.ntmps8
    go_wp2_with fail
    refine (awake_any _).mono ?_
    rintro e w1 ⟨rfl, hk1⟩
    have hw1 := hk1.size
    have hcn : CntU w1.heap.size (w1.alloc (.cells #[.int .i64 0] 3)) 0 := by
      unfold CntU
      rw [show wrap64 ((0 : Nat) : Int) = 0 by unfold wrap64; decide]
      exact Blk.new w1 _ _
    have hk1a : Nw w (w1.alloc (.cells #[.int .i64 0] 3)) := hk1.alloc _
    go_wp2_with fail
    refine (newU_any w1.heap.size _).mono ?_
    rintro e w2 ⟨rfl, hh2, hk2, hz2⟩
    have hcn2 := cntU_kp hcn hk2 (fun _ _ e => e)
    obtain ⟨C, hC⟩ : ∃ C, w1.heap.size = C := ⟨_, rfl⟩
    obtain ⟨H, hH⟩ : ∃ H, (w1.alloc (.cells #[.int .i64 0] 3)).heap.size = H := ⟨_, rfl⟩
    have hCw : w.heap.size ≤ C := by omega
    have hHw : w.heap.size ≤ H := by simp at hH; omega
    have hH1 : w1.heap.size + 1 = H := by simp at hH; exact hH
    rw [hH] at hh2
    rw [hC] at hh2 hcn2 hH1
    rw [hH, hC]
    have hz2' : w2.heap.size = H + 1 := by rw [hz2, hH]
    have hk2w : Nw w w2 := hk1a.tr hk2
    clear hcn hk1a hk2 hz2 hH hC
    go_wp2_with fail
    go_loopw [19] (fun i wr => ∃ (k c : Nat) (v' : Value), i = .int .i64 k ∧ k ≤ n ∧ HpU C wr H v' (allQ rkU (prs (l.take k)) 0 []) k ∧ (∀ b, Ft H v' b → w.heap.size ≤ b) ∧ CntU C wr c ∧ c ≤ 10 * k ∧ Nw w wr) (fun i _ => n - (intOf i).toNat)
    case atStart => exact ⟨0, 0, _, rfl, Nat.zero_le _, hh2, fun b e => e.elim (fun e => by rw [e]; exact hHw) (fun e => by cases e), hcn2, Nat.le_refl _, hk2w⟩
    case round =>
      obtain ⟨k, c, v', rfl, hk, hh, hft, hcn, hcle, hnw⟩ := hrel
      by_cases hlt : k < n
      · have hkl : k < l.length := by have := HN.out; omega
        obtain ⟨x, hx⟩ : ∃ x, l[k]? = some x := ⟨_, List.getElem?_eq_getElem hkl⟩
        have hsr : Src wr 1 (.slice A n cap) n (flat cvS l) := by have := HS.out.nw hnw; rw [HN.out] at this; exact this
        obtain ⟨g, o, hA⟩ := hsr.lies (by omega)
        subst hA
        have x0 := hsr.one_at cvS_len hx rfl
        have hki : (k : Int) < (n : Int) := by omega
        have hd1 : decide ((k : Int) < (n : Int)) = true := decide_eq_true hki
        have htk : prs (l.take (k + 1)) = prs (l.take k) ++ [(x, 0)] := by unfold prs; rw [List.take_add_one, hx]; simp
        have hpl : (prs (l.take k)).length = k := by unfold prs; rw [List.length_map, List.length_take, Nat.min_eq_left (Nat.le_of_lt hkl)]
        have HST := Lib.hid (show ins rkU ((x, 0), k) (allQ rkU (prs (l.take k)) 0 []) = allQ rkU (prs (l.take (k + 1))) 0 [] by rw [htk, allQ_snoc, hpl, Nat.zero_add])
        have HL := Lib.hid (show (allQ rkU (prs (l.take k)) 0 []).length = k by rw [allQ_length, hpl]; simp)
        clear hx hsr htk hpl
        go_wp2_with fail
        refine (pushU_any C H c k v' (x, 0) _ wr hh hcn (by rw [HL.out]; omega) (by omega)).mono ?_
        rintro e w3 ⟨rfl, v3, c3, hh3, hk3, hv3, hc3, hle3⟩
        rw [HST.out] at hh3
        rw [HL.out] at hle3
        have hlg := log_1000 (n := k + 1) (by omega) (by omega)
        have hft3 : ∀ b, Ft H v3 b → w.heap.size ≤ b := fun b e => e.elim (fun e => by rw [e]; exact hHw) (fun e => by
          rcases hv3 with e2 | ⟨k2, e2, hk2⟩
          · exact hft b (.inr (e2 ▸ e))
          · rw [e2] at e
            injection e with e
            have := hnw.size
            omega)
        have hnw3 : Nw w w3 := hnw.own hk3 (fun b e => e.elim (hft b) (fun e => by rw [show b = C from e]; exact hCw))
        have hcl3 : c3 ≤ 10 * (k + 1) := by omega
        clear hlg
        go_wp2_with fail
        go_roundw
        case rel => exact ⟨k + 1, c3, v3, by go_num, by omega, hh3, hft3, hc3, hcl3, hnw3⟩
        case measure => simp [intOf]; omega
      · obtain rfl : n = k := by omega
        have hfin : l.take n = l := List.take_of_length_le (by have := HN.out; omega)
        rw [hfin, HQ.out] at hh
        have hd1 : decide ((n : Int) < (n : Int)) = false := decide_eq_false (by omega)
        have HH := Lib.hid hh
        have HFT := Lib.hid hft
        have HCN := Lib.hid hcn
        have HNW := Lib.hid hnw
        clear hfin hh hft hcn hnw
        go_wp2_with fail
        go_loopw [7, 29] (fun u i wr => ∃ (j c2 : Nat) (v2 : Value) (last : Int), i = .int .i64 j ∧ j ≤ n ∧ u = .int .u16 last ∧ HpU C wr H v2 (q.drop j) n ∧ (∀ b, Ft H v2 b → w.heap.size ≤ b) ∧ (∀ y ∈ q.drop j, last ≤ y.1.1) ∧ CntU C wr c2 ∧ c2 ≤ 10 * n + 18 * j ∧ Nw w wr) (fun _ i _ => n - (intOf i).toNat)
        case atStart => exact ⟨0, c, v', 0, rfl, Nat.zero_le _, rfl, HH.out, HFT.out, fun y hy => HQP.out y hy, HCN.out, by omega, HNW.out⟩
        case round =>
          obtain ⟨j, c2, v2, last, rfl, hj, rfl, hh, hft, hlast, hcn, hcle2, hnw⟩ := hrel
          by_cases hlt : j < n
          · have hjl : j < q.length := by have := HQL.out; omega
            obtain ⟨x, hx⟩ : ∃ x, q[j]? = some x := ⟨_, List.getElem?_eq_getElem hjl⟩
            have hdr : q.drop j = x :: q.drop (j + 1) := by
              rw [List.drop_eq_getElem_cons hjl]
              rw [List.getElem?_eq_getElem hjl] at hx
              injection hx with hx
              rw [hx]
            have hle1 : last ≤ x.1.1 := hlast x (by rw [hdr]; exact List.mem_cons_self)
            have HGD := Lib.hid (good_drop HQG.out hx)
            have hdl : (q.drop (j + 1)).length = n - (j + 1) := by rw [List.length_drop, HQL.out]
            rw [hdr] at hh
            have hki : (j : Int) < (n : Int) := by omega
            have hd1 : decide ((j : Int) < (n : Int)) = true := decide_eq_true hki
            have HH2 := Lib.hid hh
            have HDL := Lib.hid hdl
            clear hx hdr hlast hh hdl
            go_wp2_with fail
            refine (popU_some C H c2 n v2 x _ wr HH2.out hcn (by rw [HDL.out]; omega)).mono ?_
            rintro e w3 ⟨rfl, v3, c3, hh3, hk3, hv3, hc3, hle3⟩
            rw [HDL.out] at hle3
            have hlg : Nat.log2 (n - (j + 1)) ≤ 9 := by
              rcases Nat.eq_zero_or_pos (n - (j + 1)) with e | e
              · rw [e]; decide
              · exact log_1000 (by omega) (by omega)
            have hft3 : ∀ b, Ft H v3 b → w.heap.size ≤ b := fun b e => e.elim (fun e => by rw [e]; exact hHw) (fun e => hft b (.inr (hv3 ▸ e)))
            have hnw3 : Nw w w3 := hnw.own hk3 (fun b e => e.elim (hft b) (fun e => by rw [show b = C from e]; exact hCw))
            have hcl3 : c3 ≤ 10 * n + 18 * (j + 1) := by omega
            clear hlg hle3
            go_wp2_with fail
            go_roundw
            case rel => exact ⟨j + 1, c3, v3, x.1.1, by go_num, by omega, rfl, hh3, hft3, HGD.out, hc3, hcl3, hnw3⟩
            case measure => simp [intOf]; omega
          · obtain rfl : n = j := by omega
            have hfin : q.drop n = [] := List.drop_eq_nil_of_le (by have := HQL.out; omega)
            rw [hfin] at hh
            have hd1 : decide ((n : Int) < (n : Int)) = false := decide_eq_false (by omega)
            obtain ⟨z, hz⟩ : ∃ z, wrap64 (c2 : Int) = z := ⟨_, rfl⟩
            have hzz : z ≤ 40 * (n : Int) + 40 := by
              rw [← hz]
              unfold wrap64
              omega
            have hbc : Blk wr C 3 #[.int .i64 z] := hz ▸ hcn
            obtain ⟨c0, _⟩ := hbc.one
            clear hfin hlast hz
            go_wp2_with (go_at_call 29; ((with_reducible refine (lenU_any C H n v2 [] _ hh).mono ?_); rintro e w3 ⟨rfl, rfl⟩))
            go_ret
            exact ⟨rfl, hnw⟩
end Go.Proofs.Ytogfcenebbipeaa.W
