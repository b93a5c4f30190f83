/-
  fretsawlaw03.HeapStable returns true for every list of keys. Condition: the argument is read.
-/
import Derived.Test.YtogfcenebbipeaaHZip
import Derived.Test.YtogfcenebbipeaaHArgI
namespace Go.Proofs.Ytogfcenebbipeaa.W
open Go.RowKit Go.Proofs.Ytogfcenebbipeaa.Pl

def cvT (b : Bool) : List Value := [.bool b]
theorem cvT_len (b : Bool) : (cvT b).length = 1 := rfl
theorem infoT : (Try.prog.info? 4).map (fun i => (i.zero, i.size, i.bytes)) = some (some (.bool false), 1, 1) := by kernel_rfl
theorem made_bools (n : Nat) : (madeCells (Value.bool false).cells (n * 1)).toList = flat cvT (List.replicate n false) := by
  rw [Nat.mul_one, show (Value.bool false).cells = #[Value.bool false] from rfl, toList_madeCells_one]
  induction n with
  | zero => rfl
  | succ n ih => rw [List.replicate_succ, List.replicate_succ, flat_cons, ← ih]; rfl
theorem flat_setT : ∀ (l : List Bool) (i : Nat) (b : Bool), (flat cvT l).set i (.bool b) = flat cvT (l.set i b)
  | [], i, b => rfl
  | x :: l, 0, b => rfl
  | x :: l, i + 1, b => by
    rw [List.set_cons_succ, flat_cons, flat_cons, ← flat_setT l i b]
    rfl
def OwnT (w : World) (B : Nat) (v : Value) (l : List Bool) : Prop := w.ownsRow B 4 1 v l.length (flat cvT l)

set_option maxRecDepth 100000 in
set_option maxHeartbeats 6400000 in
theorem stable_walk (v : Value) (l : List Int) (w : World) (hs : Src w 1 v l.length (flat cvB l)) (hp : ∀ x ∈ l, 0 ≤ x ∧ x < 256) (hlen : l.length ≤ 140737488355328) :
    Calls Try.prog 5 #[v] w fun e w' => e = .returned (.bool true) ∧ Nw w w' := by
  obtain ⟨A, cap, rfl⟩ := hs.shape
  obtain ⟨n, hn⟩ : ∃ n, l.length = n := ⟨_, rfl⟩
  have hni : (n : Int) ≤ 140737488355328 := by omega
  have HN := Lib.hid hn
  have HP := Lib.hid hp
  rw [hn] at hs ⊢
  have HS := Lib.hid hs
  clear hn hs hlen hp
  by_cases hbig : (300 : Int) < n
  · go_enter Try.func5, Try.ntmps5
    go_wp2_with (go_at_call 10; ((with_reducible refine (awake_any _).mono ?_); rintro e w1 ⟨rfl, hk1⟩))
    go_ret
    exact ⟨rfl, hk1⟩
  · have hsm : (n : Int) ≤ 300 := by omega
    have hd0 : decide ((300 : Int) < (n : Int)) = false := decide_eq_false hbig
    obtain ⟨q, hq⟩ : ∃ q, allQ rkI (its l 0) 0 [] = q := ⟨_, rfl⟩
    have hky : Keyed l q := by rw [← hq]; exact keyed l
    have HQ := Lib.hid hq
    have HKY := Lib.hid hky
    clear hbig hq hky
    go_enter Try.func5, Try.ntmps5
    go_wp2_with (first
      | (go_at_call 10; ((with_reducible refine (awake_any _).mono ?_); rintro e w1 ⟨rfl, hk1⟩))
      | (go_at_call 11; ((with_reducible refine (newI_any 0 _).mono ?_); rintro e w2 ⟨rfl, hh2, hk2, _⟩)))
    obtain ⟨H, hH⟩ : ∃ H, w1.heap.size = H := ⟨_, rfl⟩
    have hHw : w.heap.size ≤ H := by rw [← hH]; exact hk1.size
    rw [hH] at hh2 ⊢
    have hkw2 : Nw w w2 := hk1.tr hk2
    clear hk2 hk1 hH
    go_loopw [18] (fun i wr => ∃ (k : Nat) (v' : Value), i = .int .i64 k ∧ k ≤ n ∧ HpI 0 wr H v' (allQ rkI (its (l.take k) 0) 0 []) k ∧ (∀ b, Ft H v' b → w.heap.size ≤ b) ∧ Nw w wr) (fun i _ => n - (intOf i).toNat)
    case atStart => exact ⟨0, _, rfl, Nat.zero_le _, hh2, fun b e => e.elim (fun e => by rw [e]; exact hHw) (fun e => by cases e), hkw2⟩
    case round =>
      obtain ⟨k, v', rfl, hk, hh, hft, hnw⟩ := hrel
      by_cases hlt : k < n
      · have hkl : k < l.length := by have := HN.out; omega
        obtain ⟨x, hx⟩ : ∃ x, l[k]? = some x := ⟨_, List.getElem?_eq_getElem hkl⟩
        have hsr := HS.out.nw hnw
        obtain ⟨g, o, hA⟩ := hsr.lies (by omega)
        subst hA
        have x0 := hsr.one_at cvB_len hx rfl
        obtain ⟨hx0, hx1⟩ := HP.out x (List.mem_of_getElem? hx)
        have hki : (k : Int) < (n : Int) := by omega
        have hd1 : decide ((k : Int) < (n : Int)) = true := decide_eq_true hki
        have htk : its (l.take (k + 1)) 0 = its (l.take k) 0 ++ [(x, (k : Int))] := by
          rw [List.take_add_one, hx]
          have := its_snoc x (l.take k) 0
          rw [List.length_take, Nat.min_eq_left (Nat.le_of_lt hkl), Nat.zero_add] at this
          exact this
        have hpl : (its (l.take k) 0).length = k := by rw [its_length, List.length_take, Nat.min_eq_left (Nat.le_of_lt hkl)]
        have HST := Lib.hid (show ins rkI ((x, (k : Int)), k) (allQ rkI (its (l.take k) 0) 0 []) = allQ rkI (its (l.take (k + 1)) 0) 0 [] by rw [htk, allQ_snoc, hpl, Nat.zero_add])
        have HL := Lib.hid (show (allQ rkI (its (l.take k) 0) 0 []).length = k by rw [allQ_length, hpl]; simp)
        clear hx hsr htk hpl
        go_wp2_with fail
        refine (pushI_any 0 H 0 k v' (x, (k : Int)) _ wr hh (cntI_t _ _ _) (by rw [HL.out]; omega) (by omega)).mono ?_
        rintro e w3 ⟨rfl, v3, c3, hh3, hk3, hv3, _, _⟩
        rw [HST.out] at hh3
        have hft3 : ∀ b, Ft H v3 b → w.heap.size ≤ b := fun b e => e.elim (fun e => by rw [e]; exact hHw) (fun e => by
          rcases hv3 with e2 | ⟨k2, e2, hk2⟩
          · exact hft b (.inr (e2 ▸ e))
          · rw [e2] at e
            injection e with e
            have := hnw.size
            omega)
        have hnw3 : Nw w w3 := hnw.own hk3 (fun b e => e.elim (hft b) (fun e => e.elim))
        go_wp2_with fail
        go_roundw
        case rel => exact ⟨k + 1, v3, by go_num, by omega, hh3, hft3, hnw3⟩
        case measure => simp [intOf]; omega
      · obtain rfl : n = k := by omega
        have hfin : l.take n = l := List.take_of_length_le (by have := HN.out; omega)
        rw [hfin, HQ.out] at hh
        have hd1 : decide ((n : Int) < (n : Int)) = false := decide_eq_false (by omega)
        have HQL := Lib.hid (HKY.out.len.trans HN.out)
        have HFT := Lib.hid hft
        clear hfin hft
        go_wp2_with fail
        refine (drain_any 0 H 0 n v' q _ hh (by rw [HQL.out]; omega)).mono ?_
        rintro e w3 ⟨u, rfl, hu, hk3, _, _, _⟩
        have hnw3 : Nw w w3 := hnw.own hk3 HFT.out
        have hu3 : OwnVI w3 w.heap.size u (q.map (·.1)) := own_less hu hnw.size
        have hfl : (q.map (·.1)).length = n := by rw [List.length_map, HQL.out]
        obtain ⟨A4, c4, hv4⟩ := (own_src hu3).shape
        rw [hfl] at hv4
        subst hv4
        have HU3 := Lib.hid hu3
        have HFL := Lib.hid hfl
        clear hh hnw hu hk3 hu3 hfl
        go_wp2_with (at_make; refine wpList_make_full _ rfl _ _ 46 rfl w.heap.size 4 (info_parts infoT).choose (.bool false) 1 Try.underlying46 (info_parts infoT).choose_spec.1 (info_parts infoT).choose_spec.2.1 (info_parts infoT).choose_spec.2.2.1 .i64 .i64 _ _ n rfl rfl rfl rfl (by rw [(info_parts infoT).choose_spec.2.2.2]; omega) (by unfold maxLen; omega) hnw3.size ?_; intro w4 own4 gr4)
        obtain ⟨G, hG⟩ : ∃ G, w3.heap.size = G := ⟨_, rfl⟩
        rw [hG] at own4 ⊢
        have hot : OwnT w4 w.heap.size (.slice (some ⟨G, 0, none⟩) n n) (seenL n q 0) := by
          unfold OwnT
          rw [seenL_length, seenL_zero, ← made_bools]
          exact own4
        have hGw : w.heap.size ≤ G := by rw [← hG]; exact hnw3.size
        have hk4 : Nw w3 w4 := (Kp.refl _ w3).grown gr4 (fun k e => by cases e)
        have hnw4 := hnw3.tr hk4
        have hu4 := HU3.out.nw hk4
        have HOT := Lib.hid hot
        have HU4 := Lib.hid hu4
        have HNW4 := Lib.hid hnw4
        clear own4 gr4 hk4 hnw4 hnw3 hot hu4 hG
        go_loopw [37] (fun i wr => ∃ (j : Nat), i = .int .i64 j ∧ j ≤ n ∧ OwnT wr w.heap.size (.slice (some ⟨G, 0, none⟩) n n) (seenL n q j) ∧ OwnVI wr w.heap.size (.slice A4 n c4) (q.map (·.1)) ∧ Nw w wr) (fun i _ => n - (intOf i).toNat)
        case atStart => exact ⟨0, rfl, Nat.zero_le _, HOT.out, HU4.out, HNW4.out⟩
        case round =>
          obtain ⟨j, rfl, hj, hot, hou, hnw⟩ := hrel
          by_cases hlt : j < n
          · have hjl : j < q.length := by have := HQL.out; omega
            obtain ⟨y, hy⟩ : ∃ y, q[j]? = some y := ⟨_, List.getElem?_eq_getElem hjl⟩
            obtain ⟨hy1, hy2⟩ := HKY.out.at_ hy
            obtain ⟨t, ht⟩ : ∃ t, y.2 = t := ⟨_, rfl⟩
            rw [ht] at hy1 hy2
            have htn : t < n := by have := (List.getElem?_eq_some_iff.1 hy2).1; have := HN.out; omega
            obtain ⟨kk, hkk⟩ : ∃ kk, y.1.1 = kk := ⟨_, rfl⟩
            rw [hkk] at hy2
            obtain ⟨hk0, hk1⟩ := HP.out kk (List.mem_of_getElem? hy2)
            have hyv : (q.map (·.1))[j]? = some (kk, (t : Int)) := by rw [List.getElem?_map, hy]; simp [← hkk, ← hy1]
            have hsr := HS.out.nw hnw
            obtain ⟨g, o, hA⟩ := hsr.lies (by omega)
            subst hA
            have k0 := hsr.one_at cvB_len hy2 rfl
            have hus := hou.src
            have hus' : Src wr 2 (.slice A4 n c4) n (flat cvI (q.map (·.1))) := by have := hus; unfold SrcI at this; rw [HFL.out] at this; exact this
            obtain ⟨g2, o2, hB⟩ := hus'.lies (by omega)
            subst hB
            obtain ⟨u0, u1⟩ := hus.at_ rfl hyv
            have hot' := hot
            unfold OwnT at hot'
            rw [seenL_length] at hot'
            have s0 := hot'.cellAt t (by omega)
            have hsl : (flat cvT (seenL n q j))[t]? = some (.bool false) := by
              have := flat_at cvT_len 0 (seenL_at HKY.out.nodup hy (by rw [ht]; exact htn)) (by omega)
              rw [ht, Nat.mul_one, Nat.add_zero] at this
              exact this
            have HSL := Lib.hid hsl
            rw [hsl] at s0
            have s1 := hot'.frozenAt t
            have hGl : G < wr.heap.size := own_lt hot' G rfl
            have hgl : g < wr.heap.size := World.block_lt_of_cell? wr _ k0
            have hgl2 : g2 < wr.heap.size := World.block_lt_of_cell? wr _ u0
            have HSET := Lib.hid (show (seenL n q j).set t true = seenL n q (j + 1) by rw [← ht]; exact seenL_set hy)
            have hGg : G ≠ g2 := fun e => own_own hot' hou (by decide) g2 rfl (by rw [e]; rfl)
            have hGg1 : G ≠ g := fun e => by
              obtain ⟨_, A', c', hv, _, _, hc⟩ := HS.out
              obtain ⟨g', o', rfl, hb, _⟩ := hc (by omega)
              simp only [Value.slice.injEq, Option.some.injEq, Addr.mk.injEq] at hv
              omega
            have hji : (j : Int) < (n : Int) := by omega
            have hti : (t : Int) < (n : Int) := by omega
            have ht0 : (0 : Int) ≤ (t : Int) := by omega
            have hd1 : decide ((j : Int) < (n : Int)) = true := decide_eq_true hji
            have hd3 : decide ((t : Int) < (0 : Int)) = false := decide_eq_false (by omega)
            have hd4 : decide ((n : Int) ≤ (t : Int)) = false := decide_eq_false (by omega)
            have hcv : IntKind.i64.wrap kk = kk := IntWalk.i64_in _ (by omega)
            have HHY := Lib.hid hy
            have HT := Lib.hid ht
            have HKK := Lib.hid hkk
            have HHY1 := Lib.hid hy1
            have HOT2 := Lib.hid hot'
            have HOU := Lib.hid hou
            obtain ⟨wx, hwx⟩ : ∃ wx, wr.alloc (.cells #[.int .i64 kk, .int .i64 (t : Int)] 27) = wx := ⟨_, rfl⟩
            have hkx : Nw wr wx := hwx ▸ (Kp.refl _ wr).alloc _
            have hbx : Blk wx wr.heap.size 27 #[.int .i64 kk, .int .i64 (t : Int)] := hwx ▸ Blk.new wr _ _
            have HWX := Lib.hid hwx
            have HKX := Lib.hid hkx
            have HBX := Lib.hid hbx
            obtain ⟨xx0, xx1, _, _⟩ := hbx.two
            have s0x := (hkx.cell (p := ⟨G, t, none⟩) hGl (fun e => e)).trans s0
            have k0x := (hkx.cell (p := ⟨g, o + t, none⟩) hgl (fun e => e)).trans k0
            clear hy hy1 hy2 ht hkk hyv hsr hus hus' hot hot' hou hsl hwx hkx hbx
            go_wp2_with fail
            rw [HWX.out]
            clear k0 s0 u0 u1
            go_quiet (fail)
            generalize hw5 : World.drewN wx _ = w5
            have hk5 : Nw wr w5 := by rw [← hw5]; exact HKX.out.drewN _
            have hb5 : Blk w5 wr.heap.size 27 #[.int .i64 kk, .int .i64 (t : Int)] := by rw [← hw5]; exact HBX.out.drewN _
            clear hw5 xx0 xx1 s0x k0x
            obtain ⟨x0, x1, _, _⟩ := hb5.two
            have hot5 := own_nw HOT2.out hk5
            have s5 := (hk5.cell (p := ⟨G, t, none⟩) hGl (fun e => e)).trans ((HOT2.out.cellAt t (by omega)).trans HSL.out)
            have f5 := hot5.frozenAt t
            have hou5 := HOU.out.nw hk5
            have hset := (hot5.stored t (.bool true)).1
            rw [flat_setT, HSET.out] at hset
            have hk6 := kp_set w5 G t (.bool true)
            have hou6 := hou5.kp hk6 (fun gg e e2 => hGg (by injection e with e; exact e2.symm.trans e.symm))
            have hot6 : OwnT (w5.setCell ⟨G, t, none⟩ (.bool true)) w.heap.size (.slice (some ⟨G, 0, none⟩) n n) (seenL n q (j + 1)) := by unfold OwnT; rw [seenL_length]; exact hset
            have hb6 := hb5.kp hk6 (fun e => by omega)
            have hnw6 := (hnw.tr hk5).own hk6 (fun b e => by rw [e]; exact hGw)
            obtain ⟨w6, hw6⟩ : ∃ w6, w5.setCell ⟨G, t, none⟩ (.bool true) = w6 := ⟨_, rfl⟩
            rw [hw6] at hou6 hot6 hb6 hnw6
            have HW6 := Lib.hid hw6
            have HOU6 := Lib.hid hou6
            have HOT6 := Lib.hid hot6
            have HNW6 := Lib.hid hnw6
            obtain ⟨z0, z1, _, _⟩ := hb6.two
            clear hset hou5 hot5 hk6 hw6 hou6 hot6 hnw6
            go_wp2_with fail
            rw [HW6.out]
            rcases Nat.eq_zero_or_pos j with hj0 | hj0
            · subst hj0
              have hg1 : decide ((0 : Int) < ((0 : Nat) : Int)) = false := decide_eq_false (by omega)
              go_quiet (fail)
              generalize hw7 : World.drewN w6 _ = w7
              have hk7 : Nw w6 w7 := by rw [← hw7]; exact (Kp.refl _ w6).drewN _
              clear hw7
              go_wp2
              go_roundw
              case rel => exact ⟨0 + 1, by first | go_num | rfl, by omega, own_nw HOT6.out hk7, HOU6.out.nw hk7, HNW6.out.tr hk7⟩
              case measure => simp [intOf]; omega
            · obtain ⟨i, hi⟩ : ∃ i, j = i + 1 := ⟨j - 1, by omega⟩
              have hiq : i < q.length := by omega
              obtain ⟨y', hy'⟩ : ∃ y', q[i]? = some y' := ⟨_, List.getElem?_eq_getElem hiq⟩
              obtain ⟨hn1, hn2⟩ := HKY.out.next hy' (by rw [← hi]; exact HHY.out)
              rw [HKK.out] at hn1 hn2
              rw [HHY1.out] at hn2
              obtain ⟨k', hk'⟩ : ∃ k', y'.1.1 = k' := ⟨_, rfl⟩
              obtain ⟨t', ht'⟩ : ∃ t', y'.1.2 = t' := ⟨_, rfl⟩
              rw [hk'] at hn1 hn2
              rw [ht'] at hn2
              have hyv' : (q.map (·.1))[i]? = some (k', t') := by rw [List.getElem?_map, hy']; simp [← hk', ← ht']
              have hous := HOU6.out.src
              unfold SrcI at hous
              rw [HFL.out] at hous
              have v0 := hous.cell_at (flat_at cvI_len 0 hyv' (by omega))
              have v1 := hous.cell_at (flat_at cvI_len 1 hyv' (by omega))
              rw [Nat.add_zero] at v0
              rw [← Nat.add_assoc] at v1
              have v0' : w6.cell? ⟨g2, o2 + i * 2, none⟩ = some (.int .i64 k') := v0
              have v1' : w6.cell? ⟨g2, o2 + i * 2 + 1, none⟩ = some (.int .i64 t') := v1
              have hg1 : decide ((0 : Int) < (j : Int)) = true := decide_eq_true (by omega)
              have hj00 : (0 : Int) < (j : Int) := by omega
              have hwj : IntKind.i64.wrap ((j : Int) - 1) = (i : Int) := by rw [show (j : Int) - 1 = (i : Int) by omega]; exact IntWalk.i64_in _ (by omega)
              have hin : (i : Int) < (n : Int) := by omega
              have hi0 : (0 : Int) ≤ (i : Int) := by omega
              have hg2' : decide (kk < k') = false := decide_eq_false (by omega)
              by_cases hkeq : k' = kk
              · subst hkeq
                have hg3 : decide ((t : Int) < t') = false := decide_eq_false (by have := hn2 rfl; omega)
                clear hi hy' hk' ht' hyv' hous v0 v1 hn1 hn2
                go_quiet (fail)
                generalize hw7 : World.drewN w6 _ = w7
                have hk7 : Nw w6 w7 := by rw [← hw7]; exact (Kp.refl _ w6).drewN _
                clear hw7
                go_wp2
                go_roundw
                case rel => exact ⟨j + 1, by go_num, by omega, own_nw HOT6.out hk7, HOU6.out.nw hk7, HNW6.out.tr hk7⟩
                case measure => simp [intOf]; omega
              · have hg3 : (k' == kk) = false := beq_eq_false_iff_ne.2 hkeq
                clear hi hy' hk' ht' hyv' hous v0 v1 hn1 hn2
                go_quiet (fail)
                generalize hw7 : World.drewN w6 _ = w7
                have hk7 : Nw w6 w7 := by rw [← hw7]; exact (Kp.refl _ w6).drewN _
                clear hw7
                go_wp2
                go_roundw
                case rel => exact ⟨j + 1, by go_num, by omega, own_nw HOT6.out hk7, HOU6.out.nw hk7, HNW6.out.tr hk7⟩
                case measure => simp [intOf]; omega
          · obtain rfl : n = j := by omega
            have hd1 : decide ((n : Int) < (n : Int)) = false := decide_eq_false (by omega)
            go_wp2_with fail
            go_ret
            exact ⟨rfl, hnw⟩
end Go.Proofs.Ytogfcenebbipeaa.W
