/-
  fretsawlaw03.HeapIterates returns true for every list and number. Condition: the arguments are read.
-/
import Derived.Test.YtogfcenebbipeaaHLate
namespace Go.Proofs.Ytogfcenebbipeaa.W
open Go.RowKit Go.Shelf Go.Proofs.Ytogfcenebbipeaa.Pl

attribute [local go_sem] Oper.semAt_some

set_option maxRecDepth 100000 in
set_option maxHeartbeats 12800000 in
theorem iterates_walk (v : Value) (l : List (Int × Int)) (stop : Int) (w : World) (hs : SrcI w v l) (hstop : 0 ≤ stop ∧ stop < 256) (hlen : l.length ≤ 140737488355328) :
    Calls Try.prog 6 #[v, .int .u8 stop] w fun e w' => e = .returned (.bool true) ∧ Nw w w' := by
  obtain ⟨A, cap, rfl⟩ := hs.shape
  obtain ⟨n, hn⟩ : ∃ n, l.length = n := ⟨_, rfl⟩
  have hni : (n : Int) ≤ 140737488355328 := by omega
  have HN := Lib.hid hn
  have HS := Lib.hid hs
  rw [hn]
  clear hn hs hlen
  have hsrc : ∀ {w' : World}, Nw w w' → SrcI w' (.slice A n cap) l := fun hk => by have := HS.out.nw hk; rw [HN.out] at this; exact this
  by_cases hbig : (200 : Int) < n
  · refine enter_marks Try.func6 rfl ?_
    simp only [Try.ntmps6, List.size_toArray, List.length_cons, List.length_nil, Nat.reduceAdd, Nat.reduceSub, Array.replicate_succ, Array.replicate_zero, List.push_toArray, List.append_toArray, List.nil_append, List.cons_append]
    have hk0 : Nw w (w.alloc (.cells #[.int .u8 stop] 5)) := (Kp.refl _ w).alloc _
    go_wp2_with (go_at_call 10; ((with_reducible refine (awake_any _).mono ?_); rintro e w1 ⟨rfl, hk1⟩))
    exact leaves_marks rfl [] _ List.nodup_nil (by simp) (fun W' hk => ⟨rfl, (hk0.tr hk1).own hk (fun k e => by simp at e)⟩)
  · have hsm : (n : Int) ≤ 200 := by omega
    have hd0 : decide ((200 : Int) < (n : Int)) = false := decide_eq_false hbig
    have hln : l.length ≤ 200 := by have := HN.out; omega
    clear hbig
    obtain ⟨st, hst⟩ : ∃ st : Nat, stop = (st : Int) := ⟨stop.toNat, by omega⟩
    subst hst
    have hst2 : st < 256 := by omega
    clear hstop
    refine enter_marks Try.func6 rfl ?_
    simp only [Try.ntmps6, List.size_toArray, List.length_cons, List.length_nil, Nat.reduceAdd, Nat.reduceSub, Array.replicate_succ, Array.replicate_zero, List.push_toArray, List.append_toArray, List.nil_append, List.cons_append]
    have hb3 := Blk.new w 5 #[.int .u8 st]
    have hk0 : Nw w (w.alloc (.cells #[.int .u8 st] 5)) := (Kp.refl _ w).alloc _
    obtain ⟨C3, hC3⟩ : ∃ C3, w.heap.size = C3 := ⟨_, rfl⟩
    rw [hC3] at hb3
    have HC3 := Lib.hid hC3
    clear hC3
    go_wp2_with fail
    refine (awake_any _).mono ?_
    rintro e w1 ⟨rfl, hk1⟩
    rw [HC3.out]
    have hb31 := hb3.kp hk1 (fun e => e)
    have hnw1 := hk0.tr hk1
    clear hb3 hk0 hk1
    have hs1 := hsrc hnw1
    go_wp2_with fail
    refine (fromI_any _ l _ hs1 (by omega)).mono ?_
    rintro e w2 ⟨rfl, vh, hh2, hf2, hk2⟩
    obtain ⟨H, hH⟩ : ∃ H, w1.heap.size = H := ⟨_, rfl⟩
    rw [hH] at hh2 ⊢
    obtain ⟨q, hq⟩ : ∃ q, allQ rkI l 0 [] = q := ⟨_, rfl⟩
    obtain ⟨want, hwant⟩ : ∃ want, sortV rkI l [] = want := ⟨_, rfl⟩
    rw [hq] at hh2
    have HQL := Lib.hid (show q.length = n by rw [← hq, allQ_length, HN.out]; simp)
    have HQM := Lib.hid (show q.map (·.1) = want by rw [← hq, ← hwant, allQ_map]; rfl)
    have HWL := Lib.hid (show want.length = n by rw [← hwant, sortV_length, HN.out]; simp)
    have hnw2 := hnw1.tr hk2
    have hb32 := hb31.kp hk2 (fun e => e)
    obtain ⟨C5, hC5⟩ : ∃ C5, w2.heap.size = C5 := ⟨_, rfl⟩
    have hb5 := Blk.new w2 24 #[.pointer (some ⟨H, 0, none⟩)]
    rw [hC5] at hb5
    obtain ⟨w3, hw3⟩ : ∃ w3, w2.alloc (.cells #[.pointer (some ⟨H, 0, none⟩)] 24) = w3 := ⟨_, rfl⟩
    have hk3 : Nw w2 w3 := hw3 ▸ (Kp.refl _ w2).alloc _
    rw [hw3] at hb5
    have hnw3 := hnw2.tr hk3
    have hh3 := hh2.nw hk3
    have hb33 := hb32.kp hk3 (fun e => e)
    have hs3 := hsrc hnw3
    have hfl : ∀ k, Ft H vh k → w.heap.size ≤ k ∧ k < C5 ∧ k ≠ C3 := fun k e => by have h1 := hf2 k (by rw [hH]; exact e); have h2 := hnw1.size; have h3 := hh2.lt k e; have h4 := HC3.out; have h5 := hb31.lt; omega
    have hC35 : C3 < C5 := by have := hb32.lt; omega
    have HW3 := Lib.hid hw3
    have HC5 := Lib.hid hC5
    have HWANT := Lib.hid hwant
    clear hH hk2 hf2 hh2 hb31 hb32 hs1 hnw1 hnw2 hk3 hw3 hC5 hq hwant
    go_wp2_with fail
    rw [HW3.out, HC5.out]
    refine (refSorted_any _ l _ hs3 (by omega)).mono ?_
    rintro e w4 ⟨u6, rfl, ho4, hk4⟩
    rw [HWANT.out] at ho4
    obtain ⟨U6, c6, rfl⟩ := ho4.src.shape
    rw [HWL.out] at ho4 ⊢
    have hol : ∀ g, (Value.slice U6 n c6).ownBlock = some g → C5 < g ∧ g < w4.heap.size := fun g e => ⟨Nat.lt_of_lt_of_le hb5.lt (own_from ho4 g e), own_lt ho4 g e⟩
    have hnw4 := hnw3.tr hk4
    have hh4 := hh3.nw hk4
    have hb34 := hb33.kp hk4 (fun e => e)
    have hb54 := hb5.kp hk4 (fun e => e)
    obtain ⟨C7, hC7⟩ : ∃ C7, w4.heap.size = C7 := ⟨_, rfl⟩
    obtain ⟨w5, hw5⟩ : ∃ w5, (w4.alloc (.cells #[.slice none 0 0] 29)).alloc (.cells #[.slice none 0 0] 29) = w5 := ⟨_, rfl⟩
    have hb7 : Blk w5 C7 29 #[.slice none 0 0] := by rw [← hw5, ← hC7]; exact (Blk.new w4 _ _).alloc _
    have hb8 : Blk w5 (C7 + 1) 29 #[.slice none 0 0] := by rw [← hw5, ← hC7]; have := Blk.new (w4.alloc (.cells #[.slice none 0 0] 29)) 29 #[.slice none 0 0]; rw [World.size_alloc] at this; exact this
    rw [hC7] at hol
    have hC57 : C5 < C7 := by have := hb54.lt; omega
    have hk5 : Nw w4 w5 := hw5 ▸ ((Kp.refl _ w4).alloc _).alloc _
    have hnw5 := hnw4.tr hk5
    have hh5 := hh4.nw hk5
    have hb35 := hb34.kp hk5 (fun e => e)
    have hb55 := hb54.kp hk5 (fun e => e)
    have ho5 := ho4.nw hk5
    have HW5 := Lib.hid hw5
    have HC7 := Lib.hid hC7
    obtain ⟨c50, c51⟩ := hb55.one
    rw [← hw5] at c50
    clear hk4 hk5 hw5 hC7 hnw3 hnw4 hh3 hh4 hb33 hb34 hb5 hb54 ho4 hs3
    go_wp2_with fail
    rw [HW5.out, HC7.out]
    clear c50
    have hbb := Blk.new w5 24 #[.pointer (some ⟨H, 0, none⟩)]
    obtain ⟨B1, hB1⟩ : ∃ B1, w5.heap.size = B1 := ⟨_, rfl⟩
    rw [hB1] at hbb
    refine (allI_any (some ⟨H, 0, none⟩) w5).mono ?_
    rintro e w6 ⟨rfl, rfl⟩
    rw [hB1]
    go_wp2_with fail
    obtain ⟨w6, hw6⟩ : ∃ w6, w5.alloc (.cells #[.pointer (some ⟨H, 0, none⟩)] 24) = w6 := ⟨_, rfl⟩
    rw [hw6] at hbb ⊢
    have hk6 : Nw w5 w6 := hw6 ▸ (Kp.refl _ w5).alloc _
    have hnw6 := hnw5.tr hk6
    have hh6 := hh5.nw hk6
    have hb36 := hb35.kp hk6 (fun e => e)
    have hb56 := hb55.kp hk6 (fun e => e)
    have hb76 := hb7.kp hk6 (fun e => e)
    have hb86 := hb8.kp hk6 (fun e => e)
    have ho6 := ho5.nw hk6
    have hC7l := hb76.lt
    have hit : SeqIt 34 #[.pointer (some ⟨B1, 0, none⟩)] encI want w6 := HQM.out ▸ iterI_any B1 H l.length vh q w6 hbb hh6 (by rw [HQL.out]; omega)
    have HIT := Lib.hid hit
    have henv : IEnv w st C3 C5 C7 H l.length vh q (.slice U6 n c6) want w6 := ⟨hnw6, hh6, hb36, hb56, HWL.out ▸ ho6.src, fun k e => ⟨(hfl k e).1, Nat.lt_trans (hfl k e).2.1 hC57⟩, Nat.lt_trans hC35 hC57, hC57, by have := HC3.out; omega,
      fun g e => (hol g e).2, fun k e => ⟨(hfl k e).2.2, Nat.ne_of_lt (hfl k e).2.1, fun e2 => by have := (hol k e2).1; have := (hfl k e).2.1; omega⟩⟩
    have HE := Lib.hid henv
    have HB7 := Lib.hid hb76
    have HB86 := Lib.hid hb86
    clear henv hit hnw6 hnw5 hh6 hh5 hb36 hb35 hb56 hb55 hb76 hb7 hb86 hb8 ho6 ho5 hfl hol hC35 hC57 hk6 hw6 hbb hB1
    refine range_box 9 27 (fun x : Int × Int => #[.int .i64 x.1, .int .i64 x.2]) (by rfl) (enters_of Try.func34 (by kernel_rfl) rfl) HIT.out (OwnC C7) (CollI w6 C7) (fun _ _ _ => False)
      (coll_own w6 C7) (fun c => ⟨fun _ _ _ _ e => e.elim, fun _ _ _ _ e => e.elim, fun _ _ _ e => e.elim⟩) ⟨_, HB7.out, OwnVI.nil _ _, Kp.refl _ _⟩ ?assign ?body ?done ?stop
    case assign =>
      intro l' x W K hK
      simp only [encI, List.setIfInBounds_toArray, List.set_cons_succ, List.set_cons_zero] at hK ⊢
      gi_wp2
      exact hK
    case stop => exact fun _ _ _ _ _ _ e => e.elim
    case body =>
      rintro l' pre x b W ⟨v, hc⟩ hpre hB
      simp only [encI, List.setIfInBounds_toArray, List.set_cons_succ, List.set_cons_zero]
      obtain ⟨Av, cv, rfl⟩ := hc.row.src.shape
      obtain ⟨c7, f7⟩ := hc.box.one
      obtain ⟨x0, x1, _, _⟩ := hB.two
      have hpl : pre.length + 1 ≤ 200 := by have := hpre.length_le; simp at this; have := HWL.out; omega
      have hsz := hc.kp.size
      have hvC : (Value.slice Av pre.length cv).ownBlock ≠ some C7 := fun e => absurd (own_from hc.row C7 e) (by omega)
      gi_wp2_with (gi_at_builtin; refine wpIn_pushG rfl (.tmp 27) (.tmp 29) 29 27 2 16 (.agg #[.int .i64 0, .int .i64 0]) rfl Try.underlying29 infoVI rfl (by omega) w6.heap.size pre.length _ (flat cvI pre) [.int .i64 x.1, .int .i64 x.2] rfl hc.row rfl ?_ rfl ?_ ?_ hsz ?_; (intro u hu; simp at hu; rcases hu with rfl | rfl <;> rfl); omega; omega; intro v' W5 own5 gr5; have hb5 := hc.box.kp gr5.by_ hvC; (obtain ⟨d7, g7⟩ := hb5.one); (obtain ⟨A', c', rfl⟩ := (own_src own5).shape))
      exact ⟨(hc.next hC7l own5 gr5).2, _, (hc.next hC7l own5 gr5).1⟩
    case done =>
      intro D1 W1 hD1 ⟨v7, hc7⟩ hd1
      have henv1 := HE.out.kp hc7.kp (fun k e => Nat.le_of_eq e.symm)
      have hb81 := HB86.out.kp hc7.kp (fun e => by omega)
      obtain ⟨b50, b51⟩ := henv1.b5.one
      go_wp2_with fail
      have hbb := Blk.new W1 24 #[.pointer (some ⟨H, 0, none⟩)]
      obtain ⟨B2, hB2⟩ : ∃ B2, W1.heap.size = B2 := ⟨_, rfl⟩
      rw [hB2] at hbb
      refine (allI_any (some ⟨H, 0, none⟩) W1).mono ?_
      rintro e w6a ⟨rfl, rfl⟩
      rw [hB2]
      go_wp2_with fail
      obtain ⟨wb, hwb⟩ : ∃ wb, W1.alloc (.cells #[.pointer (some ⟨H, 0, none⟩)] 24) = wb := ⟨_, rfl⟩
      rw [hwb] at hbb ⊢
      have hkb : Nw W1 wb := hwb ▸ (Kp.refl _ W1).alloc _
      have henv2 := henv1.nw_ hkb
      have hb72 := hc7.box.kp hkb (fun e => e)
      have hr72 := hc7.row.nw hkb
      have hb82 := hb81.kp hkb (fun e => e)
      have hit2 : SeqIt 34 #[.pointer (some ⟨B2, 0, none⟩)] encI want wb := HQM.out ▸ iterI_any B2 H l.length vh q wb hbb henv2.hp (by rw [HQL.out]; omega)
      have hC8l := hb82.lt
      have hsz6 := hc7.kp.size
      have HIT2 := Lib.hid hit2
      have HE2 := Lib.hid henv2
      have HB72 := Lib.hid hb72
      have HR72 := Lib.hid hr72
      have HB82 := Lib.hid hb82
      have HKB := Lib.hid hkb
      clear hit2 henv2 henv1 hb72 hr72 hb82 hb81 hc7 hkb hwb hbb hB2 b50 b51
      refine range_brk 2 10 27 (fun x : Int × Int => #[.int .i64 x.1, .int .i64 x.2]) (by rfl) (enters_of Try.func34 (by kernel_rfl) rfl) HIT2.out (OwnC (C7 + 1))
        (fun pre W => ∃ pre', CollI wb (C7 + 1) pre' W ∧ (pre' = pre ∧ pre.length ≤ st)) (fun pre W => ∃ pre', CollI wb (C7 + 1) pre' W ∧ (pre'.length = st ∧ ∃ x, pre = pre' ++ [x]))
        (CollI wb (C7 + 1) (want.take st)) (coll_own' wb (C7 + 1) _) (coll_own' wb (C7 + 1) _) ⟨[], ⟨_, HB82.out, OwnVI.nil _ _, Kp.refl _ _⟩, rfl, Nat.zero_le _⟩ ?_ ?_ ?assign ?body ?done
      · rintro W ⟨pre, h, rfl, hl⟩
        rw [List.take_of_length_le hl]
        exact h
      · rintro pre W hp ⟨pre', h, hl, x, rfl⟩
        obtain ⟨t, rfl⟩ := hp
        have e : (pre' ++ [x] ++ t).take st = pre' := by rw [List.append_assoc, List.take_append_of_le_length (by omega), List.take_of_length_le (by omega)]
        rw [e]
        exact h
      case assign =>
        intro l' x W K hK
        simp only [encI, List.setIfInBounds_toArray, List.set_cons_succ, List.set_cons_zero] at hK ⊢
        gi_wp2
        exact hK
      case body =>
        rintro l' pre x b W ⟨_, ⟨v, hc⟩, rfl, hlst⟩ hpre hB
        rename_i pre
        simp only [encI, List.setIfInBounds_toArray, List.set_cons_succ, List.set_cons_zero]
        obtain ⟨Av, cv, rfl⟩ := hc.row.src.shape
        obtain ⟨c8, f8⟩ := hc.box.one
        have henvW := HE2.out.kp hc.kp (fun k e => by omega)
        obtain ⟨c30, _⟩ := henvW.b3.one
        obtain ⟨x0, x1, _, _⟩ := hB.two
        have hsti : (st : Int) < 256 := by omega
        have hpl : pre.length + 1 ≤ 200 := by have := hpre.length_le; simp at this; have := HWL.out; omega
        have hsz := hc.kp.size
        have hvC : (Value.slice Av pre.length cv).ownBlock ≠ some (C7 + 1) := fun e => absurd (own_from hc.row (C7 + 1) e) (by omega)
        clear henvW
        by_cases hq : pre.length = st
        · have hd1 : ((pre.length : Int) == (st : Int)) = true := beq_iff_eq.2 (by omega)
          have HQ := Lib.hid hq
          clear hq
          gi_wp2
          exact ⟨⟨Kp.refl _ _, fun k e => .inl e⟩, rfl, pre, ⟨_, hc⟩, HQ.out, x, rfl⟩
        · have hd1 : ((pre.length : Int) == (st : Int)) = false := beq_eq_false_iff_ne.2 (by omega)
          gi_wp2_with (gi_at_builtin; refine wpIn_pushG rfl (.tmp 39) (.tmp 41) 29 27 2 16 (.agg #[.int .i64 0, .int .i64 0]) rfl Try.underlying29 infoVI rfl (by omega) wb.heap.size pre.length _ (flat cvI pre) [.int .i64 x.1, .int .i64 x.2] rfl hc.row rfl ?_ rfl ?_ ?_ hsz ?_; (intro u hu; simp at hu; rcases hu with rfl | rfl <;> rfl); omega; omega; intro v' W5 own5 gr5; have hb5 := hc.box.kp gr5.by_ hvC; (obtain ⟨d7, g7⟩ := hb5.one); (obtain ⟨A', c', rfl⟩ := (own_src own5).shape))
          exact ⟨(hc.next hC8l own5 gr5).2, _, ⟨_, (hc.next hC8l own5 gr5).1⟩, rfl, by rw [List.length_append]; simp; omega⟩
      case done =>
        intro D2 W2 hD2 ⟨v8, hc8⟩ hd2
        have henv := HE2.out.kp hc8.kp (fun k e => by omega)
        have hb7 := HB72.out.kp hc8.kp (fun e => by omega)
        have hr7 := HR72.out.kp hc8.kp (fun g e e2 => by have := own_from HR72.out g e; have := HB86.out.lt; omega)
        obtain ⟨A7, cc7, rfl⟩ := hr7.src.shape
        obtain ⟨A8, cc8, rfl⟩ := hc8.row.src.shape
        obtain ⟨k1, hk1⟩ : ∃ k1, min st n = k1 := ⟨_, rfl⟩
        have htl : (want.take st).length = k1 := by rw [List.length_take, HWL.out, hk1]
        have htk : want.take st = want.take k1 := by
          rw [← hk1]
          by_cases h : st ≤ n
          · rw [Nat.min_eq_left h]
          · rw [Nat.min_eq_right (by omega), List.take_of_length_le (by have := HWL.out; omega), List.take_of_length_le (by have := HWL.out; omega)]
        have hk1n : k1 ≤ n := by omega
        have hm1 : (if (st : Int) < (n : Int) then (st : Int) else (n : Int)) = (k1 : Int) := by split <;> omega
        have hm1' : (if st < n then (st : Int) else (n : Int)) = (k1 : Int) := by split <;> omega
        rw [HWL.out] at hb7 hr7
        rw [htl] at hc8
        have hr8 : SrcI W2 (.slice A8 k1 cc8) (want.take k1) := by have := hc8.row.src; rw [htk] at this; exact this
        obtain ⟨B3, d3, hrun3, hs3, _⟩ := Src.cuth elemV Try.underlying29 infoVI (show Src W2 2 (.slice U6 n c6) n (flat cvI want) by have := henv.o; unfold SrcI at this; rw [HWL.out] at this; exact this) k1 hk1n
        rw [flat_take cvI_len] at hs3
        have hs3' : SrcI W2 (.slice B3 k1 d3) (want.take k1) := by unfold SrcI; rw [List.length_take, HWL.out, Nat.min_eq_left hk1n]; exact hs3
        obtain ⟨k70, _⟩ := hb7.one
        obtain ⟨k80, _⟩ := hc8.box.one
        obtain ⟨k30, _⟩ := henv.b3.one
        obtain ⟨k50, _⟩ := henv.b5.one
        have hwl : want.length ≤ 1099511627775 := by have := HWL.out; omega
        have htl2 : (want.take k1).length ≤ 1099511627775 := by rw [List.length_take]; omega
        have hsti : (st : Int) < 256 := by omega
        have hkd : Nw W2 W2.drew := (Kp.refl _ W2).drewN 1
        have HTL2 := Lib.hid htl2
        have HWL2 := Lib.hid hwl
        have HR7 := Lib.hid (hr7.nw hkd)
        have HR8 := Lib.hid (hr8.nw hkd)
        have HS3 := Lib.hid (hs3'.nw hkd)
        have HE3 := Lib.hid (henv.nw_ hkd)
        have HKD := Lib.hid hkd
        have KZ := Lib.hid (keep4 ⟨k70, k80, k30, k50⟩ hkd)
        have HB7 := Lib.hid hb7
        have HB8 := Lib.hid hc8.box
        have HK12 := Lib.hid hc8.kp
        clear hk1 htl htk hr7 hr8 hs3 hs3' henv hb7 hc8 hwl htl2 hkd
        go_wp2_with fail
        have hwr : IntKind.i64.wrap (st : Int) = (st : Int) := IntWalk.i64_in _ (by omega)
        go_region_held3 (fun w' : World => w'.cell? (⟨C7, 0, none⟩ : Addr) = some (.slice A7 n cc7) ∧ w'.cell? (⟨C7 + 1, 0, none⟩ : Addr) = some (.slice A8 k1 cc8) ∧ w'.cell? (⟨C3, 0, none⟩ : Addr) = some (.int .u8 st) ∧ w'.cell? (⟨C5, 0, none⟩ : Addr) = some (.pointer (some ⟨H, 0, none⟩)))
          (first | go_keep | exact KA.out | exact KB.out)
          (first
            | (go_at_call 19; ((with_reducible refine (same_true _ _ want _ HR7.out.src HE3.out.o HWL2.out).mono ?_); rintro e w3 ⟨rfl, hk3⟩; (have KA := Lib.hid (keep4 KZ.out hk3)); (have HEA := Lib.hid (HE3.out.nw_ hk3)); (have HR8A := Lib.hid (HR8.out.nw hk3)); (have HS3A := Lib.hid (HS3.out.nw hk3)); (have HNA := Lib.hid hk3); clear hk3))
            | (go_at_call 19; ((with_reducible refine (same_true _ _ (want.take k1) _ HR8A.out HS3A.out HTL2.out).mono ?_); rintro e w4 ⟨rfl, hk4⟩; (have KB := Lib.hid (keep4 KA.out hk4)); (have HEB := Lib.hid (HEA.out.nw_ hk4)); (have HNB := Lib.hid (HNA.out.tr hk4)); clear hk4))
            | (go_at_call 18; ((with_reducible refine (lenI_any 0 H _ _ _ _ HEB.out.hp).mono ?_); rintro e w5 ⟨rfl, rfl⟩; rw [HQL.out])))
        obtain ⟨q70, q80, q30, q50⟩ := KB.out
        clear hwr hm1 hm1' hrun3 k70 k80 k30 k50
        have hbl := Blk.new w4 29 #[.slice none 0 0]
        obtain ⟨w5, hw5⟩ : ∃ w5, w4.alloc (.cells #[.slice none 0 0] 29) = w5 := ⟨_, rfl⟩
        obtain ⟨C9, hC9⟩ : ∃ C9, w4.heap.size = C9 := ⟨_, rfl⟩
        rw [hw5, hC9] at hbl
        have hk5 : Nw w4 w5 := hw5 ▸ (Kp.refl _ w4).alloc _
        have henv5 := HEB.out.nw_ hk5
        obtain ⟨z50, _⟩ := henv5.b5.one
        have HENV5 := Lib.hid henv5
        have HBL := Lib.hid hbl
        have HW5 := Lib.hid hw5
        have HC9 := Lib.hid hC9
        rw [← hw5] at z50
        clear henv5 hbl hw5 hC9 hk5 q70 q80 q30 q50
        go_wp2_with fail
        rw [HW5.out, HC9.out]
        clear z50
        have hbb := Blk.new w5 24 #[.pointer (some ⟨H, 0, none⟩)]
        obtain ⟨B4, hB4⟩ : ∃ B4, w5.heap.size = B4 := ⟨_, rfl⟩
        rw [hB4] at hbb
        refine (allI_any (some ⟨H, 0, none⟩) w5).mono ?_
        rintro e w6b ⟨rfl, rfl⟩
        rw [hB4]
        go_wp2_with fail
        obtain ⟨wc, hwc⟩ : ∃ wc, w5.alloc (.cells #[.pointer (some ⟨H, 0, none⟩)] 24) = wc := ⟨_, rfl⟩
        rw [hwc] at hbb ⊢
        have hkc : Nw w5 wc := hwc ▸ (Kp.refl _ w5).alloc _
        have henvc := HENV5.out.nw_ hkc
        have hblc := HBL.out.kp hkc (fun e => e)
        have hit3 : SeqIt 34 #[.pointer (some ⟨B4, 0, none⟩)] encI want wc := HQM.out ▸ iterI_any B4 H l.length vh q wc hbb henvc.hp (by rw [HQL.out]; omega)
        have hlate0 : LateI wc C9 H vh (-4611686018427387904, 0) q l.length [] wc := ⟨_, vh, q, l.length, ⟨hblc, OwnVI.nil _ _, henvc.hp, fun k e => .inl e, Kp.refl _ _⟩, .inl ⟨rfl, rfl, rfl, rfl⟩⟩
        have hC9l : C5 < C9 ∧ C9 < wc.heap.size := ⟨by have := henvc.l5; have := HB8.out.lt; have := HKD.out.size; have := HNB.out.size; have := HC9.out; omega, hblc.lt⟩
        have HIT3 := Lib.hid hit3
        have HEC := Lib.hid henvc
        have HL0 := Lib.hid hlate0
        have HK4C := Lib.hid (show Nw w4 wc by rw [← hwc, ← HW5.out]; exact ((Kp.refl _ w4).alloc _).alloc _)
        clear hit3 henvc hblc hlate0 hkc hwc hbb hB4
        refine range_box 12 27 (fun x : Int × Int => #[.int .i64 x.1, .int .i64 x.2]) (by rfl) (enters_of Try.func34 (by kernel_rfl) rfl) HIT3.out (OwnL C9 H) (LateI wc C9 H vh (-4611686018427387904, 0) q l.length) (fun _ _ _ => False)
          (late_own wc C9 H vh _ q _) (fun c => ⟨fun _ _ _ _ e => e.elim, fun _ _ _ _ e => e.elim, fun _ _ _ e => e.elim⟩) HL0.out ?assign ?body ?done ?stop
        case assign =>
          intro l' x W K hK
          simp only [encI, List.setIfInBounds_toArray, List.set_cons_succ, List.set_cons_zero] at hK ⊢
          gi_wp2
          exact hK
        case stop => exact fun _ _ _ _ _ _ e => e.elim
        case body =>
          rintro l' pre x b W ⟨v, vh1, q1, p1, hL, hS⟩ hpre hB
          simp only [encI, List.setIfInBounds_toArray, List.set_cons_succ, List.set_cons_zero]
          obtain ⟨m, hm⟩ : ∃ m, pre.length = m := ⟨_, rfl⟩
          obtain ⟨Av, cv, rfl⟩ := hL.row.src.shape
          rw [hm] at hL
          obtain ⟨c9, f9⟩ := hL.box.one
          have hb5W := HEC.out.b5.kp hL.kp (fun e => by
            rcases e with e | e
            · omega
            · exact (HEC.out.ne3 _ e).2.1 rfl)
          obtain ⟨c50, _⟩ := hb5W.one
          obtain ⟨x0, x1, _, _⟩ := hB.two
          have hpl : m + 1 ≤ 200 := by have := hpre.length_le; simp at this; have := HWL.out; omega
          have HM := Lib.hid hm
          have HS' := Lib.hid hS
          have HL := Lib.hid hL
          clear hm hS hb5W
          by_cases hm0 : m = 0
          · have hd1 : ((m : Int) == 0) = true := beq_iff_eq.2 (by omega)
            have HM0 := Lib.hid hm0
            clear hm0 hL
            rcases HS'.out with ⟨hp0, hvh, hq1, hp1⟩ | ⟨hne, _⟩
            case inr => exact absurd (List.eq_nil_of_length_eq_zero (HM.out.trans HM0.out)) hne
            have HP0 := Lib.hid hp0
            have HQ1 := Lib.hid hq1
            have HP1 := Lib.hid hp1
            clear hp0 hvh hq1 hp1
            gi_wp2_with fail
            refine ⟨trivial, ?_⟩
            refine (CallsIn.inRound l' (callsIn_wide.2 (pushI_any 0 H 0 p1 vh1 (-4611686018427387904, 0) q1 W HL.out.hp (cntI_t _ _ _) (by rw [HQ1.out, HQL.out]; omega) (by rw [HP1.out]; omega)))).mono ?_
            rintro e W1 ⟨rfl, vh2, c2, hh2, hkk2, hv2, _, _⟩
            have hk2 : Kp (Ft H vh1) W W1 := hkk2.mono fun _ _ e => e.elim id fun e => e.elim
            obtain ⟨hL1, hR1⟩ := HL.out.push hh2 hk2 hv2
            have hB1 := hB.kp hk2 (fun e => by
              obtain ⟨lh, ha, _⟩ := HL.out.hp
              rcases e with e | e
              · exact hB.ne_ ha.blk (by decide) e
              · exact own_ne ha.own hB (by decide) e)
            obtain ⟨d9, g9⟩ := hL1.box.one
            obtain ⟨y0, y1, _, _⟩ := hB1.two
            have hsz := hL1.kp.size
            have HR1 := Lib.hid hR1
            clear hh2 hkk2 hv2 hk2 hR1 hB1 c9 f9 x0 x1 c50
            gi_wp2_with (gi_at_builtin; refine wpIn_pushG rfl (.tmp 75) (.tmp 77) 29 27 2 16 (.agg #[.int .i64 0, .int .i64 0]) rfl Try.underlying29 infoVI rfl (by omega) wc.heap.size m _ (flat cvI pre) [.int .i64 x.1, .int .i64 x.2] rfl (HM.out ▸ hL1.row) rfl ?_ rfl ?_ ?_ hsz ?_; (intro u hu; simp at hu; rcases hu with rfl | rfl <;> rfl); omega; omega; intro v' W5 own5 gr5; have hb5 := hL1.box.kp gr5.by_ hL1.cne.1; (obtain ⟨d7, g7⟩ := hb5.one); (obtain ⟨A', c', rfl⟩ := (own_src own5).shape))
            obtain ⟨hn5, hr5⟩ := hL1.next (by rw [HM.out]; exact own5) gr5
            exact ⟨HR1.out.trans hr5, _, vh2, _, _, hn5, .inr ⟨by simp, by rw [HQ1.out, HP1.out], by rw [HP1.out]⟩⟩
          · have hd1 : ((m : Int) == 0) = false := beq_eq_false_iff_ne.2 (by omega)
            have hsz := hL.kp.size
            gi_wp2_with (gi_at_builtin; refine wpIn_pushG rfl (.tmp 75) (.tmp 77) 29 27 2 16 (.agg #[.int .i64 0, .int .i64 0]) rfl Try.underlying29 infoVI rfl (by omega) wc.heap.size m _ (flat cvI pre) [.int .i64 x.1, .int .i64 x.2] rfl (HM.out ▸ hL.row) rfl ?_ rfl ?_ ?_ hsz ?_; (intro u hu; simp at hu; rcases hu with rfl | rfl <;> rfl); omega; omega; intro v' W5 own5 gr5; have hb5 := hL.box.kp gr5.by_ hL.cne.1; (obtain ⟨d7, g7⟩ := hb5.one); (obtain ⟨A', c', rfl⟩ := (own_src own5).shape))
            obtain ⟨hn5, hr5⟩ := hL.next (by rw [HM.out]; exact own5) gr5
            refine ⟨hr5, _, vh1, q1, p1, hn5, ?_⟩
            rcases HS'.out with ⟨rfl, _⟩ | ⟨_, h2⟩
            · exact absurd HM.out.symm hm0
            · exact .inr ⟨by simp, h2⟩
        case done =>
          intro D3 W3 hD3 ⟨v9, vh9, q9, p9, hL, hS⟩ hd3
          have hD1l := (Array.getElem?_eq_some_iff.1 hd1).1
          have hD2l := (Array.getElem?_eq_some_iff.1 hd2).1
          have hs1 := HKB.out.size
          have hs2 := HK12.out.size
          have hs3 := HKD.out.size
          have hs4 := HNB.out.size
          have hs5 := HK4C.out.size
          have hs6 := HB8.out.lt
          have hs9 := HB86.out.lt
          have hs7 := HC9.out
          have hs8 := HB82.out.lt
          have hft : ∀ k, Ft H vh k → k < C7 := fun k e => (HE.out.ft k e).2
          have hS3 : ∀ k, (k = C9 ∨ Ft H vh k) → k = C9 ∨ k < C7 := fun k e => e.imp id (hft k)
          have hdd1 : W3.heap[D1]? = some (.deferred (some [])) :=
            (hL.kp.block D1 (by omega) (fun e => by have := hS3 _ e; omega)).trans ((HK4C.out.block D1 (by omega) id).trans ((HNB.out.block D1 (by omega) id).trans ((HKD.out.block D1 (by omega) id).trans ((HK12.out.block D1 (by omega) (by omega)).trans ((HKB.out.block D1 (by omega) id).trans hd1)))))
          have hdd2 : W3.heap[D2]? = some (.deferred (some [])) :=
            (hL.kp.block D2 (by omega) (fun e => by have := hS3 _ e; omega)).trans ((HK4C.out.block D2 (by omega) id).trans ((HNB.out.block D2 (by omega) id).trans ((HKD.out.block D2 (by omega) id).trans hd2)))
          have hnd : [D3, D2, D1].Nodup := by simp; omega
          have hnw3 : Nw w W3 := HEC.out.nw.own hL.kp (fun k e => by
            have := HE.out.lw
            rcases e with e | e
            · omega
            · exact (HE.out.ft k e).1)
          have hlow : w.heap.size ≤ D1 ∧ w.heap.size ≤ D2 ∧ w.heap.size ≤ D3 := by have := HE.out.lw; omega
          have HDD1 := Lib.hid hdd1
          have HDD2 := Lib.hid hdd2
          have HDD3 := Lib.hid hd3
          clear hdd1 hdd2 hd3 hft hS3
          have HNW3 := Lib.hid hnw3
          obtain ⟨A9, cc9, rfl⟩ := hL.row.src.shape
          rw [HWL.out] at hL
          by_cases hn0 : n = 0
          · have hd5 : ((n : Int) == 0) = true := beq_iff_eq.2 (by omega)
            obtain ⟨c9, _⟩ := hL.box.one
            clear hnw3
            go_wp2_with fail
            refine leaves_marks (r := 4) rfl [D3, D2, D1] W3 hnd (fun D hD => ?_) (fun W' hk => ⟨rfl, HNW3.out.own hk (fun k e => ?_)⟩)
            · simp only [List.mem_cons, List.not_mem_nil, or_false] at hD
              rcases hD with rfl | rfl | rfl
              · exact HDD3.out
              · exact HDD2.out
              · exact HDD1.out
            · simp only [List.mem_cons, List.not_mem_nil, or_false] at e
              omega
          · have hd5 : ((n : Int) == 0) = false := beq_eq_false_iff_ne.2 (by omega)
            have hn1 : 0 < n := by omega
            clear hn0
            rcases hS with ⟨hp0, _⟩ | ⟨_, hq9, hp9⟩
            case inl => exact absurd (by rw [← HWL.out, hp0]; rfl : n = 0) (by omega)
            obtain ⟨y, hy⟩ : ∃ y, hdv q9 = y := ⟨_, rfl⟩
            have hql9 : q9.length = n + 1 := by rw [hq9, ins_length, HQL.out]
            have hne9 : nemp q9 = true := by
              cases q9 with
              | nil => simp at hql9
              | cons a b => rfl
            have htl9 : q9.tail.length = n := by rw [List.length_tail, hql9]; rfl
            have hins : insV rkI (-4611686018427387904, 0) want = y :: q9.tail.map (·.1) := by
              have e := ins_map rkI ((-4611686018427387904, 0), l.length) q
              rw [← hq9, HQM.out] at e
              rw [← e, ← hy]
              cases q9 with
              | nil => simp at hql9
              | cons a b => rfl
            have hb5W := HEC.out.b5.kp hL.kp (fun e => by
              rcases e with e | e
              · omega
              · exact (HEC.out.ne3 _ e).2.1 rfl)
            have hoW : SrcI W3 (.slice U6 n c6) want := Src.kp HEC.out.o hL.kp (fun g hg e e2 => by
              rcases e2 with e2 | e2
              · have := HEC.out.lo g e; omega
              · exact (HEC.out.ne3 _ e2).2.2 e)
            obtain ⟨c50, _⟩ := hb5W.one
            have HY := Lib.hid hy
            have HQL9 := Lib.hid hql9
            have HNE9 := Lib.hid hne9
            have HTL9 := Lib.hid htl9
            have HINS := Lib.hid hins
            have HL := Lib.hid hL
            have HOW := Lib.hid hoW
            have HB5 := Lib.hid hb5W
            clear hy hql9 hne9 htl9 hins hL hoW hb5W hq9 hp9 hnw3
            go_wp2_with fail
            refine (popI_any 0 H 0 p9 vh9 q9 W3 HL.out.hp (cntI_t _ _ _) (by rw [HQL9.out]; omega)).mono ?_
            rintro e W4 ⟨rfl, vp, cp, hh4, hkk4, hvp, _, _⟩
            rw [HY.out, HNE9.out]
            have hk4 : Kp (Ft H vh9) W3 W4 := hkk4.mono fun _ _ e => e.elim id fun e => e.elim
            have hft9 : ∀ k, Ft H vh9 k → k ≠ C5 ∧ (Value.slice U6 n c6).ownBlock ≠ some k ∧ w.heap.size ≤ k := fun k e => by
              have hsz := HE.out.lw
              rcases e with e | e
              · have := HE.out.ne3 k (.inl e)
                exact ⟨this.2.1, this.2.2, (HE.out.ft k (.inl e)).1⟩
              · rcases HL.out.hv k e with e2 | e2
                · have := HE.out.ne3 k (.inr e2)
                  exact ⟨this.2.1, this.2.2, (HE.out.ft k (.inr e2)).1⟩
                · have h5 := HE.out.l5
                  exact ⟨by omega, fun e3 => by have := HE.out.lo k e3; omega, by omega⟩
            have hbL := HL.out.box.kp hk4 HL.out.cne.2
            have hrL := HL.out.row.kp hk4 (fun g e e2 => HL.out.row.far HL.out.hp g e2 e)
            have hoL : SrcI W4 (.slice U6 n c6) want := Src.kp HOW.out hk4 (fun g _ e e2 => (hft9 g e2).2.1 e)
            have hb5L := HB5.out.kp hk4 (fun e => (hft9 C5 e).1 rfl)
            have hnw4 : Nw w W4 := HNW3.out.own hk4 (fun k e => (hft9 k e).2.2)
            have hbx := Blk.new W4 27 #[.int .i64 y.1, .int .i64 y.2]
            obtain ⟨C13, hC13⟩ : ∃ C13, W4.heap.size = C13 := ⟨_, rfl⟩
            obtain ⟨W5, hW5⟩ : ∃ W5, W4.alloc (.cells #[.int .i64 y.1, .int .i64 y.2] 27) = W5 := ⟨_, rfl⟩
            rw [hC13, hW5] at hbx
            have hk5 : Nw W4 W5 := hW5 ▸ (Kp.refl _ W4).alloc _
            have hkd : Nw W4 W5.drew := hk5.tr ((Kp.refl _ W5).drewN 1)
            have hh5 := hh4.nw hkd
            have hbd := hbx.drew
            obtain ⟨j9, _⟩ := (hbL.kp hk5 (fun e => e)).one
            obtain ⟨j5, _⟩ := (hb5L.kp hk5 (fun e => e)).one
            obtain ⟨jx, jy, _, _⟩ := hbx.two
            have hwl : want.length ≤ 1099511627775 := by have := HWL.out; omega
            have hil : (insV rkI (-4611686018427387904, 0) want).length = n + 1 := by rw [insV_length, HWL.out]
            have HIL := Lib.hid hil
            have HWLl := Lib.hid hwl
            have HRL := Lib.hid (hrL.nw hkd)
            have HOL := Lib.hid (hoL.nw hkd)
            have HHP := Lib.hid hh5
            have HKF := Lib.hid (hk4.trans hkd (fun _ _ e => e.elim))
            have HNW4 := Lib.hid (hnw4.tr hkd)
            have HFT9 := Lib.hid hft9
            have HZ5 := Lib.hid (show W5.drew.cell? (⟨C9, 0, none⟩ : Addr) = some (.slice A9 n cc9) ∧ W5.drew.cell? (⟨C5, 0, none⟩ : Addr) = some (.pointer (some ⟨H, 0, none⟩)) ∧ W5.drew.cell? (⟨C13, 0, none⟩ : Addr) = some (.int .i64 y.1) ∧ W5.drew.cell? (⟨C13, 1, none⟩ : Addr) = some (.int .i64 y.2) from ⟨j9, j5, jx, jy⟩)
            have HC13 := Lib.hid hC13
            have HW5 := Lib.hid hW5
            clear hk4 hkk4 hft9 hbL hrL hoL hb5L hnw4 hbx hk5 hkd hh5 hbd hwl hil hh4 hC13 hW5 c50
            go_wp2_with fail
            rw [HW5.out, HC13.out]
            obtain ⟨N1, hN1⟩ : ∃ N1, n + 1 = N1 := ⟨_, rfl⟩
            have hN1p : (0 : Int) < (N1 : Int) := by omega
            have hN1q : 0 < N1 := by omega
            have HN1 := Lib.hid hN1
            clear hN1
            obtain ⟨j9, j5, jx, jy⟩ := HZ5.out
            refine wp_region_noPanic ?_
            go_region_with
              (first
                | (go_at_call 19; ((with_reducible refine (same_true _ _ want _ HRL.out.src HOL.out HWLl.out).mono ?_); rintro e w7 ⟨rfl, hk7⟩; (have KA := keep4 HZ5.out hk7); (obtain ⟨l9, l5, lx, ly⟩ := KA); (have HOLA := Lib.hid (HOL.out.nw hk7)); (have HNA := Lib.hid hk7); clear hk7))
                | (go_at_call 17; ((with_reducible refine (refPush_any _ want (-4611686018427387904, 0) _ HOLA.out HWLl.out).mono ?_); rintro e w8 ⟨u8, rfl, ho8, hk8⟩; (obtain ⟨g8, gc8, rfl, hgc8, hgm8, _⟩ := own_form ho8 (by rw [HIL.out]; omega)); (obtain ⟨r80, r81⟩ := ho8.src.at_ rfl (i := 0) (x := y) (by rw [HINS.out]; rfl)); simp only [Nat.zero_mul, Nat.zero_add] at r80 r81; (have KB := keep4 ⟨l9, l5, lx, ly⟩ hk8); (obtain ⟨m9, m5, mx, my⟩ := KB); (have HNB2 := Lib.hid (HNA.out.tr hk8)); (have HHB := Lib.hid ((HHP.out.nw HNA.out).nw hk8)); rw [HIL.out, HN1.out]; clear ho8 hk8 hgc8 hgm8))
                | (go_at_call 18; ((with_reducible refine (lenI_any 0 H _ _ _ _ HHB.out).mono ?_); rintro e w9 ⟨rfl, rfl⟩; rw [HTL9.out])))
            all_goals
              refine NoPanic.normal ?_
              have HL' := HL.out
              have hkf := HKF.out.trans HNB2.out (fun _ _ e => e.elim)
              have hnf := HNW4.out.tr HNB2.out
              have hmk : ∀ D ∈ [D3, D2, D1], _ := fun D hD => show w8.heap[D]? = some (.deferred (some [])) by
                have hS4 : ∀ k, Ft H vh9 k → k = C9 ∨ Ft H vh9 k ∨ W3.heap.size ≤ k := fun k e => .inr (.inl e)
                simp only [List.mem_cons, List.not_mem_nil, or_false] at hD
                rcases hD with rfl | rfl | rfl
                · exact HL'.marks hkf hS4 HDD3.out
                · exact HL'.marks hkf hS4 HDD2.out
                · exact HL'.marks hkf hS4 HDD1.out
              have HMK := Lib.hid hmk
              clear hmk HL' hkf
              go_wp2_with fail
              refine leaves_marks (r := 4) rfl [D3, D2, D1] w8 hnd HMK.out (fun W' hk => ⟨rfl, hnf.own hk (fun k e => ?_)⟩)
              simp only [List.mem_cons, List.not_mem_nil, or_false] at e
              omega
end Go.Proofs.Ytogfcenebbipeaa.W
