/-
  Heap[Item]: Sorted, which collects what its iterator hands over. Conditions: the list is read, of fewer than 2^40 elements.
-/
import Derived.Test.YtogfcenebbipeaaHColl
namespace Go.Proofs.Ytogfcenebbipeaa.W
open Go.RowKit Go.Shelf Go.Proofs.Ytogfcenebbipeaa.Pl

attribute [local go_sem] Oper.semAt_some

/-- a row of the call's own lies in no block of a mark -/
theorem own_no_mark {w : World} {B n size g : Nat} {e : TypeId} {v : Value} {vs : List Value} {d : Option (List Deferred)} (h : w.ownsRow B e size v n vs) (hv : v.ownBlock = some g) (hd : w.heap[g]? = some (.deferred d)) : False := by
  rcases h.2 with ⟨rfl, _⟩ | ⟨g', cap, cur, rfl, _, hc, _⟩
  · cases hv
  · obtain rfl : g' = g := by simpa [Value.ownBlock] using hv
    rw [hc] at hd
    cases hd

set_option maxRecDepth 100000 in
set_option maxHeartbeats 3200000 in
theorem sortedI_any (v : Value) (l : List (Int × Int)) (w : World) (hs : SrcI w v l) (hlen : l.length ≤ 1099511627775) :
    Calls Try.prog 23 #[(.func (.func 12) #[] #[]), v] w fun e w' => ∃ u, e = .returned u ∧ OwnVI w' w.heap.size u (sortV rkI l []) ∧ Nw w w' := by
  obtain ⟨q, hq⟩ : ∃ q, allQ rkI l 0 [] = q := ⟨_, rfl⟩
  obtain ⟨want, hwant⟩ : ∃ want, sortV rkI l [] = want := ⟨_, rfl⟩
  have HQL := Lib.hid (show q.length = l.length by rw [← hq, allQ_length]; simp)
  have HQM := Lib.hid (show q.map (·.1) = want by rw [← hq, ← hwant, allQ_map]; rfl)
  have HWL := Lib.hid (show want.length = l.length by rw [← hwant, sortV_length]; simp)
  have HLE := Lib.hid hlen
  rw [hwant]
  refine enter_marks Try.func23 rfl ?_
  simp only [Try.ntmps23, List.size_toArray, List.length_cons, List.length_nil, Nat.reduceAdd, Nat.reduceSub, Array.replicate_succ, Array.replicate_zero, List.push_toArray, List.append_toArray, List.nil_append, List.cons_append]
  have hb5 := Blk.new w 29 #[.slice none 0 0]
  have hk0 : Nw w (w.alloc (.cells #[.slice none 0 0] 29)) := (Kp.refl _ w).alloc _
  obtain ⟨C5, hC5⟩ : ∃ C5, w.heap.size = C5 := ⟨_, rfl⟩
  obtain ⟨w1, hw1⟩ : ∃ w1, w.alloc (.cells #[.slice none 0 0] 29) = w1 := ⟨_, rfl⟩
  have HC5 := Lib.hid hC5
  have HW1 := Lib.hid hw1
  rw [hw1] at hb5 hk0
  rw [hC5] at hb5
  have cfr := fromI_any v l w1 (hs.nw hk0) (by omega)
  rw [hq] at cfr
  clear hC5 hw1 hq hwant hs hlen
  go_wp2_with fail
  rw [HW1.out, HC5.out]
  refine cfr.mono ?_
  rintro e w2 ⟨rfl, vh, hh2, hf2, hk2⟩
  obtain ⟨H, hH⟩ : ∃ H, w1.heap.size = H := ⟨_, rfl⟩
  rw [hH] at hh2 ⊢
  have hb52 := hb5.kp hk2 (fun e => e)
  go_wp2_with fail
  have hbb := Blk.new w2 24 #[.pointer (some ⟨H, 0, none⟩)]
  obtain ⟨B1, hB1⟩ : ∃ B1, w2.heap.size = B1 := ⟨_, rfl⟩
  rw [hB1] at hbb
  refine (allI_any (some ⟨H, 0, none⟩) w2).mono ?_
  rintro e w6 ⟨rfl, rfl⟩
  rw [hB1]
  go_wp2_with fail
  obtain ⟨w6, hw6⟩ : ∃ w6, w2.alloc (.cells #[.pointer (some ⟨H, 0, none⟩)] 24) = w6 := ⟨_, rfl⟩
  rw [hw6] at hbb ⊢
  have hk6 : Nw w2 w6 := hw6 ▸ (Kp.refl _ w2).alloc _
  have hh6 := hh2.nw hk6
  have hb56 := hb52.kp hk6 (fun e => e)
  have hnw6 : Nw w w6 := (hk0.tr hk2).tr hk6
  have hC5l := hb56.lt
  have hit : SeqIt 34 #[.pointer (some ⟨B1, 0, none⟩)] encI want w6 := HQM.out ▸ iterI_any B1 H l.length vh q w6 hbb hh6 (by rw [HQL.out]; exact HLE.out)
  have HIT := Lib.hid hit
  have HB5 := Lib.hid hb56
  have HN6 := Lib.hid hnw6
  have HK6 := Lib.hid (show Nw w1 w6 from hk2.tr hk6)
  clear hit hb56 hb52 hb5 hh6 hh2 hk6 hk2 hk0 hnw6 hbb hf2 hB1 hH hw6
  refine range_box 6 27 (fun x : Int × Int => #[.int .i64 x.1, .int .i64 x.2]) (by rfl) (enters_of Try.func34 (by kernel_rfl) rfl) HIT.out (OwnC C5) (CollI w6 C5) (fun _ _ _ => False)
    (coll_own w6 C5) (fun c => ⟨fun _ _ _ _ e => e.elim, fun _ _ _ _ e => e.elim, fun _ _ _ e => e.elim⟩) ⟨_, HB5.out, OwnVI.nil _ _, Kp.refl _ _⟩ ?assign ?body ?done ?stop
  case assign =>
    intro l' x W K hK
    simp only [encI, List.setIfInBounds_toArray, List.set_cons_succ, List.set_cons_zero] at hK ⊢
    gi_wp2
    exact hK
  case stop => exact fun _ _ _ _ _ _ e => e.elim
  case body =>
    rintro l' pre x b W ⟨v, hc⟩ hpre hB
    simp only [encI, List.setIfInBounds_toArray, List.set_cons_succ, List.set_cons_zero]
    obtain ⟨Av, cv, rfl⟩ := hc.row.src.shape
    obtain ⟨c7, f7⟩ := hc.box.one
    obtain ⟨x0, x1, _, _⟩ := hB.two
    have hpl : pre.length + 1 ≤ 1099511627775 := by have := hpre.length_le; simp at this; have := HWL.out; have := HLE.out; omega
    have hsz := hc.kp.size
    have hvC : (Value.slice Av pre.length cv).ownBlock ≠ some C5 := fun e => absurd (own_from hc.row C5 e) (by omega)
    gi_wp2_with (gi_at_builtin; refine wpIn_pushG rfl (.tmp 12) (.tmp 14) 29 27 2 16 (.agg #[.int .i64 0, .int .i64 0]) rfl Try.underlying29 infoVI rfl (by omega) w6.heap.size pre.length _ (flat cvI pre) [.int .i64 x.1, .int .i64 x.2] rfl hc.row rfl ?_ rfl ?_ ?_ hsz ?_; (intro u hu; simp at hu; rcases hu with rfl | rfl <;> rfl); omega; omega; intro v' W5 own5 gr5; have hb5 := hc.box.kp gr5.by_ hvC; (obtain ⟨d7, g7⟩ := hb5.one); (obtain ⟨A', c', rfl⟩ := (own_src own5).shape))
    exact ⟨(hc.next hC5l own5 gr5).2, _, (hc.next hC5l own5 gr5).1⟩
  case done =>
    intro D1 W1 hD1 ⟨v7, hc7⟩ hd1
    obtain ⟨c50, c51⟩ := hc7.box.one
    have hnw : Nw w W1 := HN6.out.own (hc7.kp) (fun k e => by have := HC5.out; omega)
    have hrow : OwnVI W1 w.heap.size v7 want := own_less hc7.row HN6.out.size
    have HR := Lib.hid hrow
    have HNW := Lib.hid hnw
    have hD1' : w.heap.size ≤ D1 := Nat.le_trans HN6.out.size hD1
    clear hc7 hnw hrow
    go_wp2_with fail
    refine leaves_marks (r := 4) rfl [D1] W1 (by simp) (by simpa using hd1) (fun W' hk => (⟨v7, rfl, HR.out.kp hk (fun g e e2 => ?_), HNW.out.own hk (fun k e => ?_)⟩ : ∃ u, Ending.returned v7 = Ending.returned u ∧ OwnVI W' w.heap.size u want ∧ Nw w W'))
    · obtain rfl : g = D1 := by simpa using e2
      exact own_no_mark HR.out e hd1
    · obtain rfl : k = D1 := by simpa using e
      exact hD1'
end Go.Proofs.Ytogfcenebbipeaa.W
