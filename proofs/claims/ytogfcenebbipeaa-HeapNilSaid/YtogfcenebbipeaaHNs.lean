/-
  Heap[int]: Sorted, which collects what its iterator hands over. Conditions: the list is read, of fewer than 2^40 elements.
-/
import Derived.Test.YtogfcenebbipeaaHIs
import Derived.Test.YtogfcenebbipeaaHNi
import Derived.Test.YtogfcenebbipeaaHNh
namespace Go.Proofs.Ytogfcenebbipeaa.W
open Go.RowKit Go.Shelf Go.Proofs.Ytogfcenebbipeaa.Pl

attribute [local go_sem] Oper.semAt_some

/-- the law where the loop's variable stands in a slot -/
theorem range_slot {α : Type} {g : Operand} {p : Tmp} {assign body : Code} {Q : Exit → Act → World → Prop} {a : Act} {w : World} {gf : Nat} {lb : Array Value} {enc : α → Value} {xs : List α}
    (q : Tmp)
    (hg : a.eval g = .func (.func gf) #[] lb) (eg : ∀ args w, (callFunc gf args).run Try.prog w = .ok (.enter gf args) w)
    (hit : SeqIt gf lb enc xs w)
    (O : World → Nat → Prop) (I : List α → World → Prop) (Ix : Code → List α → World → Prop) (hI : OwnJ w.heap.size O I) (hIx : ∀ c, OwnJ w.heap.size O (Ix c)) (h0 : I [] w)
    (hassign : ∀ (l : Nat) (x : α) (W : World) (K : Act → World → Prop), K { tmps := (a.tmps.setIfInBounds p (enc x)).setIfInBounds q (enc x), defers := [] } W →
      assign.wpIn (Fence.wide.inRound l) 1 Try.prog (Exit.then K (fun _ _ _ => False)) { tmps := a.tmps.setIfInBounds p (enc x), defers := [] } W)
    (hbody : ∀ (l : Nat) (pre : List α) (x : α) (W : World), I pre W → pre ++ [x] <+: xs →
      body.wpIn (Fence.wide.inRound l) 1 Try.prog (rdPost O I Ix (pre ++ [x]) W) { tmps := (a.tmps.setIfInBounds p (enc x)).setIfInBounds q (enc x), defers := [] } W)
    (hdone : ∀ (D : Nat) (W : World), w.heap.size ≤ D → I xs W → W.heap[D]? = some (.deferred (some [])) → Q .normal { a with defers := mark D :: a.defers } W)
    (hstop : ∀ (D : Nat) (c : Code) (pre : List α) (W : World), w.heap.size ≤ D → pre <+: xs → Ix c pre W → W.heap[D]? = some (.deferred (some [])) → c.wp Try.prog Q { a with defers := mark D :: a.defers } W) :
    (Code.rangeFunc g #[p] assign body).wp Try.prog Q a w :=
  range_wp hg eg hit O I Ix hI hIx h0 (fun x a' _ => a' = { tmps := (a.tmps.setIfInBounds p (enc x)).setIfInBounds q (enc x), defers := [] })
    (fun _ _ _ _ _ _ h _ _ => h)
    (fun l x W K hK => hassign l x W K (hK _ _ (Kp.refl _ W) rfl))
    (fun l pre x _ W hi hpre hb => hb ▸ hbody l pre x W hi hpre) hdone hstop

/-- what the loop owns: the box of its list, and the list's row -/
def OwnCN (C : Nat) (W : World) (k : Nat) : Prop := k = C ∨ ∃ v, Blk W C 62 #[v] ∧ v.ownBlock = some k
/-- the list in the box holds pre; the rest is as at the loop's start -/
structure CollN (w : World) (C : Nat) (v : Value) (pre : List (Int × Int)) (W : World) : Prop where
  box : Blk W C 62 #[v]
  row : OwnVN W w.heap.size v pre
  kp : Kp (fun k => k = C) w W
def CollNI (w : World) (C : Nat) (pre : List (Int × Int)) (W : World) : Prop := ∃ v, CollN w C v pre W

theorem OwnCN.of {C k : Nat} {W : World} {v : Value} (hb : Blk W C 62 #[v]) (h : OwnCN C W k) : k = C ∨ v.ownBlock = some k := h.imp id fun ⟨_, hb', e⟩ => hb.same hb' ▸ e
theorem ownCN_keep {C : Nat} {S : Nat → Prop} {W W' : World} {v : Value} (hb : Blk W C 62 #[v]) (hk : Kp S W W') (hC : ¬ S C) : ∀ k, OwnCN C W' k → OwnCN C W k := fun _ e =>
  (e.of (hb.kp hk hC)).imp id fun e => ⟨v, hb, e⟩
theorem CollN.lt {w W : World} {C k : Nat} {v : Value} {pre : List (Int × Int)} (h : CollN w C v pre W) (e : OwnCN C W k) : k < W.heap.size := by
  rcases e.of h.box with rfl | e
  · exact h.box.lt
  · exact own_lt h.row k e
theorem CollN.abide {S : Nat → Prop} {w W W' : World} {C : Nat} {v : Value} {pre : List (Int × Int)} (h : CollN w C v pre W) (hk : Kp S W W') (hS : ∀ k, S k → w.heap.size ≤ k ∧ ¬ OwnCN C W k) : CollN w C v pre W' :=
  ⟨h.box.kp hk (fun e => (hS C e).2 (.inl rfl)), h.row.kp hk (fun g e e2 => (hS g e2).2 (.inr ⟨v, h.box, e⟩)), h.kp.trans hk fun i hi e => absurd (hS i e).1 (by omega)⟩

theorem collN_own (w : World) (C : Nat) : OwnJ w.heap.size (OwnCN C) (CollNI w C) :=
  ⟨fun _ _ _ _ ⟨v, h⟩ hk hS => ⟨v, h.abide hk hS⟩, fun _ _ _ _ ⟨_, h⟩ hk hS => ownCN_keep h.box hk (fun e => (hS C e).2 (.inl rfl)), fun _ _ _ ⟨_, h⟩ e => h.lt e⟩

/-- a round: an element is appended, the list is stored -/
theorem CollN.next {w W W5 : World} {C : Nat} {v v' : Value} {pre : List (Int × Int)} {x : Int × Int} (h : CollN w C v pre W) (hC : C < w.heap.size)
    (own : W5.ownsRow w.heap.size 3 1 v' (pre.length + 1) (flat cvN pre ++ [.int .i64 x.1])) (gr : Grew W W5 v v') :
    CollN w C v' (pre ++ [x]) (W5.setCell ⟨C, 0, none⟩ v') ∧ Rd (OwnCN C) W (W5.setCell ⟨C, 0, none⟩ v') := by
  have hvC : v.ownBlock ≠ some C := fun e => absurd (own_from h.row C e) (by omega)
  have hv'C : v'.ownBlock ≠ some C := fun e => absurd (own_from own C e) (by omega)
  have hb5 := h.box.kp gr.by_ hvC
  have hb6 : Blk (W5.setCell ⟨C, 0, none⟩ v') C 62 #[v'] := hb5.set_ 0 v'
  have hkC := kp_set W5 C 0 v'
  have hr5 : OwnVN W5 w.heap.size v' (pre ++ [x]) := by
    unfold OwnVN
    rw [flat_snoc, List.length_append]
    exact own
  refine ⟨⟨hb6, hr5.kp hkC (fun g e e2 => hv'C (e2 ▸ e)), ?_⟩, ?_, ?_⟩
  · exact (h.kp.trans gr.by_ (fun i hi e => absurd (own_from h.row i e) (by omega))).trans hkC (fun _ _ e => e)
  · exact (gr.by_.mono (T := OwnCN C W) fun i _ e => .inr ⟨v, h.box, e⟩).trans hkC (fun i _ e => .inl e)
  · intro k e
    rcases e.of hb6 with e | e
    · exact .inl (.inl e)
    · rcases gr.at_ with e2 | ⟨k2, e2, hk2⟩
      · exact .inl (.inr ⟨v, h.box, e2 ▸ e⟩)
      · rw [e2] at e
        injection e with e
        exact .inr (e ▸ hk2)

set_option maxRecDepth 100000 in
set_option maxHeartbeats 3200000 in
theorem sortedN_any (v : Value) (l : List (Int × Int)) (w : World) (hs : SrcN w v l) (hlen : l.length ≤ 1099511627775) :
    Calls Try.prog 30 #[(.func (.func 31) #[] #[]), v] w fun e w' => ∃ u, e = .returned u ∧ OwnVN w' w.heap.size u (sortV rkN l []) ∧ Nw w w' := by
  obtain ⟨q, hq⟩ : ∃ q, allQ rkN l 0 [] = q := ⟨_, rfl⟩
  obtain ⟨want, hwant⟩ : ∃ want, sortV rkN l [] = want := ⟨_, rfl⟩
  have HQL := Lib.hid (show q.length = l.length by rw [← hq, allQ_length]; simp)
  have HQM := Lib.hid (show q.map (·.1) = want by rw [← hq, ← hwant, allQ_map]; rfl)
  have HWL := Lib.hid (show want.length = l.length by rw [← hwant, sortV_length]; simp)
  have HLE := Lib.hid hlen
  rw [hwant]
  refine enter_marks Try.func30 rfl ?_
  simp only [Try.ntmps30, List.size_toArray, List.length_cons, List.length_nil, Nat.reduceAdd, Nat.reduceSub, Array.replicate_succ, Array.replicate_zero, List.push_toArray, List.append_toArray, List.nil_append, List.cons_append]
  have hb5 := Blk.new w 62 #[.slice none 0 0]
  have hk0 : Nw w (w.alloc (.cells #[.slice none 0 0] 62)) := (Kp.refl _ w).alloc _
  obtain ⟨C5, hC5⟩ : ∃ C5, w.heap.size = C5 := ⟨_, rfl⟩
  obtain ⟨w1, hw1⟩ : ∃ w1, w.alloc (.cells #[.slice none 0 0] 62) = w1 := ⟨_, rfl⟩
  have HC5 := Lib.hid hC5
  have HW1 := Lib.hid hw1
  rw [hw1] at hb5 hk0
  rw [hC5] at hb5
  have cfr := fromN_any v l w1 (hs.nw hk0) (by omega)
  rw [hq] at cfr
  clear hC5 hw1 hq hwant hs hlen
  go_wp2_with fail
  rw [HW1.out, HC5.out]
  refine cfr.mono ?_
  rintro e w2 ⟨rfl, vh, hh2, hf2, hk2⟩
  obtain ⟨H, hH⟩ : ∃ H, w1.heap.size = H := ⟨_, rfl⟩
  rw [hH] at hh2 ⊢
  have hb52 := hb5.kp hk2 (fun e => e)
  go_wp2_with fail
  have hbb := Blk.new w2 79 #[.pointer (some ⟨H, 0, none⟩)]
  obtain ⟨B1, hB1⟩ : ∃ B1, w2.heap.size = B1 := ⟨_, rfl⟩
  rw [hB1] at hbb
  refine (allN_any (some ⟨H, 0, none⟩) w2).mono ?_
  rintro e w6 ⟨rfl, rfl⟩
  rw [hB1]
  go_wp2_with fail
  obtain ⟨w6, hw6⟩ : ∃ w6, w2.alloc (.cells #[.pointer (some ⟨H, 0, none⟩)] 79) = w6 := ⟨_, rfl⟩
  rw [hw6] at hbb ⊢
  have hk6 : Nw w2 w6 := hw6 ▸ (Kp.refl _ w2).alloc _
  have hh6 := hh2.nw hk6
  have hb56 := hb52.kp hk6 (fun e => e)
  have hnw6 : Nw w w6 := (hk0.tr hk2).tr hk6
  have hC5l := hb56.lt
  have hit : SeqIt 44 #[.pointer (some ⟨B1, 0, none⟩)] encN want w6 := HQM.out ▸ iterN_any B1 H l.length vh q w6 hbb hh6 (by rw [HQL.out]; exact HLE.out)
  have HIT := Lib.hid hit
  have HB5 := Lib.hid hb56
  have HN6 := Lib.hid hnw6
  have HK6 := Lib.hid (show Nw w1 w6 from hk2.tr hk6)
  clear hit hb56 hb52 hb5 hh6 hh2 hk6 hk2 hk0 hnw6 hbb hf2 hB1 hH hw6
  refine range_slot 6 (by rfl) (enters_of Try.func44 (by kernel_rfl) rfl) HIT.out (OwnCN C5) (CollNI w6 C5) (fun _ _ _ => False)
    (collN_own w6 C5) (fun c => ⟨fun _ _ _ _ e => e.elim, fun _ _ _ _ e => e.elim, fun _ _ _ e => e.elim⟩) ⟨_, HB5.out, OwnVN.nil _ _, Kp.refl _ _⟩ ?assign ?body ?done ?stop
  case assign =>
    intro l' x W K hK
    simp only [encN, List.setIfInBounds_toArray, List.set_cons_succ, List.set_cons_zero] at hK ⊢
    gi_wp2
    exact hK
  case stop => exact fun _ _ _ _ _ _ e => e.elim
  case body =>
    rintro l' pre x W ⟨v, hc⟩ hpre
    simp only [encN, List.setIfInBounds_toArray, List.set_cons_succ, List.set_cons_zero]
    obtain ⟨Av, cv, rfl⟩ := hc.row.src.shape
    obtain ⟨c7, f7⟩ := hc.box.one
    have hpl : pre.length + 1 ≤ 1099511627775 := by have := hpre.length_le; simp at this; have := HWL.out; have := HLE.out; omega
    have hsz := hc.kp.size
    have hvC : (Value.slice Av pre.length cv).ownBlock ≠ some C5 := fun e => absurd (own_from hc.row C5 e) (by omega)
    gi_wp2_with (gi_at_builtin; refine wpIn_pushG rfl (.tmp 12) (.tmp 14) 62 3 1 8 (.int .i64 0) rfl Try.underlying62 infoVN rfl (by omega) w6.heap.size pre.length _ (flat cvN pre) [.int .i64 x.1] rfl hc.row rfl ?_ rfl ?_ ?_ hsz ?_; (intro u hu; simp at hu; subst hu; rfl); omega; omega; intro v' W5 own5 gr5; have hb5 := hc.box.kp gr5.by_ hvC; (obtain ⟨d7, g7⟩ := hb5.one); (obtain ⟨A', c', rfl⟩ := (own_src own5).shape))
    exact ⟨(hc.next hC5l own5 gr5).2, _, (hc.next hC5l own5 gr5).1⟩
  case done =>
    intro D1 W1 hD1 ⟨v7, hc7⟩ hd1
    obtain ⟨c50, c51⟩ := hc7.box.one
    have hnw : Nw w W1 := HN6.out.own (hc7.kp) (fun k e => by have := HC5.out; omega)
    have hrow : OwnVN W1 w.heap.size v7 want := own_less hc7.row HN6.out.size
    have HR := Lib.hid hrow
    have HNW := Lib.hid hnw
    have hD1' : w.heap.size ≤ D1 := Nat.le_trans HN6.out.size hD1
    clear hc7 hnw hrow
    go_wp2_with fail
    refine leaves_marks (r := 4) rfl [D1] W1 (by simp) (by simpa using hd1) (fun W' hk => (⟨v7, rfl, HR.out.kp hk (fun g e e2 => ?_), HNW.out.own hk (fun k e => ?_)⟩ : ∃ u, Ending.returned v7 = Ending.returned u ∧ OwnVN W' w.heap.size u want ∧ Nw w W'))
    · obtain rfl : g = D1 := by simpa using e2
      exact own_no_mark HR.out e hd1
    · obtain rfl : k = D1 := by simpa using e
      exact hD1'
end Go.Proofs.Ytogfcenebbipeaa.W
