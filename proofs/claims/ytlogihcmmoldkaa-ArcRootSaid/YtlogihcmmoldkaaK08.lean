/-
  vec: Compact where no two neighbours are equal; Sorted there: what they return. Condition: the list is not longer than a slice may be.
  vec: Clone; Sorted of a list whose sorted form has no two equal neighbours: what they return. Condition: the list is not longer than a slice may be.
  awake: the examples of the document hold. No condition.
  small: whether all coordinates are within 2^28: the call returns true. No condition.
  arc: the closure that adds the points between two points to the chain. Conditions: as in a valid arc; the chain lies in a row of its own.
-/
import Derived.Test.YtlogihcmmoldkaaK07
import Derived.Laws.StructEq
import Derived.Test.YtlogihcmmoldkaaK02
namespace Go.Proofs.Ytlogihcmmoldkaa.W
open Go.RowKit Go.Proofs.Ytlogihcmmoldkaa.V

/-- no two neighbours are equal -/
def Apart (l : List (Int × Int)) : Prop := ∀ i p q, l[i]? = some p → l[i + 1]? = some q → p ≠ q

end Go.Proofs.Ytlogihcmmoldkaa.W

namespace Go.Proofs.Ytlogihcmmoldkaa.W
open Go.RowKit Go.Proofs.Ytlogihcmmoldkaa.V

theorem vec_info : ∃ i0, Try.prog.info? 23 = some i0 ∧ i0.zero = some (vV 0 0) ∧ i0.size = 2 ∧ i0.bytes = 16 :=
  ⟨(Try.prog.info? 23).get (by kernel_rfl), by kernel_rfl, by kernel_rfl, by kernel_rfl, by kernel_rfl⟩

/-- the value is nil, or it lies in a block's own cells -/
def Flat (v : Value) : Prop := v = .slice none 0 0 ∨ ∃ g o n c, v = .slice (some ⟨g, o, none⟩) n c
theorem SrcV.flat {w : World} {v : Value} {l : List (Int × Int)} (h : SrcV w v l) (hne : l ≠ []) : Flat v := by
  obtain ⟨_, A, c, rfl, _, _, hc⟩ := h
  obtain ⟨g, o, rfl, _⟩ := hc (List.length_pos_iff.2 hne)
  exact .inr ⟨g, o, _, _, rfl⟩
theorem flatV_one (l : List (Int × Int)) : ∀ u ∈ l.flatMap vC, u.oneCell' = true := by
  intro u hu
  obtain ⟨p, _, hp⟩ := List.mem_flatMap.1 hu
  simp [vC] at hp
  rcases hp with rfl | rfl <;> rfl

set_option maxRecDepth 100000 in
set_option maxHeartbeats 1600000 in
theorem clone_any (l : List (Int × Int)) (g o c : Nat) (w : World) (hv : SrcV w (.slice (some ⟨g, o, none⟩) l.length c) l) (hl : l.length ≤ 1099511627776) :
    Calls Try.prog 44 #[.slice (some ⟨g, o, none⟩) l.length c] w fun e w' => ∃ k cap, w.heap.size ≤ k ∧ l.length ≤ cap ∧ cap ≤ maxLen ∧ k < w'.heap.size ∧ e = .returned (.slice (some ⟨k, 0, none⟩) l.length cap) ∧ Sort.HoldsK vC 2 w' k 0 l.toArray ∧ Nw w w' := by
  obtain ⟨i0, hi, hz, hs, hb⟩ := vec_info
  obtain ⟨hlen, A, c', hAA, hnc, hcm, hcell⟩ := hv
  obtain ⟨rfl, rfl⟩ : A = some ⟨g, o, none⟩ ∧ c' = c := by
    injection hAA with h1 h2 h3
    exact ⟨h1.symm, h3.symm⟩
  have hcon := AnyE.slices_Clone Try.cloneVec i0 (vV 0 0) 2 16 hi hz hs hb rfl (by decide) Try.sizeOf23 g o l.length c' (l.flatMap vC) w hlen (by unfold maxLen at *; omega) (by omega)
    (fun j u hu => by
      have hp : 0 < l.length := by
        have := List.getElem?_eq_some_iff.1 hu
        obtain ⟨h, _⟩ := this
        rw [hlen] at h
        omega
      obtain ⟨g', o', he, _, hc⟩ := hcell hp
      injection he with he
      injection he with h1 h2
      subst h1 h2
      exact hc j u hu) (flatV_one l)
  refine Calls.mono hcon ?_
  rintro e w' ⟨v', rfl, ho, hne, hbel⟩
  rcases ho.2 with ⟨rfl, _⟩ | ⟨k, cap, cur, rfl, hk, hgk, hcap, hmx, hs', ht⟩
  · exact absurd rfl hne
  · refine ⟨k, cap, hk, hcap, hmx, (Array.getElem?_eq_some_iff.1 hgk).1, rfl, ?_, Kp.of_below hbel⟩
    intro j hj
    have hfz : w'.frozen? ⟨k, 0 + j, none⟩ = false := by simp [World.frozen?, hgk]
    refine ⟨?_, hfz⟩
    rw [Sort.size_flatK] at hj
    have hj' : j < l.length * 2 := by simpa using hj
    rw [Sort.get_flatK _ _ _ _ hj]
    have hq : j / 2 < l.length := by omega
    have hx : l[j / 2]? = some (l[j / 2]'hq) := List.getElem?_eq_getElem hq
    obtain ⟨f1, f2⟩ := flatV_at l (j / 2) _ hx
    have hcells : ∀ u, (l.flatMap vC)[j]? = some u → w'.cell? ⟨k, 0 + j, none⟩ = some u := fun u hu => by
      have h := World.ownsRow.cells ho (g := k) rfl j u hu
      have hadd : (⟨k, 0, none⟩ : Addr).add j = ⟨k, 0 + j, none⟩ := by
        unfold Addr.add
        split <;> simp_all
      rw [hadd] at h
      exact h
    have hd : (l.toArray)[j / 2]! = l[j / 2]'hq := by simp [hq]
    rw [hd]
    rcases Nat.mod_two_eq_zero_or_one j with h | h
    · rw [h]
      exact hcells _ (by rw [show j / 2 * 2 = j by omega] at f1; exact f1)
    · rw [h]
      exact hcells _ (by rw [show j / 2 * 2 + 1 = j by omega] at f2; exact f2)

theorem src_holds {w : World} {g cap : Nat} {l : List (Int × Int)} {n : Nat} (h : Sort.HoldsK vC 2 w g 0 l.toArray) (hg : g < w.heap.size) (hn : l.length = n) (hc : n ≤ cap) (hm : cap ≤ maxLen) : SrcV w (.slice (some ⟨g, 0, none⟩) n cap) l := by
  subst hn
  refine ⟨flatV_len l, _, _, rfl, hc, hm, fun _ => ⟨g, 0, rfl, hg, fun j u hu => ?_⟩⟩
  have hj : j < l.length * 2 := by
    obtain ⟨h, _⟩ := List.getElem?_eq_some_iff.1 hu
    rwa [flatV_len] at h
  have hq : j / 2 < l.length := by omega
  have hx : l[j / 2]? = some (l[j / 2]'hq) := List.getElem?_eq_getElem hq
  obtain ⟨f1, f2⟩ := flatV_at l (j / 2) _ hx
  have h1 := h j (by rw [Sort.size_flatK]; simpa using hj)
  rw [Sort.get_flatK _ _ _ _ (by simpa using hj), show (l.toArray)[j / 2]! = l[j / 2]'hq by simp [hq]] at h1
  refine h1.1.trans ?_
  rcases Nat.mod_two_eq_zero_or_one j with h | h
  · rw [h]
    rw [show j / 2 * 2 = j by omega, hu] at f1
    exact f1.symm
  · rw [h]
    rw [show j / 2 * 2 + 1 = j by omega, hu] at f2
    exact f2.symm

end Go.Proofs.Ytlogihcmmoldkaa.W

namespace Go.Proofs.Ytlogihcmmoldkaa.W
open Go.RowKit Go.Proofs.Ytlogihcmmoldkaa.V

theorem aw_sort : sortV [(3, 0), (0, 1), (2, 0)] = [(2, 0), (3, 0), (0, 1)] := by
  simp [sortV, List.mergeSort, List.MergeSort.Internal.splitInTwo, lt_cf, lessV]
theorem aw_apart : Apart [(2, 0), (3, 0), (0, 1)] := by
  intro i p q hp hq
  match i with
  | 0 => simp at hp hq; subst hp hq; simp
  | 1 => simp at hp hq; subst hp hq; simp
  | i + 2 => simp at hq
theorem aw_turn : turnV 0 0 4 0 1 2 = 1 := by decide +kernel
theorem aw_within : withinV 2 0 2 = true := by decide +kernel
theorem aw_norm : normV 3 0 = 3 := by decide +kernel
theorem src_blk {w : World} {g : Nat} {l : List (Int × Int)} (h : Blk w g 23 (l.flatMap vC).toArray) (hl : l.length ≤ 1099511627776) : SrcV w (.slice (some ⟨g, 0, none⟩) l.length l.length) l := by
  refine ⟨flatV_len l, _, _, rfl, Nat.le_refl _, by unfold maxLen; omega, fun _ => ⟨g, 0, rfl, h.lt, fun j u hu => ?_⟩⟩
  rw [Nat.zero_add, h.cell j, List.getElem?_toArray]
  exact hu

end Go.Proofs.Ytlogihcmmoldkaa.W

namespace Go.Proofs.Ytlogihcmmoldkaa.W
open Go.RowKit Go.Proofs.Ytlogihcmmoldkaa.V

theorem eql_vec (x1 x2 y1 y2 : Int) (w : World) : (binOp .eql 23 (.agg #[.int .i64 x1, .int .i64 x2]) (.agg #[.int .i64 y1, .int .i64 y2])).run Try.prog w = .ok (.bool (x1 == y1 && x2 == y2)) w := by
  have u3 := Try.underlying3
  have a3 := Try.isAgg3
  have z3 := Try.sizeOf3
  have hS : Try.prog.underlying 23 = some (.struct (Try.prog.fieldsOf 23)) := by kernel_rfl
  have hp : Try.prog.stoodInHeld 23 = false := by kernel_rfl
  rw [run_eql_struct, show (10000 : Nat) = 9999 + 1 from rfl, run_equalIn_agg w 9999 23 _ _ hS hp]
  simp only [Program.fieldsOf, Try.underlying23]
  go_simp
  by_cases h1 : x1 = y1 <;> by_cases h2 : x2 = y2 <;> simp [h1, h2]
theorem four_new (w : World) (t : TypeId) (a b c d : Array Value) : Blk ((((w.alloc (.cells a t)).alloc (.cells b t)).alloc (.cells c t)).alloc (.cells d t)).drew w.heap.size t a ∧ Blk ((((w.alloc (.cells a t)).alloc (.cells b t)).alloc (.cells c t)).alloc (.cells d t)).drew (w.heap.size + 1) t b ∧ Blk ((((w.alloc (.cells a t)).alloc (.cells b t)).alloc (.cells c t)).alloc (.cells d t)).drew (w.heap.size + 1 + 1) t c ∧ Blk ((((w.alloc (.cells a t)).alloc (.cells b t)).alloc (.cells c t)).alloc (.cells d t)).drew (w.heap.size + 1 + 1 + 1) t d ∧ Nw w ((((w.alloc (.cells a t)).alloc (.cells b t)).alloc (.cells c t)).alloc (.cells d t)).drew :=
  ⟨((((Blk.new w t a).alloc _).alloc _).alloc _).drew, (((Blk.new_at _ t b (by simp)).alloc _).alloc _).drew, ((Blk.new_at _ t c (by simp)).alloc _).drew, (Blk.new_at _ t d (by simp)).drew, ((((nw_alloc w _).alloc _).alloc _).alloc _).drew⟩

end Go.Proofs.Ytlogihcmmoldkaa.W

namespace Go.Proofs.Ytlogihcmmoldkaa.W
open Go.RowKit Go.Proofs.Ytlogihcmmoldkaa.V Go.Proofs.Ytlogihcmmoldkaa.A

theorem infoA : (Try.prog.info? 23).map (fun i => (i.zero, i.size, i.bytes)) = some (some (.agg #[.int .i64 0, .int .i64 0]), 2, 16) := by kernel_rfl
def OwnA (w : World) (B : Nat) (v : Value) (l : List (Int × Int)) : Prop := w.ownsRow B 23 2 v l.length (flat vC l)
theorem OwnA.nil (w : World) (B : Nat) : OwnA w B (.slice none 0 0) [] := World.ownsRow_nil _ _ _ _
/-- the worlds that the closure knows: its variables, and the chain in a row of its own -/
structure CA (R t : Int) (gr gt gf gc B : Nat) (w : World) (rv : Value) (base : List (Int × Int)) : Prop where
  r : Blk w gr 3 #[.int .i64 R]
  t : Blk w gt 3 #[.int .i64 t]
  f : Blk w gf 52 #[.func (.func 38) #[] #[.pointer (some ⟨gr, 0, none⟩), .pointer (some ⟨gt, 0, none⟩), .pointer (some ⟨gf, 0, none⟩), .pointer (some ⟨gc, 0, none⟩)]]
  c : Blk w gc 27 #[rv]
  own : OwnA w B rv base
  lr : gr < w.heap.size
  lt : gt < w.heap.size
  lf : gf < w.heap.size
  lc : gc < w.heap.size
  lb : B ≤ w.heap.size
  off : ∀ k, rv.ownBlock = some k → k ≠ gr ∧ k ≠ gt ∧ k ≠ gf ∧ k ≠ gc
  nr : gr ≠ gc
  nt : gt ≠ gc
  nf : gf ≠ gc
/-- what has changed: the chain's variable, its row, and new blocks -/
def Stp (gc : Nat) (w : World) (rv : Value) (w' : World) (rv' : Value) : Prop := Kp (fun k => k = gc ∨ rv.ownBlock = some k) w w' ∧ ∀ k, k < w.heap.size → rv'.ownBlock = some k → rv.ownBlock = some k
theorem Stp.refl (gc : Nat) (w : World) (rv : Value) : Stp gc w rv w rv := ⟨Kp.refl _ _, fun _ _ h => h⟩
theorem Stp.nw {gc : Nat} {w w1 w' : World} {rv rv' : Value} (h : Nw w w1) (g : Stp gc w1 rv w' rv') : Stp gc w rv w' rv' := ⟨(Nw.kp h).tr g.1, fun k hk e => g.2 k (Nat.lt_of_lt_of_le hk h.size) e⟩
theorem Stp.trans {gc : Nat} {w w1 w' : World} {rv r1 rv' : Value} (h : Stp gc w rv w1 r1) (g : Stp gc w1 r1 w' rv') : Stp gc w rv w' rv' :=
  ⟨h.1.trans g.1 fun i hi e => e.imp id fun e => h.2 i hi e, fun k hk e => h.2 k hk (g.2 k (Nat.lt_of_lt_of_le hk h.1.size) e)⟩
section
variable {R t : Int} {gr gt gf gc B : Nat} {w w' : World} {rv rv' : Value} {base : List (Int × Int)}
theorem CA.nw (h : CA R t gr gt gf gc B w rv base) (hk : Nw w w') : CA R t gr gt gf gc B w' rv base :=
  ⟨h.r.nwA hk, h.t.nwA hk, h.f.nwA hk, h.c.nwA hk, own_nw h.own hk, Nat.lt_of_lt_of_le h.lr hk.size, Nat.lt_of_lt_of_le h.lt hk.size, Nat.lt_of_lt_of_le h.lf hk.size, Nat.lt_of_lt_of_le h.lc hk.size, Nat.le_trans h.lb hk.size, h.off, h.nr, h.nt, h.nf⟩
theorem CA.lt_row (h : CA R t gr gt gf gc B w rv base) {k : Nat} (hk : rv.ownBlock = some k) : B ≤ k ∧ k < w.heap.size := World.ownsRow.lt h.own k hk
theorem CA.old (h : CA R t gr gt gf gc B w rv base) {k : Nat} (hk : w.heap.size ≤ k) : ¬ (k = gc ∨ rv.ownBlock = some k) := fun e => by
  rcases e with e | e
  · have := h.lc; omega
  · have := (h.lt_row e).2; omega
/-- a block that is there ahead of a call, and is neither the chain's variable nor its row, is there behind it -/
theorem CA.keep (h : CA R t gr gt gf gc B w rv base) {wm : World} {g : Nat} {ty : TypeId} {cs : Array Value} (hb : Blk wm g ty cs) (hg : w.heap.size ≤ g) (hk : Kp (fun k => k = gc ∨ rv.ownBlock = some k) wm w') : Blk w' g ty cs := hb.kp hk (h.old hg)
/-- an appended point -/
theorem CA.push (h : CA R t gr gt gf gc B w rv base) {w5 : World} {v5 : Value} {x : Int × Int} (own : w5.ownsRow B 23 2 v5 (base.length + 1) (flat vC base ++ vC x)) (g : Grew w w5 rv v5) :
    CA R t gr gt gf gc B (w5.setCell ⟨gc, 0, none⟩ v5) v5 (base ++ [x]) ∧ Stp gc w rv (w5.setCell ⟨gc, 0, none⟩ v5) v5 := by
  have ne : ∀ {k : Nat}, k ≠ gc → ¬ (⟨gc, 0, none⟩ : Addr).block = k := fun {k} hk e => hk e.symm
  have ow : OwnA w5 B v5 (base ++ [x]) := by
    unfold OwnA
    rw [List.length_append, flat_app]
    exact own
  have off5 : ∀ k, v5.ownBlock = some k → k ≠ gr ∧ k ≠ gt ∧ k ≠ gf ∧ k ≠ gc := fun k e => by
    rcases g.at_ with e2 | ⟨k2, e2, h2⟩
    · exact h.off k (e2 ▸ e)
    · rw [e2] at e
      cases e
      have := h.lr
      have := h.lt
      have := h.lf
      have := h.lc
      omega
  have hsz := Nat.le_trans g.size (kp_set w5 gc 0 v5).size
  refine ⟨⟨(h.r.kp g.by_ (fun e => (h.off _ e).1 rfl)).far h.nr _, (h.t.kp g.by_ (fun e => (h.off _ e).2.1 rfl)).far h.nt _, (h.f.kp g.by_ (fun e => (h.off _ e).2.2.1 rfl)).far h.nf _, (h.c.kp g.by_ (fun e => (h.off _ e).2.2.2 rfl)).set_ 0 _,
    own_kp ow (kp_set w5 gc 0 _) (fun k e e2 => (off5 k e).2.2.2 e2), Nat.lt_of_lt_of_le h.lr hsz, Nat.lt_of_lt_of_le h.lt hsz, Nat.lt_of_lt_of_le h.lf hsz, Nat.lt_of_lt_of_le h.lc hsz, Nat.le_trans h.lb hsz, off5, h.nr, h.nt, h.nf⟩, ?_, fun k hk e => ?_⟩
  · exact (g.by_.mono fun _ _ e => .inr e).trans (kp_set w5 gc 0 _) fun _ _ e => .inl e
  · rcases g.at_ with e2 | ⟨k2, e2, h2⟩
    · rw [← e2]; exact e
    · rw [e2] at e
      cases e
      omega
end

set_option maxRecDepth 100000 in
set_option maxHeartbeats 12800000 in
theorem between_any {R t : Int} (hR : 0 < R) (hR2 : R ≤ 4000000) (ht : 1 ≤ t ∧ t ≤ 50) {p q : Pt} {l : List Pt} (h : Bt R t p q l) : Arcs R p q → ∀ (gr gt gf gc B : Nat) (rv : Value) (base : List (Int × Int)) (w : World), CA R t gr gt gf gc B w rv base → base.length + l.length ≤ 1000000000 →
    Calls Try.prog 38 #[vV p.1 p.2, vV q.1 q.2, .pointer (some ⟨gr, 0, none⟩), .pointer (some ⟨gt, 0, none⟩), .pointer (some ⟨gf, 0, none⟩), .pointer (some ⟨gc, 0, none⟩)] w fun e w' => e = .returned (.tuple #[]) ∧ ∃ rv', CA R t gr gt gf gc B w' rv' (base ++ l) ∧ Stp gc w rv w' rv' := by
  induction h with
  | @cl p q hc =>
    intro a gr gt gf gc B rv base w hca hlen
    have hmix := mixed7
    obtain ⟨px, py⟩ := p
    obtain ⟨qx, qy⟩ := q
    have sp : Sm2 (px, py) := dig_2000 hR2 a.1
    have sq : Sm2 (qx, qy) := dig_2000 hR2 a.2.1
    have c1 := fun w1 => close_any px py qx qy R t sp sq ⟨Int.le_of_lt hR, hR2⟩ ht (arcs_diff a) w1
    have c2 := fun w1 => mid_any px py qx qy R sp sq ⟨Int.le_of_lt hR, hR2⟩ (arcs_sum a) w1
    obtain ⟨W0, hW0⟩ : ∃ W, ((w.alloc (.cells #[.int .i64 px, .int .i64 py] 23)).alloc (.cells #[.int .i64 qx, .int .i64 qy] 23)) = W := ⟨_, rfl⟩
    have HW := Lib.hid (show Nw w W0 by rw [← hW0]; exact (nw_alloc _ _).alloc _)
    have HB0 := Lib.hid (show Blk W0 w.heap.size 23 #[.int .i64 px, .int .i64 py] by rw [← hW0]; exact (Blk.new_at w 23 #[.int .i64 px, .int .i64 py] (n := w.heap.size) (by simp)).alloc _)
    have HB1 := Lib.hid (show Blk W0 (w.heap.size + 1) 23 #[.int .i64 qx, .int .i64 qy] by rw [← hW0]; exact Blk.new_at _ 23 #[.int .i64 qx, .int .i64 qy] (n := w.heap.size + 1) (by simp))
    have HC := Lib.hid hca
    have HLN := Lib.hid hlen
    have m0 := HB0.out.cell 0
    have m1 := HB0.out.cell 1
    have m2 := HB1.out.cell 0
    have m3 := HB1.out.cell 1
    have m4 := (HC.out.nw HW.out).r.cell 0
    have m5 := (HC.out.nw HW.out).t.cell 0
    have q0 := fun p : KeptW W0 => (HB0.out.kept p).cell 0
    have q1 := fun p : KeptW W0 => (HB0.out.kept p).cell 1
    have q2 := fun p : KeptW W0 => (HB1.out.kept p).cell 0
    have q3 := fun p : KeptW W0 => (HB1.out.kept p).cell 1
    have q4 := fun p : KeptW W0 => ((HC.out.nw HW.out).r.kept p).cell 0
    clear hca hlen sp sq
    rw [hc] at c1
    go_enter Try.func38, Try.ntmps38
    go_upto_region 1 with fail
    try rw [hW0]
    clear hW0
    go_wp2_with (first | (go_at_call 39; ((with_reducible refine (Calls.kept_first (c1 _)).mono ?_); rintro e _ ⟨rfl, p, rfl⟩)) | fail)
    first | refine bodyPost_ret (results_none rfl _ _ _) rfl ?_ | refine bodyPost_end (results_none rfl _ _ _) rfl ?_
    exact ⟨rfl, _, by rw [List.append_nil]; exact HC.out.nw (by repeat (first | exact HW.out.tr p.since | refine Kp.drew ?_ | refine Kp.alloc ?_ _)), Stp.nw (by repeat (first | exact HW.out.tr p.since | refine Kp.drew ?_ | refine Kp.alloc ?_ _)) (Stp.refl _ _ _)⟩
  | @eq p q hc he =>
    intro a gr gt gf gc B rv base w hca hlen
    have hmix := mixed7
    obtain ⟨px, py⟩ := p
    obtain ⟨qx, qy⟩ := q
    have sp : Sm2 (px, py) := dig_2000 hR2 a.1
    have sq : Sm2 (qx, qy) := dig_2000 hR2 a.2.1
    have c1 := fun w1 => close_any px py qx qy R t sp sq ⟨Int.le_of_lt hR, hR2⟩ ht (arcs_diff a) w1
    have c2 := fun w1 => mid_any px py qx qy R sp sq ⟨Int.le_of_lt hR, hR2⟩ (arcs_sum a) w1
    obtain ⟨W0, hW0⟩ : ∃ W, ((w.alloc (.cells #[.int .i64 px, .int .i64 py] 23)).alloc (.cells #[.int .i64 qx, .int .i64 qy] 23)) = W := ⟨_, rfl⟩
    have HW := Lib.hid (show Nw w W0 by rw [← hW0]; exact (nw_alloc _ _).alloc _)
    have HB0 := Lib.hid (show Blk W0 w.heap.size 23 #[.int .i64 px, .int .i64 py] by rw [← hW0]; exact (Blk.new_at w 23 #[.int .i64 px, .int .i64 py] (n := w.heap.size) (by simp)).alloc _)
    have HB1 := Lib.hid (show Blk W0 (w.heap.size + 1) 23 #[.int .i64 qx, .int .i64 qy] by rw [← hW0]; exact Blk.new_at _ 23 #[.int .i64 qx, .int .i64 qy] (n := w.heap.size + 1) (by simp))
    have HC := Lib.hid hca
    have HLN := Lib.hid hlen
    have m0 := HB0.out.cell 0
    have m1 := HB0.out.cell 1
    have m2 := HB1.out.cell 0
    have m3 := HB1.out.cell 1
    have m4 := (HC.out.nw HW.out).r.cell 0
    have m5 := (HC.out.nw HW.out).t.cell 0
    have q0 := fun p : KeptW W0 => (HB0.out.kept p).cell 0
    have q1 := fun p : KeptW W0 => (HB0.out.kept p).cell 1
    have q2 := fun p : KeptW W0 => (HB1.out.kept p).cell 0
    have q3 := fun p : KeptW W0 => (HB1.out.kept p).cell 1
    have q4 := fun p : KeptW W0 => ((HC.out.nw HW.out).r.kept p).cell 0
    clear hca hlen sp sq
    rw [hc] at c1
    obtain ⟨⟨mx, my⟩, hm⟩ : ∃ m, mid R (px, py) (qx, qy) = m := ⟨_, rfl⟩
    rw [hm] at c2 he
    go_enter Try.func38, Try.ntmps38
    go_upto_region 1 with fail
    try rw [hW0]
    clear hW0
    have x1 := fun w1 => eql_vec mx my px py w1
    have x2 := fun w1 => eql_vec mx my qx qy w1
    go_upto_region 3 with (first | (go_at_call 39; ((with_reducible refine (Calls.kept_first (c1 _)).mono ?_); rintro e _ ⟨rfl, p, rfl⟩)) | (go_at_call 40; ((with_reducible refine (Calls.kept_of (c2 _)).mono ?_); rintro e _ ⟨rfl, p, rfl⟩)) | fail)
    have HN1 := Lib.hid p.since
    generalize p.wd = wa at HN1 ⊢
    generalize hwm : World.alloc _ _ = wm
    obtain ⟨gm, hgm⟩ : ∃ x, wa.heap.size = x := ⟨_, rfl⟩
    have HM := Lib.hid (show Blk wm gm 23 #[.int .i64 mx, .int .i64 my] by rw [← hwm, ← hgm]; exact Blk.new _ _ _)
    have HNM := Lib.hid (show Nw w wm by rw [← hwm]; exact HW.out.tr (HN1.out.tr (nw_alloc _ _)))
    have HN0 := Lib.hid (show Nw W0 wm by rw [← hwm]; exact HN1.out.tr (nw_alloc _ _))
    have HGM := Lib.hid (show w.heap.size ≤ gm by rw [← hgm]; exact Nat.le_trans HW.out.size HN1.out.size)
    try rw [hgm]
    clear hwm hgm m0 m1 m2 m3 m4 m5 q0 q1 q2 q3 q4 c1 c2
    have z0 := (HB0.out.nwA HN0.out).cell 0
    have z1 := (HB0.out.nwA HN0.out).cell 1
    have z2 := (HB1.out.nwA HN0.out).cell 0
    have z3 := (HB1.out.nwA HN0.out).cell 1
    have z4 := HM.out.cell 0
    have z5 := HM.out.cell 1
    by_cases e1 : (mx, my) = (px, py)
    · have b1 : (mx == px && my == py) = true := by simp only [Prod.mk.injEq] at e1; simp [e1]
      rw [b1] at x1
      clear e1 he
      go_wp2_with fail
      first | refine bodyPost_ret (results_none rfl _ _ _) rfl ?_ | refine bodyPost_end (results_none rfl _ _ _) rfl ?_
      exact ⟨rfl, _, by rw [List.append_nil]; exact HC.out.nw HNM.out, Stp.nw HNM.out (Stp.refl _ _ _)⟩
    · have e2 := he.resolve_left e1
      have b1 : (mx == px && my == py) = false := by
        cases g : (mx == px && my == py) with
        | false => rfl
        | true => simp only [Bool.and_eq_true, beq_iff_eq] at g; exact absurd (by rw [g.1, g.2]) e1
      have b2 : (mx == qx && my == qy) = true := by simp only [Prod.mk.injEq] at e2; simp [e2]
      rw [b1] at x1
      rw [b2] at x2
      clear e1 e2 he
      go_wp2_with fail
      first | refine bodyPost_ret (results_none rfl _ _ _) rfl ?_ | refine bodyPost_end (results_none rfl _ _ _) rfl ?_
      exact ⟨rfl, _, by rw [List.append_nil]; exact HC.out.nw HNM.out, Stp.nw HNM.out (Stp.refl _ _ _)⟩
  | @st p q l m hc hm1 hm2 h1 h2 ih1 ih2 =>
    intro a gr gt gf gc B rv base w hca hlen
    have hmix := mixed7
    obtain ⟨px, py⟩ := p
    obtain ⟨qx, qy⟩ := q
    have sp : Sm2 (px, py) := dig_2000 hR2 a.1
    have sq : Sm2 (qx, qy) := dig_2000 hR2 a.2.1
    have c1 := fun w1 => close_any px py qx qy R t sp sq ⟨Int.le_of_lt hR, hR2⟩ ht (arcs_diff a) w1
    have c2 := fun w1 => mid_any px py qx qy R sp sq ⟨Int.le_of_lt hR, hR2⟩ (arcs_sum a) w1
    obtain ⟨W0, hW0⟩ : ∃ W, ((w.alloc (.cells #[.int .i64 px, .int .i64 py] 23)).alloc (.cells #[.int .i64 qx, .int .i64 qy] 23)) = W := ⟨_, rfl⟩
    have HW := Lib.hid (show Nw w W0 by rw [← hW0]; exact (nw_alloc _ _).alloc _)
    have HB0 := Lib.hid (show Blk W0 w.heap.size 23 #[.int .i64 px, .int .i64 py] by rw [← hW0]; exact (Blk.new_at w 23 #[.int .i64 px, .int .i64 py] (n := w.heap.size) (by simp)).alloc _)
    have HB1 := Lib.hid (show Blk W0 (w.heap.size + 1) 23 #[.int .i64 qx, .int .i64 qy] by rw [← hW0]; exact Blk.new_at _ 23 #[.int .i64 qx, .int .i64 qy] (n := w.heap.size + 1) (by simp))
    have HC := Lib.hid hca
    have HLN := Lib.hid hlen
    have m0 := HB0.out.cell 0
    have m1 := HB0.out.cell 1
    have m2 := HB1.out.cell 0
    have m3 := HB1.out.cell 1
    have m4 := (HC.out.nw HW.out).r.cell 0
    have m5 := (HC.out.nw HW.out).t.cell 0
    have q0 := fun p : KeptW W0 => (HB0.out.kept p).cell 0
    have q1 := fun p : KeptW W0 => (HB0.out.kept p).cell 1
    have q2 := fun p : KeptW W0 => (HB1.out.kept p).cell 0
    have q3 := fun p : KeptW W0 => (HB1.out.kept p).cell 1
    have q4 := fun p : KeptW W0 => ((HC.out.nw HW.out).r.kept p).cell 0
    clear hca hlen sp sq
    obtain ⟨a1, a2⟩ := arcs_split hR a hm1 hm2
    rw [hc] at c1
    obtain ⟨⟨mx, my⟩, hm⟩ : ∃ m, mid R (px, py) (qx, qy) = m := ⟨_, rfl⟩
    rw [hm] at c2 hm1 hm2 ih1 ih2 a1 a2
    rw [hm, List.length_append, List.length_cons] at HLN
    rw [hm]
    have i1 := fun w1 hca hl => ih1 a1 gr gt gf gc B rv base w1 hca hl
    have i2 := fun r1 w1 hca hl => ih2 a2 gr gt gf gc B r1 ((base ++ l) ++ [(mx, my)]) w1 hca hl
    simp only at i1 i2
    clear ih1 ih2 a1 a2 h1 h2
    go_enter Try.func38, Try.ntmps38
    go_upto_region 1 with fail
    try rw [hW0]
    clear hW0
    have x1 := fun w1 => eql_vec mx my px py w1
    have x2 := fun w1 => eql_vec mx my qx qy w1
    go_upto_region 3 with (first | (go_at_call 39; ((with_reducible refine (Calls.kept_first (c1 _)).mono ?_); rintro e _ ⟨rfl, p, rfl⟩)) | (go_at_call 40; ((with_reducible refine (Calls.kept_of (c2 _)).mono ?_); rintro e _ ⟨rfl, p, rfl⟩)) | fail)
    have HN1 := Lib.hid p.since
    generalize p.wd = wa at HN1 ⊢
    generalize hwm : World.alloc _ _ = wm
    obtain ⟨gm, hgm⟩ : ∃ x, wa.heap.size = x := ⟨_, rfl⟩
    have HM := Lib.hid (show Blk wm gm 23 #[.int .i64 mx, .int .i64 my] by rw [← hwm, ← hgm]; exact Blk.new _ _ _)
    have HNM := Lib.hid (show Nw w wm by rw [← hwm]; exact HW.out.tr (HN1.out.tr (nw_alloc _ _)))
    have HN0 := Lib.hid (show Nw W0 wm by rw [← hwm]; exact HN1.out.tr (nw_alloc _ _))
    have HGM := Lib.hid (show w.heap.size ≤ gm by rw [← hgm]; exact Nat.le_trans HW.out.size HN1.out.size)
    try rw [hgm]
    clear hwm hgm m0 m1 m2 m3 m4 m5 q0 q1 q2 q3 q4 c1 c2
    have z0 := (HB0.out.nwA HN0.out).cell 0
    have z1 := (HB0.out.nwA HN0.out).cell 1
    have z2 := (HB1.out.nwA HN0.out).cell 0
    have z3 := (HB1.out.nwA HN0.out).cell 1
    have z4 := HM.out.cell 0
    have z5 := HM.out.cell 1
    have b1 : (mx == px && my == py) = false := by
      cases g : (mx == px && my == py) with
      | false => rfl
      | true => simp only [Bool.and_eq_true, beq_iff_eq] at g; exact absurd (by rw [g.1, g.2]) hm1
    have b2 : (mx == qx && my == qy) = false := by
      cases g : (mx == qx && my == qy) with
      | false => rfl
      | true => simp only [Bool.and_eq_true, beq_iff_eq] at g; exact absurd (by rw [g.1, g.2]) hm2
    rw [b1] at x1
    rw [b2] at x2
    clear hm1 hm2 b1 b2
    have HCM := Lib.hid (HC.out.nw HNM.out)
    have z6 := HCM.out.f.cell 0
    go_upto_region 5 with (first | (go_at_call 38; refine (i1 _ HCM.out (by have := HLN.out; omega)).mono ?_; rintro e w4 ⟨rfl, r4, hca4, hst4⟩; have HCA4 := Lib.hid hca4; have HST4 := Lib.hid hst4; clear hca4 hst4) | fail)
    have y0 := HCA4.out.c.cell 0
    have KM := HST4.out.1
    have HM4 := Lib.hid (HC.out.keep HM.out HGM.out KM)
    have HQ4 := Lib.hid (HC.out.keep (HB1.out.nwA HN0.out) (by omega) KM)
    have y1 := HM4.out.cell 0
    have y2 := HM4.out.cell 1
    have hl4 := HLN.out
    obtain ⟨n4, hn4⟩ : ∃ n, (base ++ l).length = n := ⟨_, rfl⟩
    have hl5 : n4 + m.length + 1 ≤ 1000000000 := by rw [← hn4, List.length_append]; omega
    have HN4 := Lib.hid hn4
    have HO4 := Lib.hid (show World.ownsRow w4 B 23 2 r4 n4 (flat vC (base ++ l)) from hn4 ▸ HCA4.out.own)
    clear KM z0 z1 z2 z3 z4 z5 z6 x1 x2 i1 hn4 hl4
    have hmlen := hl5
    go_upto_region 6 with (first
      | (at_builtin; refine wp_pushG rfl (.tmp 30) (.tmp 32) 27 23 2 16 (.agg #[.int .i64 0, .int .i64 0]) rfl Try.underlying27 infoA rfl (by omega) B n4 _ (flat vC (base ++ l)) [.int .i64 mx, .int .i64 my] rfl HO4.out rfl ?_ rfl ?_ ?_ HCA4.out.lb ?_; (intro u hu; simp at hu; rcases hu with rfl | rfl <;> rfl); omega; omega; intro v5 w5 own5 gr5; (have hb5 := HCA4.out.c.kp gr5.by_ (fun e => (HCA4.out.off _ e).2.2.2 rfl)); (obtain ⟨d7, g7⟩ := hb5.one); (obtain ⟨A', c', rfl⟩ := (own_src own5).shape); (have HP := Lib.hid (HCA4.out.push (x := (mx, my)) (by rw [HN4.out]; exact own5) gr5)); clear own5 gr5 hb5) | fail)
    have HCA6 := Lib.hid HP.out.1
    have HST6 := Lib.hid (HST4.out.trans HP.out.2)
    clear HP d7 g7 y0 y1 y2 HCA4 HST4 HM4 HQ4 HO4
    generalize World.setCell _ _ _ = w6 at HCA6 HST6 ⊢
    have KM := HST6.out.1
    have HM6 := Lib.hid (HC.out.keep HM.out HGM.out KM)
    have HQ6 := Lib.hid (HC.out.keep (HB1.out.nwA HN0.out) (by omega) KM)
    have z0 := HM6.out.cell 0
    have z1 := HM6.out.cell 1
    have z2 := HQ6.out.cell 0
    have z3 := HQ6.out.cell 1
    have z4 := HCA6.out.f.cell 0
    have hl7 : ((base ++ l) ++ [(mx, my)]).length + m.length ≤ 1000000000 := by rw [List.length_append, HN4.out]; simp; omega
    clear KM
    go_wp2_with (first | (go_at_call 38; refine (i2 _ _ HCA6.out hl7).mono ?_; rintro e w7 ⟨rfl, r7, hca7, hst7⟩; have HCA7 := Lib.hid hca7; have HST7 := Lib.hid hst7; clear hca7 hst7) | fail)
    first | refine bodyPost_ret (results_none rfl _ _ _) rfl ?_ | refine bodyPost_end (results_none rfl _ _ _) rfl ?_
    exact ⟨rfl, r7, by simpa using HCA7.out, Stp.nw HNM.out (HST6.out.trans HST7.out)⟩

end Go.Proofs.Ytlogihcmmoldkaa.W
