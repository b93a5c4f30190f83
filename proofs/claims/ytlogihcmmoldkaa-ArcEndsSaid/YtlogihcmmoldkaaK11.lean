/-
  arc: Flatten: what it returns. No condition on the arguments; the chain is that of the chapter.
-/
import Derived.Test.YtlogihcmmoldkaaK09
import Derived.Test.YtlogihcmmoldkaaLayU
import Derived.Test.YtlogihcmmoldkaaK10
namespace Go.Proofs.Ytlogihcmmoldkaa.W
open Go.RowKit Go.Proofs.Ytlogihcmmoldkaa.V Go.Proofs.Ytlogihcmmoldkaa.A

theorem own_holdsA {w : World} {B : Nat} {v : Value} {l : List (Int × Int)} (h : OwnA w B v l) (h0 : 0 < l.length) : ∃ g cap, v = .slice (some ⟨g, 0, none⟩) l.length cap ∧ B ≤ g ∧ g < w.heap.size ∧ l.length ≤ cap ∧ cap ≤ maxLen ∧ RowV w g l := by
  have hs : SrcV w v l := own_src h
  rcases h.2 with ⟨_, e⟩ | ⟨g, cap, cur, rfl, hb, hg, hnc, hcm, hcs, htake⟩
  · omega
  · refine ⟨g, cap, rfl, hb, (Array.getElem?_eq_some_iff.1 hg).1, hnc, hcm, fun i p hp => ?_⟩
    have hb2 : Blk w g 23 cur := hg
    obtain ⟨f1, f2⟩ := flatV_at l i p hp
    have a1 := hs.cell_at f1
    have a2 := hs.cell_at f2
    rw [Nat.zero_add] at a1 a2
    exact ⟨⟨a1, a2⟩, hb2.frozen _, hb2.frozen _⟩
theorem kp_putA (w : World) (n g : Nat) (d : Array (Int × Int)) : Kp (fun b => b = g) w (Sort.putRowK vC 2 (Sort.ahead w n) g 0 d) := by
  refine ⟨rfl, rfl, rfl, ?_, fun i hi hne => ?_⟩
  · unfold Sort.putRowK
    rw [Sort.size_putRow]
    exact Nat.le_refl _
  · unfold Sort.putRowK
    show (w.heap.modify g _)[i]? = _
    rw [Array.getElem?_modify]
    simp [Ne.symm hne]
/-- slices.Reverse of a row that may be stored into -/
theorem vRev_rowA (l : List (Int × Int)) (k cap : Nat) (w : World) (h : RowV w k l) (hl : l.length ≤ 1099511627776) : Calls Try.prog 28 #[.slice (some ⟨k, 0, none⟩) l.length cap] w fun e w' => e = .returned (.tuple #[]) ∧ RowV w' k l.reverse ∧ Kp (fun b => b = k) w w' := by
  have hH := h.holds
  have hcon := AnyQ.slices_Reverse Try.revVec 2 Try.isAgg23 Try.sizeOf23 vC (fun _ => rfl) (fun x v hv => by simp [vC] at hv; rcases hv with rfl | rfl <;> rfl) k 0 cap l.toArray w hH (by simp; omega)
  refine Calls.mono hcon ?_
  rintro e w' ⟨rfl, n, rfl⟩
  refine ⟨rfl, RowV.of_holds ?_, kp_putA w n k l.toArray.reverse⟩
  have := Sort.holdsK_putRowK (enc := vC) (k := 2) (Sort.ahead w n) k 0 l.toArray l.toArray.reverse hH (by simp)
  rw [List.reverse_toArray] at this ⊢
  exact this
/-- the chain, moved to the center -/
def mvC (cx cy : Int) (p : Int × Int) : Int × Int := (p.1 + cx, p.2 + cy)
theorem con_all {r : Pt → Pt → Prop} {P : Pt → Prop} (h : ∀ a b, r a b → P b) : ∀ {p : Pt} {l : List Pt}, Con r p l → ∀ x ∈ l, P x
  | _, [], _, x, hx => by cases hx
  | p, a :: l, hc, x, hx => by
    rcases List.mem_cons.1 hx with e | hx
    · subst e; exact h _ _ hc.1
    · exact con_all h hc.2 x hx
theorem ch_small {R t : Int} (hR : 0 < R) (hR2 : R ≤ 4000000) {p q : Pt} {l : List Pt} (h : Ch R t p q l) (hp : nrm p = R) (hq : nrm q = R) : ∀ x ∈ p :: l, Sm2 x := fun x hx => by
  rcases List.mem_cons.1 hx with e | hx
  · subst e; exact dig_2000 hR2 (dig_own hp)
  · exact dig_2000 hR2 (con_all (fun a b (g : Seg R t a b) => g.1.2.1) (ch_con hR h hp hq) x hx)
theorem valid_parts {fx fy tx ty cx cy : Int} (h : validA fx fy tx ty cx cy = true) : ((-2000 ≤ fx ∧ fx ≤ 2000) ∧ (-2000 ≤ fy ∧ fy ≤ 2000)) ∧ ((-2000 ≤ tx ∧ tx ≤ 2000) ∧ (-2000 ≤ ty ∧ ty ≤ 2000)) ∧ ((-2000 ≤ cx ∧ cx ≤ 2000) ∧ (-2000 ≤ cy ∧ cy ≤ 2000)) ∧ 0 < nrm (fx - cx, fy - cy) ∧ nrm (fx - cx, fy - cy) ≤ 4000000 ∧ nrm (tx - cx, ty - cy) = nrm (fx - cx, fy - cy) := by
  unfold validA at h
  simp only [Bool.and_eq_true, decide_eq_true_eq, beq_iff_eq] at h
  obtain ⟨⟨⟨h1, h2⟩, h3⟩, ⟨h4, h5⟩, h6⟩ := h
  exact ⟨within_le (by decide) h1, within_le (by decide) h2, within_le (by decide) h3, h4, h5, h6.symm⟩

set_option maxRecDepth 100000 in
set_option maxHeartbeats 3200000 in
theorem flat_arg (fx fy tx ty cx cy t : Int) (cw : Bool) (hv : validA fx fy tx ty cx cy = false) (w : World) : Calls Try.prog 12 #[arV fx fy tx ty cx cy cw, .int .i64 t] w fun e w' => e = .returned (.tuple #[.slice none 0 0, .int .i64 1]) ∧ Nw w w' := by
  have hmix := mixed7
  have c1 := fun w1 => avalid_any fx fy tx ty cx cy cw w1
  obtain ⟨W0, hW0⟩ : ∃ W, w.alloc (.cells (arC fx fy tx ty cx cy cw) 25) = W := ⟨_, rfl⟩
  have HB0 := Lib.hid (show Blk W0 w.heap.size 25 (arC fx fy tx ty cx cy cw) by rw [← hW0]; exact Blk.new _ _ _)
  have HNW := Lib.hid (show Nw w W0 by rw [← hW0]; exact nw_alloc _ _)
  have m0 := HB0.out.cell 0
  have m1 := HB0.out.cell 1
  have m2 := HB0.out.cell 2
  have m3 := HB0.out.cell 3
  have m4 := HB0.out.cell 4
  have m5 := HB0.out.cell 5
  have m6 := HB0.out.cell 6
  rw [hv] at c1
  go_enter Try.func12, Try.ntmps12
  go_upto_region 1 with fail
  try rw [hW0]
  clear hW0
  go_wp2_with (first | (go_at_call 15; ((with_reducible refine (Calls.kept_first (c1 _)).mono ?_); rintro e _ ⟨rfl, p, rfl⟩)) | fail)
  go_ret2
  exact ⟨rfl, by repeat (first | exact HNW.out.tr p.since | exact HNW.out | refine Kp.drew ?_ | refine Kp.alloc ?_ _)⟩

set_option maxRecDepth 100000 in
set_option maxHeartbeats 3200000 in
theorem flat_range (fx fy tx ty cx cy t : Int) (cw : Bool) (hv : validA fx fy tx ty cx cy = true) (ht : ¬ (1 ≤ t ∧ t ≤ 50)) (w : World) : Calls Try.prog 12 #[arV fx fy tx ty cx cy cw, .int .i64 t] w fun e w' => e = .returned (.tuple #[.slice none 0 0, .int .i64 2]) ∧ Nw w w' := by
  have hmix := mixed7
  have c1 := fun w1 => avalid_any fx fy tx ty cx cy cw w1
  obtain ⟨W0, hW0⟩ : ∃ W, w.alloc (.cells (arC fx fy tx ty cx cy cw) 25) = W := ⟨_, rfl⟩
  have HB0 := Lib.hid (show Blk W0 w.heap.size 25 (arC fx fy tx ty cx cy cw) by rw [← hW0]; exact Blk.new _ _ _)
  have HNW := Lib.hid (show Nw w W0 by rw [← hW0]; exact nw_alloc _ _)
  have m0 := HB0.out.cell 0
  have m1 := HB0.out.cell 1
  have m2 := HB0.out.cell 2
  have m3 := HB0.out.cell 3
  have m4 := HB0.out.cell 4
  have m5 := HB0.out.cell 5
  have m6 := HB0.out.cell 6
  rw [hv] at c1
  by_cases h1 : t < 1
  · have e1 : decide (t < 1) = true := decide_eq_true h1
    clear ht
    go_enter Try.func12, Try.ntmps12
    go_upto_region 1 with fail
    try rw [hW0]
    clear hW0
    go_wp2_with (first | (go_at_call 15; ((with_reducible refine (Calls.kept_first (c1 _)).mono ?_); rintro e _ ⟨rfl, p, rfl⟩)) | fail)
    go_ret2
    exact ⟨rfl, by repeat (first | exact HNW.out.tr p.since | exact HNW.out | refine Kp.drew ?_ | refine Kp.alloc ?_ _)⟩
  · have e1 : decide (t < 1) = false := decide_eq_false h1
    have h2 : 50 < t := by omega
    have e2 : decide (50 < t) = true := decide_eq_true h2
    clear ht
    go_enter Try.func12, Try.ntmps12
    go_upto_region 1 with fail
    try rw [hW0]
    clear hW0
    go_wp2_with (first | (go_at_call 15; ((with_reducible refine (Calls.kept_first (c1 _)).mono ?_); rintro e _ ⟨rfl, p, rfl⟩)) | fail)
    go_ret2
    exact ⟨rfl, by repeat (first | exact HNW.out.tr p.since | exact HNW.out | refine Kp.drew ?_ | refine Kp.alloc ?_ _)⟩

theorem RowV.kpA {S : Nat → Prop} {w w' : World} {g : Nat} {l : List (Int × Int)} (h : RowV w g l) (hg : g < w.heap.size) (hk : Kp S w w') (hs : ¬ S g) : RowV w' g l := by
  intro i p hp
  obtain ⟨⟨a, b⟩, c, d⟩ := h i p hp
  exact ⟨⟨(hk.cell (p := ⟨g, i * 2, none⟩) hg hs).trans a, (hk.cell (p := ⟨g, i * 2 + 1, none⟩) hg hs).trans b⟩, (hk.frozen (p := ⟨g, i * 2, none⟩) hg hs).trans c, (hk.frozen (p := ⟨g, i * 2 + 1, none⟩) hg hs).trans d⟩

set_option maxRecDepth 100000 in
set_option maxHeartbeats 6400000 in
theorem flat_false (fx fy tx ty cx cy t : Int) (hv : validA fx fy tx ty cx cy = true) (ht : 1 ≤ t ∧ t ≤ 50) {l : List Pt} (hch : Ch (nrm (fx - cx, fy - cy)) t (fx - cx, fy - cy) (tx - cx, ty - cy) l) (w : World) :
    Calls Try.prog 12 #[arV fx fy tx ty cx cy false, .int .i64 t] w fun e w' => ∃ v, e = .returned (.tuple #[v, .int .i64 0]) ∧ SrcV w' v (((fx - cx, fy - cy) :: l).map (mvC cx cy)) ∧ Nw w w' := by
  have hmix := mixed7
  have c1 := fun w1 => avalid_any fx fy tx ty cx cy false w1
  obtain ⟨W0, hW0⟩ : ∃ W, w.alloc (.cells (arC fx fy tx ty cx cy false) 25) = W := ⟨_, rfl⟩
  have HB0 := Lib.hid (show Blk W0 w.heap.size 25 (arC fx fy tx ty cx cy false) by rw [← hW0]; exact Blk.new _ _ _)
  have HNW := Lib.hid (show Nw w W0 by rw [← hW0]; exact nw_alloc _ _)
  have m0 := HB0.out.cell 0
  have m1 := HB0.out.cell 1
  have m2 := HB0.out.cell 2
  have m3 := HB0.out.cell 3
  have m4 := HB0.out.cell 4
  have m5 := HB0.out.cell 5
  have m6 := HB0.out.cell 6
  rw [hv] at c1
  have e1 : decide (t < 1) = false := decide_eq_false (by omega)
  have e2 : decide (50 < t) = false := decide_eq_false (by omega)
  obtain ⟨v1, v2, v3, v4, v5, v6⟩ := valid_parts hv
  have d1 := fun w1 => sub_any fx fy cx cy w1
  have d2 := fun w1 => sub_any tx ty cx cy w1
  rw [(sq_small v1 v3).1, (sq_small v1 v3).2.1] at d1
  rw [(sq_small v2 v3).1, (sq_small v2 v3).2.1] at d2
  have hsm := ch_small v4 v5 hch rfl v6
  have hlen := ch_max v4 v5 hch rfl v6
  have cc := fun w1 => counter_any v4 v5 ht rfl v6 hch w1
  have HV3 := Lib.hid v3
  clear v1 v2 v3 v4 v5 v6 hv ht hch
  obtain ⟨x1, hx1⟩ : ∃ x, fx - cx = x := ⟨_, rfl⟩
  obtain ⟨y1, hy1⟩ : ∃ x, fy - cy = x := ⟨_, rfl⟩
  obtain ⟨x2, hx2⟩ : ∃ x, tx - cx = x := ⟨_, rfl⟩
  obtain ⟨y2, hy2⟩ : ∃ x, ty - cy = x := ⟨_, rfl⟩
  rw [hx1, hy1] at d1 hsm ⊢; rw [hx2, hy2] at d2
  rw [hx1, hy1, hx2, hy2] at cc
  clear hx1 hy1 hx2 hy2
  obtain ⟨L, hL⟩ : ∃ L, ((x1, y1) :: l) = L := ⟨_, rfl⟩
  obtain ⟨n, hn⟩ : ∃ n, L.length = n := ⟨_, rfl⟩
  have hl : n ≤ 64032009 := by rw [← hn, ← hL]; simp; omega
  have HSM := Lib.hid (show ∀ x ∈ L, Sm2 x from fun x hx => hsm x (by rw [← hL] at hx; exact hx))
  have HL := Lib.hid hL
  have HN := Lib.hid hn
  rw [hL]
  clear hsm hn hL hlen
  go_enter Try.func12, Try.ntmps12
  go_upto_region 1 with fail
  try rw [hW0]
  clear hW0
  go_upto_region 5 with (first | (go_at_call 15; ((with_reducible refine (Calls.kept_first (c1 _)).mono ?_); rintro e _ ⟨rfl, p, rfl⟩)) | fail)
  have HW3 := Lib.hid p.since
  generalize p.wd = w3 at HW3 ⊢
  clear m0 m1 m2 m3 m4 m5 m6 c1 e1 e2
  have HP := Lib.hid (show ∀ w', Nw w3 w' → w'.cell? (⟨w.heap.size, 0, none⟩ : Addr) = some (.int .i64 fx) ∧ w'.cell? (⟨w.heap.size, 1, none⟩ : Addr) = some (.int .i64 fy) ∧ w'.cell? (⟨w.heap.size, 2, none⟩ : Addr) = some (.int .i64 tx) ∧ w'.cell? (⟨w.heap.size, 3, none⟩ : Addr) = some (.int .i64 ty) ∧ w'.cell? (⟨w.heap.size, 4, none⟩ : Addr) = some (.int .i64 cx) ∧ w'.cell? (⟨w.heap.size, 5, none⟩ : Addr) = some (.int .i64 cy) from fun w' h => by
    have b := (HB0.out.nwA HW3.out).nwA h
    exact ⟨b.cell 0, b.cell 1, b.cell 2, b.cell 3, b.cell 4, b.cell 5⟩)
  go_cut [6, 7] from 22 to 31 (fun p5 p6 wx => ARel2 x1 y1 x2 y2 w3 p5 p6 wx)
  case first =>
    go_wp2_with fail
    go_region_held3 (fun w' : World => w'.cell? (⟨w.heap.size, 0, none⟩ : Addr) = some (.int .i64 fx) ∧ w'.cell? (⟨w.heap.size, 1, none⟩ : Addr) = some (.int .i64 fy) ∧ w'.cell? (⟨w.heap.size, 2, none⟩ : Addr) = some (.int .i64 tx) ∧ w'.cell? (⟨w.heap.size, 3, none⟩ : Addr) = some (.int .i64 ty) ∧ w'.cell? (⟨w.heap.size, 4, none⟩ : Addr) = some (.int .i64 cx) ∧ w'.cell? (⟨w.heap.size, 5, none⟩ : Addr) = some (.int .i64 cy))
      (first | ((refine HP.out _ ?_); (repeat (first | exact hb2 | exact hb1 | exact Kp.refl _ _ | refine Kp.alloc ?_ _ | refine Kp.drew ?_ | refine Kp.new ?_ (by omega) _ _))) | fail)
      (first | (go_at_call 26; ((with_reducible refine (d1 _).mono ?_); rintro e u1 ⟨rfl, hk1⟩; have hb1 : Nw w3 u1 := Kp.tr (by repeat (first | exact hb2 | exact hb1 | exact Kp.refl _ _ | refine Kp.alloc ?_ _ | refine Kp.drew ?_ | refine Kp.new ?_ (by omega) _ _)) hk1; have l1 := hb1.size; with_reducible (first | (have p1 := Blk.nwA (Blk.drew (Blk.new_at _ 23 #[.int .i64 0, .int .i64 0] (n := w3.heap.size + 1) (by simp))) hk1; have p0 := Blk.nwA (Blk.drew (Blk.alloc (Blk.new_at _ 23 #[.int .i64 0, .int .i64 0] (n := w3.heap.size) (by simp)) _)) hk1; have t1 := (p0).cell 0; have t2 := (p0).cell 1; have t3 := (p0).frozen 0; have t4 := (p0).frozen 1; have t5 := Nat.ne_of_lt p0.lt; have t6 := Ne.symm (Nat.ne_of_lt p0.lt); have t1 := (p1).cell 0; have t2 := (p1).cell 1; have t3 := (p1).frozen 0; have t4 := (p1).frozen 1; have t5 := Nat.ne_of_lt p1.lt; have t6 := Ne.symm (Nat.ne_of_lt p1.lt)) | (have p0 := Blk.nwA (Blk.drew (Blk.new_at _ 23 #[.int .i64 0, .int .i64 0] (n := w3.heap.size) (by simp))) hk1; have t1 := (p0).cell 0; have t2 := (p0).cell 1; have t3 := (p0).frozen 0; have t4 := (p0).frozen 1; have t5 := Nat.ne_of_lt p0.lt; have t6 := Ne.symm (Nat.ne_of_lt p0.lt)) | skip))) | (go_at_call 26; ((with_reducible refine (d2 _).mono ?_); rintro e u2 ⟨rfl, hk2⟩; have hb2 : Nw w3 u2 := Kp.tr (by repeat (first | exact hb2 | exact hb1 | exact Kp.refl _ _ | refine Kp.alloc ?_ _ | refine Kp.drew ?_ | refine Kp.new ?_ (by omega) _ _)) hk2; have l2 := hb2.size; with_reducible (first | (have t := p1; have rr1 := Blk.nwA p1 hk2; have rr0 := Blk.nwA p0 hk2; have t1 := (rr0).cell 0; have t2 := (rr0).cell 1; have t3 := (rr0).frozen 0; have t4 := (rr0).frozen 1; have t5 := Nat.ne_of_lt rr0.lt; have t6 := Ne.symm (Nat.ne_of_lt rr0.lt); have t1 := (rr1).cell 0; have t2 := (rr1).cell 1; have t3 := (rr1).frozen 0; have t4 := (rr1).frozen 1; have t5 := Nat.ne_of_lt rr1.lt; have t6 := Ne.symm (Nat.ne_of_lt rr1.lt)) | (have t := p0; have rr0 := Blk.nwA (Blk.alloc p0 _) hk2; have o0 := Blk.nwA (Blk.new_at _ 23 #[.int .i64 0, .int .i64 0] (n := u1.heap.size) (by simp)) hk2; have t1 := (rr0).cell 0; have t2 := (rr0).cell 1; have t3 := (rr0).frozen 0; have t4 := (rr0).frozen 1; have t5 := Nat.ne_of_lt rr0.lt; have t6 := Ne.symm (Nat.ne_of_lt rr0.lt); have t1 := (o0).cell 0; have t2 := (o0).cell 1; have t3 := (o0).frozen 0; have t4 := (o0).frozen 1; have t5 := Nat.ne_of_lt o0.lt; have t6 := Ne.symm (Nat.ne_of_lt o0.lt)) | (have t := p0; have rr0 := Blk.nwA p0 hk2; have t1 := (rr0).cell 0; have t2 := (rr0).cell 1; have t3 := (rr0).frozen 0; have t4 := (rr0).frozen 1; have t5 := Nat.ne_of_lt rr0.lt; have t6 := Ne.symm (Nat.ne_of_lt rr0.lt); have t1 := (rr0.alloc (.cells #[.int .i64 0, .int .i64 0] 23)).cell 0; have t2 := (rr0.alloc (.cells #[.int .i64 0, .int .i64 0] 23)).cell 1; have t3 := (rr0.alloc (.cells #[.int .i64 0, .int .i64 0] 23)).frozen 0; have t4 := (rr0.alloc (.cells #[.int .i64 0, .int .i64 0] 23)).frozen 1; have t1 := (rr0.alloc (.cells #[.int .i64 x1, .int .i64 y1] 23)).cell 0; have t2 := (rr0.alloc (.cells #[.int .i64 x1, .int .i64 y1] 23)).cell 1; have t3 := (rr0.alloc (.cells #[.int .i64 x1, .int .i64 y1] 23)).frozen 0; have t4 := (rr0.alloc (.cells #[.int .i64 x1, .int .i64 y1] 23)).frozen 1) | (have o1 := Blk.nwA (Blk.new_at _ 23 #[.int .i64 0, .int .i64 0] (n := u1.heap.size + 1) (by simp)) hk2; have o0 := Blk.nwA (Blk.alloc (Blk.new_at _ 23 #[.int .i64 0, .int .i64 0] (n := u1.heap.size) (by simp)) _) hk2; have t1 := (o0).cell 0; have t2 := (o0).cell 1; have t3 := (o0).frozen 0; have t4 := (o0).frozen 1; have t5 := Nat.ne_of_lt o0.lt; have t6 := Ne.symm (Nat.ne_of_lt o0.lt); have t1 := (o1).cell 0; have t2 := (o1).cell 1; have t3 := (o1).frozen 0; have t4 := (o1).frozen 1; have t5 := Nat.ne_of_lt o1.lt; have t6 := Ne.symm (Nat.ne_of_lt o1.lt)) | (have o0 := Blk.nwA (Blk.new_at _ 23 #[.int .i64 0, .int .i64 0] (n := u1.heap.size) (by simp)) hk2; have t1 := (o0).cell 0; have t2 := (o0).cell 1; have t3 := (o0).frozen 0; have t4 := (o0).frozen 1; have t5 := Nat.ne_of_lt o0.lt; have t6 := Ne.symm (Nat.ne_of_lt o0.lt); have t1 := (o0.alloc (.cells #[.int .i64 0, .int .i64 0] 23)).cell 0; have t2 := (o0.alloc (.cells #[.int .i64 0, .int .i64 0] 23)).cell 1; have t3 := (o0.alloc (.cells #[.int .i64 0, .int .i64 0] 23)).frozen 0; have t4 := (o0.alloc (.cells #[.int .i64 0, .int .i64 0] 23)).frozen 1; have t1 := (o0.alloc (.cells #[.int .i64 x1, .int .i64 y1] 23)).cell 0; have t2 := (o0.alloc (.cells #[.int .i64 x1, .int .i64 y1] 23)).cell 1; have t3 := (o0.alloc (.cells #[.int .i64 x1, .int .i64 y1] 23)).frozen 0; have t4 := (o0.alloc (.cells #[.int .i64 x1, .int .i64 y1] 23)).frozen 1) | skip))))
    all_goals (go_wp2_with fail; go_meet; case rel => (first | with_reducible exact atwo1 hb2 | with_reducible exact atwo2 hb2 | with_reducible exact atwo3 hb2 rr0 (by omega) | with_reducible exact atwo3 hb2 rr1 (by omega) | with_reducible exact atwo3 hb2 o0 (by omega) | with_reducible exact atwo3 hb2 o1 (by omega) | with_reducible exact atwo5 hb2 rr0 (by omega) | with_reducible exact atwo5 hb2 rr1 (by omega) | with_reducible exact atwo5 hb2 o0 (by omega) | with_reducible exact atwo5 hb2 o1 (by omega) | with_reducible exact atwo4 hb2 rr0 rr1 (by omega) (by omega) (by omega) | with_reducible exact atwo4 hb2 rr0 o0 (by omega) (by omega) (by omega) | with_reducible exact atwo4 hb2 rr0 o1 (by omega) (by omega) (by omega) | with_reducible exact atwo4 hb2 rr1 rr0 (by omega) (by omega) (by omega) | with_reducible exact atwo4 hb2 rr1 o0 (by omega) (by omega) (by omega) | with_reducible exact atwo4 hb2 rr1 o1 (by omega) (by omega) (by omega) | with_reducible exact atwo4 hb2 o0 rr0 (by omega) (by omega) (by omega) | with_reducible exact atwo4 hb2 o0 rr1 (by omega) (by omega) (by omega) | with_reducible exact atwo4 hb2 o0 o1 (by omega) (by omega) (by omega) | with_reducible exact atwo4 hb2 o1 rr0 (by omega) (by omega) (by omega) | with_reducible exact atwo4 hb2 o1 rr1 (by omega) (by omega) (by omega) | with_reducible exact atwo4 hb2 o1 o0 (by omega) (by omega) (by omega)))
  case rest =>
    obtain ⟨G6, G7, rfl, rfl, b6, b7, hkc, hne, hs6, hs7⟩ := hcut
    have HNE := Lib.hid (And.intro hne (And.intro (Nat.le_trans HW3.out.size hs6) (Nat.le_trans HW3.out.size hs7)))
    have HKC := Lib.hid (HW3.out.tr hkc)
    have HB6 := Lib.hid b6
    have HB7 := Lib.hid b7
    obtain ⟨z0, z1, z2, z3⟩ := b6.two
    obtain ⟨z4, z5, z6, z7⟩ := b7.two
    have mb := (HB0.out.nwA HKC.out).cell 6
    clear b6 b7 hkc d1 d2 HP hmix hne hs6 hs7
    go_upto_region 8 with fail
    clear z2 z3 z6 z7 mb
    go_upto_region 9 with (first | (go_at_call 27; refine (cc _).mono ?_; rintro e w5 ⟨v5, rfl, own5, hk5⟩; have HO5 := Lib.hid own5; have HK5 := Lib.hid (HKC.out.tr hk5); clear own5 hk5) | fail)
    clear z0 z1 z4 z5 cc
    obtain ⟨g, cap, rfl, hBg, hgl, hnc, hcm, hrow⟩ := own_holdsA HO5.out (by simp)
    rw [show ((x1, y1) :: l) = L from HL.out] at hnc hrow
    rw [show ((x1, y1) :: l).length = n by rw [← HN.out, ← HL.out]]
    have HROW := Lib.hid hrow
    have HG := Lib.hid (show w.heap.size < g by have := HB0.out.lt; have := HKC.out.size; omega)
    have HGL := Lib.hid hgl
    have HCAP := Lib.hid (show n ≤ cap ∧ cap ≤ maxLen from ⟨HN.out ▸ hnc, hcm⟩)
    have mb := (HB0.out.nwA HK5.out).cell 6
    clear hrow hBg hgl hnc hcm HO5 HB6 HB7
    go_wp2_with fail
    go_loopw [46] (fun i wr => ∃ (k : Nat) (M : List Pt), i = .int .i64 k ∧ k ≤ n ∧ M.length = n ∧ (∀ j, j < k → M[j]? = (L[j]?).map (mvC cx cy)) ∧ (∀ j, k ≤ j → M[j]? = L[j]?) ∧ RowV wr g M ∧ Kp (fun b => b = g) w5 wr) (fun i _ => n - (intOf i).toNat)
    case atStart => exact ⟨0, L, rfl, Nat.zero_le _, HN.out, fun j h => absurd h (Nat.not_lt_zero _), fun _ _ => rfl, HROW.out, Kp.refl _ _⟩
    case round =>
      obtain ⟨k, M, rfl, hk, hml, hlo, hhi, hrow, hnw⟩ := hrel
      have HML := Lib.hid hml
      have HLO := Lib.hid hlo
      have HHI := Lib.hid hhi
      have HRW := Lib.hid hrow
      clear hml hlo hhi hrow
      have HK := Lib.hid hnw
      clear hnw
      by_cases hkn : k < n
      · have i0 : (0 : Int) ≤ (k : Int) := by omega
        have i1 : (k : Int) < (n : Int) := by omega
        obtain ⟨s4, hs4⟩ : ∃ s : Nat, k + 1 = s := ⟨_, rfl⟩
        have a4 : IntKind.i64.wrap ((k : Int) + 1) = (s4 : Int) := by rw [IntKind.wrap_i64]; omega
        have H4 := Lib.hid hs4
        obtain ⟨⟨px, py⟩, hp⟩ : ∃ p, L[k]? = some p := ⟨_, List.getElem?_eq_getElem (by rw [HN.out]; exact hkn)⟩
        have hMk : M[k]? = some (px, py) := by rw [HHI.out k (Nat.le_refl _), hp]
        obtain ⟨⟨y0, y1⟩, y2, y3⟩ := HRW.out k _ hMk
        have hsp := HSM.out _ (List.mem_of_getElem? hp)
        have HLK := Lib.hid hp
        have v3 := HV3.out
        have ca := fun w1 => add_any px py cx cy w1
        unfold Sm2 at hsp
        simp only at hsp y0 y1
        rw [w64_id (n := px + cx) ⟨by omega, by omega⟩, w64_id (n := py + cy) ⟨by omega, by omega⟩] at ca
        clear hs4 hp hMk hsp v3
        go_upto_region 14 with fail
        generalize hwb : World.alloc _ (.cells #[.int .i64 px, .int .i64 py] _) = wb
        obtain ⟨gp, hgp⟩ : ∃ x, wr.heap.size = x := ⟨_, rfl⟩
        have HKB := Lib.hid (show Kp (fun b => b = g) w5 wb by rw [← hwb]; exact HK.out.alloc _)
        have HNB := Lib.hid (show Nw wr wb by rw [← hwb]; exact nw_alloc _ _)
        have HPB := Lib.hid (show Blk wb gp 23 #[.int .i64 px, .int .i64 py] by rw [← hwb, ← hgp]; exact Blk.new _ _ _)
        have HAB := Lib.hid ((HB0.out.nwA HK5.out).kp HKB.out (fun e => by have := HG.out; omega))
        have HRB := Lib.hid (HRW.out.nw (Nat.lt_of_lt_of_le HGL.out HK.out.size) HNB.out)
        try rw [hgp]
        clear hwb hgp y0 y1 y2 y3
        have z0 := HPB.out.cell 0
        have z1 := HPB.out.cell 1
        have z2 := HAB.out.cell 4
        have z3 := HAB.out.cell 5
        have hgw : g < wb.heap.size := Nat.lt_of_lt_of_le HGL.out HKB.out.size
        go_wp2_with (first | (go_at_call 29; ((with_reducible refine (ca _).mono ?_); rintro e w6 ⟨rfl, hk6⟩; have HK6 := Lib.hid hk6; have HR6 := Lib.hid (HRB.out.nw hgw hk6); (obtain ⟨⟨t0, t1⟩, t2, t3⟩ := HR6.out k _ (show M[k]? = some (px, py) by rw [HHI.out k (Nat.le_refl _), HLK.out])); clear hk6)) | fail)
        go_roundw
        case rel =>
          refine ⟨k + 1, M.set k (px + cx, py + cy), by rw [← H4.out], by omega, by rw [List.length_set]; exact HML.out, fun j hj => ?_, fun j hj => ?_, HR6.out.set_ (by rw [HML.out]; exact hkn) _ _, ((HKB.out.tr (Nw.kp HK6.out)).rcA _ _).rcA _ _⟩
          · rcases Nat.lt_or_ge j k with h | h
            · rw [List.getElem?_set_ne (by omega)]
              exact HLO.out j h
            · obtain rfl : j = k := by omega
              rw [List.getElem?_set_self (by rw [HML.out]; exact hkn), HLK.out]
              rfl
          · rw [List.getElem?_set_ne (by omega)]
            exact HHI.out j (by omega)
        case measure => (have := H4.out; simp [intOf]; try omega)
      · obtain rfl : k = n := by omega
        have i5 : ¬ ((k : Int) < (k : Int)) := by omega
        have hME : M = L.map (mvC cx cy) := by
          apply List.ext_getElem?
          intro j
          rw [List.getElem?_map]
          rcases Nat.lt_or_ge j k with hj | hj
          · exact HLO.out j hj
          · rw [HHI.out j hj, List.getElem?_eq_none (by rw [HN.out]; exact hj)]; rfl
        subst hME
        go_wp2_with fail
        go_ret2
        exact ⟨_, rfl, HRW.out.src (Nat.lt_of_lt_of_le HGL.out HK.out.size) (List.take_of_length_le (by rw [HML.out]; exact Nat.le_refl _)) HML.out HCAP.out.1 HCAP.out.2, Kp.own (HNW.out.tr HK5.out) HK.out (fun b e => by have := HG.out; have e2 : b = g := e; omega)⟩

end Go.Proofs.Ytlogihcmmoldkaa.W
