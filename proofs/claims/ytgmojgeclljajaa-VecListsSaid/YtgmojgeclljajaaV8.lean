/-
  VecLists: the call returns true. No condition.
-/
import Derived.Test.YtgmojgeclljajaaVCs
import Derived.Test.YtgmojgeclljajaaVK
import Derived.Test.YtgmojgeclljajaaVA
import Derived.Test.YtgmojgeclljajaaVB
import Derived.Test.YtgmojgeclljajaaGE
namespace Go.Proofs.Ytgmojgeclljajaa.W
open Go.RowKit Go.Proofs.Ytgmojgeclljajaa.V

set_option maxRecDepth 100000 in
set_option maxHeartbeats 6400000 in
theorem vecLists_any (l : List (Int × Int)) (v : Value) (lx ly hx hy ax ay : Int) (w : World) (hv : SrcV w v l) : Calls Try.prog 5 #[v, .agg #[.int .i64 lx, .int .i64 ly, .int .i64 hx, .int .i64 hy], vV ax ay] w fun e w' => e = .returned (.bool true) ∧ Nw w w' := by
  have c0 := fun w1 => awake_any w1
  obtain ⟨A, c, rfl⟩ := hv.shape
  have hmx : l.length ≤ maxLen := by obtain ⟨_, _, _, _, h1, h2, _⟩ := hv; omega
  unfold maxLen at hmx
  obtain ⟨n, hn⟩ : ∃ n, l.length = n := ⟨_, rfl⟩
  have HN := Lib.hid hn
  have HV := Lib.hid (show SrcV w (.slice A n c) l by rw [← hn]; exact hv)
  rw [hn] at hmx
  clear hv
  rw [hn]
  clear hn
  by_cases hb : 40 < n
  · have e2 : decide ((n : Int) > 40) = true := decide_eq_true (by omega)
    go_enter Try.func5, Try.ntmps5
    go_wp2_with fail
    with_reducible refine (c0 _).mono ?_
    rintro e w1 ⟨rfl, hk⟩
    go_wp2
    go_ret
    exact ⟨rfl, ((nw_alloc _ _).alloc _).tr hk⟩
  · have e2 : decide ((n : Int) > 40) = false := decide_eq_false (by omega)
    have cb := fun w1 h => boxOf_any l (.slice A n c) w1 h
    have cr := fun w1 h => rboxOf_any l (.slice A n c) w1 h
    have cs := fun w1 h => sorted_any l (.slice A n c) w1 h (by rw [HN.out]; omega)
    have ct := fun w1 h => rsorted_any l (.slice A n c) w1 h (by rw [HN.out]; omega)
    rw [← ins_dd] at cs
    have ck := fun u1 u2 w1 h1 h2 => same_any (insAll l) u1 u2 w1 h1 h2
    have ci := fun w1 => inBox_any lx ly hx hy ax ay w1
    have cj := fun w1 => rinBox_any lx ly hx hy ax ay w1
    have HI := Lib.hid (And.intro ck (And.intro ci cj))
    have HT := Lib.hid (And.intro cs ct)
    clear ck ci cj cs ct
    generalize boxOf l = bo at *
    obtain ⟨⟨bx, bz, cx, cy⟩, ok⟩ := bo
    have hW0 : Nw w ((w.alloc (.cells #[.int .i64 lx, .int .i64 ly, .int .i64 hx, .int .i64 hy] 38)).alloc (.cells #[.int .i64 ax, .int .i64 ay] 23)) := (nw_alloc _ _).alloc _
    have hB0 : ∀ w', Nw ((w.alloc (.cells #[.int .i64 lx, .int .i64 ly, .int .i64 hx, .int .i64 hy] 38)).alloc (.cells #[.int .i64 ax, .int .i64 ay] 23)) w' → Blk w' w.heap.size 38 #[.int .i64 lx, .int .i64 ly, .int .i64 hx, .int .i64 hy] ∧ Blk w' (w.heap.size + 1) 23 #[.int .i64 ax, .int .i64 ay] := fun w' h => ⟨((Blk.new_at w 38 #[.int .i64 lx, .int .i64 ly, .int .i64 hx, .int .i64 hy] (n := w.heap.size) rfl).alloc _).kp h id, (Blk.new_at _ 23 #[.int .i64 ax, .int .i64 ay] (n := w.heap.size + 1) (by simp)).kp h id⟩
    have HW := Lib.hid hW0
    have HB := Lib.hid hB0
    clear hW0 hB0
    go_enter Try.func5, Try.ntmps5
    go_wp2_with fail
    with_reducible refine (c0 _).mono ?_
    rintro e w1 ⟨rfl, hk⟩
    have HW := Lib.hid (HW.out.tr hk)
    have HB := Lib.hid (fun w' h => HB.out w' (hk.tr h))
    clear hk
    go_wp2_with fail
    with_reducible refine (cb _ (HV.out.nw HW.out)).mono ?_
    rintro e w2 ⟨rfl, hk⟩
    obtain ⟨g1, hg1⟩ : ∃ g1, w2.heap.size = g1 := ⟨_, rfl⟩
    have h1 := Blk.new_at w2 38 #[.int .i64 bx, .int .i64 bz, .int .i64 cx, .int .i64 cy] hg1
    have HW := Lib.hid (HW.out.tr (hk.alloc (.cells #[.int .i64 bx, .int .i64 bz, .int .i64 cx, .int .i64 cy] 38)))
    have HB := Lib.hid (fun w' h => HB.out w' ((hk.alloc (.cells #[.int .i64 bx, .int .i64 bz, .int .i64 cx, .int .i64 cy] 38)).tr h))
    have H1 := Lib.hid h1
    clear hk h1
    go_wp2_with fail
    with_reducible refine (cr _ (HV.out.nw HW.out)).mono ?_
    rintro e w3 ⟨rfl, hk⟩
    obtain ⟨g2, hg2⟩ : ∃ g2, w3.heap.size = g2 := ⟨_, rfl⟩
    have h1 := Blk.new_at w3 38 #[.int .i64 bx, .int .i64 bz, .int .i64 cx, .int .i64 cy] hg2
    have hka := hk.alloc (.cells #[.int .i64 bx, .int .i64 bz, .int .i64 cx, .int .i64 cy] 38)
    have HB := Lib.hid (show ∀ w', Nw _ w' → w'.cell? (⟨w.heap.size, 0, none⟩ : Addr) = some (.int .i64 lx) ∧ w'.cell? (⟨w.heap.size, 1, none⟩ : Addr) = some (.int .i64 ly) ∧ w'.cell? (⟨w.heap.size, 2, none⟩ : Addr) = some (.int .i64 hx) ∧ w'.cell? (⟨w.heap.size, 3, none⟩ : Addr) = some (.int .i64 hy) ∧ w'.cell? (⟨w.heap.size + 1, 0, none⟩ : Addr) = some (.int .i64 ax) ∧ w'.cell? (⟨w.heap.size + 1, 1, none⟩ : Addr) = some (.int .i64 ay) ∧ w'.cell? (⟨g1, 0, none⟩ : Addr) = some (.int .i64 bx) ∧ w'.cell? (⟨g1, 1, none⟩ : Addr) = some (.int .i64 bz) ∧ w'.cell? (⟨g1, 2, none⟩ : Addr) = some (.int .i64 cx) ∧ w'.cell? (⟨g1, 3, none⟩ : Addr) = some (.int .i64 cy) ∧ w'.cell? (⟨g2, 0, none⟩ : Addr) = some (.int .i64 bx) ∧ w'.cell? (⟨g2, 1, none⟩ : Addr) = some (.int .i64 bz) ∧ w'.cell? (⟨g2, 2, none⟩ : Addr) = some (.int .i64 cx) ∧ w'.cell? (⟨g2, 3, none⟩ : Addr) = some (.int .i64 cy) from fun w' h => by
      obtain ⟨a, b⟩ := HB.out w' (hka.tr h)
      have c := (H1.out.kp hka id).kp h id
      have d := h1.kp h id
      exact ⟨a.cell 0, a.cell 1, a.cell 2, a.cell 3, b.cell 0, b.cell 1, c.cell 0, c.cell 1, c.cell 2, c.cell 3, d.cell 0, d.cell 1, d.cell 2, d.cell 3⟩)
    have HW := Lib.hid (HW.out.tr hka)
    obtain ⟨w4, hw4⟩ : ∃ w4, w3.alloc (.cells #[.int .i64 bx, .int .i64 bz, .int .i64 cx, .int .i64 cy] 38) = w4 := ⟨_, rfl⟩
    rw [hw4] at HB HW
    clear hk h1 hka
    have hq := fun w1 => eql_box bx bz cx cy bx bz cx cy w1
    simp only [beq_self_eq_true, Bool.and_self] at hq
    have e3 : (ok == ok) = true := by simp
    obtain ⟨ib, hib⟩ : ∃ ib, inBoxV lx ly hx hy ax ay = ib := ⟨_, rfl⟩
    have e4 : (ib == ib) = true := by simp
    rw [hib] at HI
    obtain ⟨ck, ci, cj⟩ := HI.out
    obtain ⟨cs, ct⟩ := HT.out
    clear cb cr
    go_wp2_with fail
    (try rw [hw4])
    clear hw4
    go_region_held3 (fun w' : World => w'.cell? (⟨w.heap.size, 0, none⟩ : Addr) = some (.int .i64 lx) ∧ w'.cell? (⟨w.heap.size, 1, none⟩ : Addr) = some (.int .i64 ly) ∧ w'.cell? (⟨w.heap.size, 2, none⟩ : Addr) = some (.int .i64 hx) ∧ w'.cell? (⟨w.heap.size, 3, none⟩ : Addr) = some (.int .i64 hy) ∧ w'.cell? (⟨w.heap.size + 1, 0, none⟩ : Addr) = some (.int .i64 ax) ∧ w'.cell? (⟨w.heap.size + 1, 1, none⟩ : Addr) = some (.int .i64 ay) ∧ w'.cell? (⟨g1, 0, none⟩ : Addr) = some (.int .i64 bx) ∧ w'.cell? (⟨g1, 1, none⟩ : Addr) = some (.int .i64 bz) ∧ w'.cell? (⟨g1, 2, none⟩ : Addr) = some (.int .i64 cx) ∧ w'.cell? (⟨g1, 3, none⟩ : Addr) = some (.int .i64 cy) ∧ w'.cell? (⟨g2, 0, none⟩ : Addr) = some (.int .i64 bx) ∧ w'.cell? (⟨g2, 1, none⟩ : Addr) = some (.int .i64 bz) ∧ w'.cell? (⟨g2, 2, none⟩ : Addr) = some (.int .i64 cx) ∧ w'.cell? (⟨g2, 3, none⟩ : Addr) = some (.int .i64 cy))
      (first | exact HB.out _ (Kp.refl _ _) | exact HB.out _ (Kp.drew (Kp.refl _ _)) | exact HB.out _ hb | fail)
      (first
        | (go_at_call 44; ((with_reducible refine (cs _ (HV.out.nw (HW.out.tr (Kp.drew (Kp.refl _ _))))).mono ?_); rintro e y1 ⟨v1, rfl, hs1, hk⟩; have hb : Nw w4 y1 := (Kp.drew (Kp.refl _ _)).tr hk))
        | (go_at_call 45; ((with_reducible refine (ct _ (HV.out.nw (HW.out.tr hb))).mono ?_); rintro e y2 ⟨v2, rfl, hs2, hk⟩; have hs1 := hs1.nw hk; have hb : Nw w4 y2 := hb.tr hk))
        | (go_at_call 43; ((with_reducible refine (ck _ _ _ hs1 hs2).mono ?_); rintro e y3 ⟨rfl, hk⟩; have hb : Nw w4 y3 := hb.tr hk))
        | (go_at_call 46; ((with_reducible refine (ci _).mono ?_); rintro e y4 ⟨rfl, hk⟩; have hb : Nw w4 y4 := hb.tr hk))
        | (go_at_call 47; ((with_reducible refine (cj _).mono ?_); rintro e y5 ⟨rfl, hk⟩; have hb : Nw w4 y5 := hb.tr hk)))
    all_goals (go_wp2; go_ret; exact ⟨rfl, HW.out.tr hb⟩)
end Go.Proofs.Ytgmojgeclljajaa.W
