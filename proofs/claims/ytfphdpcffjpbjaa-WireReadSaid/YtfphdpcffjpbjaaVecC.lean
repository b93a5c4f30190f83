/-
  (*wire.cursor).vec: at a cursor the call reads two integers. Condition: what is left are bytes.
-/
import Derived.Test.YtfphdpcffjpbjaaListI
namespace Go.Proofs.Ytfphdpcffjpbjaa.W
open Go.RowKit Go.Proofs.Ytfphdpcffjpbjaa.Pl

def sVec : Step (Int × Int) := fun l f => (((sInt l f).1, (sInt (sInt l f).2.1 (sInt l f).2.2).1), (sInt (sInt l f).2.1 (sInt l f).2.2).2.1, (sInt (sInt l f).2.1 (sInt l f).2.2).2.2)
def IsVec (_ : World) (v : Value) (p : Int × Int) : Prop := v = .agg #[.int .i64 p.1, .int .i64 p.2]

theorem suf_trans {α β : Type} {s : Step α} {t : Step β} (hs : Suf s) (ht : Suf t) (l : List Int) (f f' : Bool) : ∃ k, (t (s l f).2.1 f').2.1 = l.drop k := by
  obtain ⟨k, hk⟩ := hs l f
  obtain ⟨j, hj⟩ := ht (s l f).2.1 f'
  exact ⟨k + j, by rw [hj, hk, List.drop_drop]⟩
theorem suf_sVec : Suf sVec := fun l f => suf_trans suf_sInt suf_sInt l f _
theorem sInt_failed (l : List Int) : (sInt l true).2.2 = true := by
  unfold sInt
  cases pInt l <;> rfl
theorem eats_sVec : Eats sVec := fun l h => by
  unfold sVec at h ⊢
  simp only at h ⊢
  cases h1 : (sInt l false).2.2 with
  | true => rw [h1, sInt_failed] at h; cases h
  | false =>
    have e1 := eats_sInt l h1
    have e2 := suf_le suf_sInt (sInt l false).2.1 false
    omega

/-- a block that was laid ahead of steps of a cursor -/
theorem kept_new {w w' : World} {o : Obj} {C : Nat} (hg : (w.alloc o).grownBy w' (some C)) (hC : C < w.heap.size) : w'.heap[w.heap.size]? = some o :=
  (hg.block w.heap.size (by simp) (by intro e; injection e with e; omega)).trans (heap_alloc_new w o)

theorem dec_late {α : Type} {Rv : World → Value → α → Prop} {s : Step α} {w w3 w4 : World} {o : Obj} {T C g : Nat} {l l' : List Int} {f f' : Bool} {v : Value} {x : α} (h : Rec w T C g l f) (hg : (w.alloc o).grownBy w3 (some C)) (hr : Rec w3 T C g l' f')
    (hs : s l f = (x, l', f')) (h4 : w3.grownBy w4 (some w.heap.size)) (hgl : l' ≠ [] → g < w.heap.size) (hv : Rv w4 v x) : Dec T Rv s w C g l f (.returned v) w4 := by
  have hC := h.lt
  refine ⟨v, rfl, by rw [hs]; exact hv, ?_, ?_⟩
  · rw [hs]
    exact hr.keep (h4.block C hr.lt (by intro e; injection e with e; omega)) (fun hl hlt => h4.block g hlt (by intro e; injection e with e; have := hgl hl; omega))
  · refine ⟨h4.os.trans hg.os, h4.tape.trans hg.tape, h4.output.trans hg.output, Nat.le_trans ?_ (Nat.le_trans hg.size h4.size), fun k hk hne => ?_⟩
    · simp
    · refine (h4.block k (Nat.lt_of_lt_of_le hk (Nat.le_trans (by simp) hg.size)) (by intro e; injection e with e; omega)).trans ((hg.block k (by simp; omega) hne).trans ?_)
      exact Below.heap_alloc w o k hk

set_option maxRecDepth 100000 in
set_option maxHeartbeats 400000 in
theorem vec_dec (C g : Nat) (l : List Int) (f : Bool) (w : World) (h : Rec w 107 C g l f) (hb : By l) :
    Calls Try.prog 76 #[.pointer (some ⟨C, 0, none⟩)] w (Dec 107 IsVec sVec w C g l f) := by
  obtain ⟨x, l1, f1, hs1⟩ : ∃ x l1 f1, sInt l f = (x, l1, f1) := ⟨_, _, _, rfl⟩
  obtain ⟨y, l2, f2, hs2⟩ : ∃ y l2 f2, sInt l1 f1 = (y, l2, f2) := ⟨_, _, _, rfl⟩
  have hs : sVec l f = ((x, y), l2, f2) := by unfold sVec; rw [hs1]; simp only; rw [hs2]
  have hb1 : By l1 := by have := suf_sInt.by_ (f := f) hb; rw [hs1] at this; exact this
  have hgl : l2 ≠ [] → g < w.heap.size := fun hn => by
    obtain ⟨_, _, hrr, _⟩ := id h
    refine hrr.lt_ ?_
    have := suf_sVec.ne (l := l) (f := f)
    rw [hs] at this
    exact this hn
  have hC := h.lt
  have h0 := h.below ((Below.refl _ _).alloc (Nat.le_refl _) (.cells #[.int .i64 0, .int .i64 0] 46))
  have HS1 := Lib.hid hs1
  have HS2 := Lib.hid hs2
  have HS := Lib.hid hs
  have HG := Lib.hid hgl
  clear hs1 hs2 hs hgl
  go_enter Try.func76, Try.ntmps76
  go_wp2_with fail
  refine (integer_dec C g l f _ h0 hb).mono ?_
  rintro e w1 ⟨v1, rfl, hv1, hrec1, hgr1⟩
  rw [HS1.out] at hv1 hrec1
  obtain rfl : v1 = .int .i64 x := hv1
  go_wp2_with fail
  refine (integer_dec C g l1 f1 _ hrec1 hb1).mono ?_
  rintro e w2 ⟨v2, rfl, hv2, hrec2, hgr2⟩
  rw [HS2.out] at hv2 hrec2
  obtain rfl : v2 = .int .i64 y := hv2
  have hgr := hgr1.trans hgr2
  have hV := kept_new hgr hC
  obtain ⟨q0, q1, q2, q3⟩ := two_cell hV
  clear hV
  go_wp2
  refine bodyPost_ret (v := .agg #[.int .i64 x, .int .i64 y]) (by simp [results, Try.results76, go_sem, q0, q1]) rfl ?_
  exact dec_late h hgr hrec2 HS.out ((grown_setCell _ _ _ _).trans (grown_setCell _ _ _ _)) HG.out rfl
end Go.Proofs.Ytfphdpcffjpbjaa.W
