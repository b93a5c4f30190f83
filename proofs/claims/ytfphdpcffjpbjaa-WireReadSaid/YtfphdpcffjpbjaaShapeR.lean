/-
  wire.read at shapes, (*wire.Reader).Shape: what the call returns and leaves. Conditions: what is left are bytes, at most 2^40; the reader's block is known.
-/
import Derived.Test.YtfphdpcffjpbjaaShapeC
namespace Go.Proofs.Ytfphdpcffjpbjaa.W
open Go.RowKit Go.Proofs.Ytfphdpcffjpbjaa.Pl

theorem rec_al {w : World} {T R g : Nat} {l : List Int} {f : Bool} (h : Rec w T R g l f) (o : Obj) : Rec (w.alloc o) T R g l f := h.below ((Below.refl _ _).alloc (Nat.le_refl _) o)
theorem dec_al {α : Type} {T : Nat} {Rv : World → Value → α → Prop} {s : Step α} {w : World} {o : Obj} {R g : Nat} {l : List Int} {f : Bool} {e : Ending} {w' : World} (h : Dec T Rv s (w.alloc o) R g l f e w') : Dec T Rv s w R g l f e w' := by
  obtain ⟨v, he, hv, hr, hg⟩ := h
  refine ⟨v, he, hv, hr, hg.os, hg.tape, hg.output, Nat.le_trans (by simp) hg.size, fun k hk hne => ?_⟩
  exact (hg.block k (by simp; omega) hne).trans (Below.heap_alloc w o k hk)
theorem dec_less {T : Nat} {s : Step Shp} {B B' : Nat} {w w' : World} {R g : Nat} {l : List Int} {f : Bool} {e : Ending} (h : Dec T (IsShape B) s w R g l f e w') (hB : B' ≤ B) : Dec T (IsShape B') s w R g l f e w' := by
  obtain ⟨v, he, hv, hr, hg⟩ := h
  exact ⟨v, he, hv.less hB, hr, hg⟩
/-- a block that was laid stays, behind steps of one of another -/
theorem kept_at {w w' : World} {b C : Nat} {o : Obj} (h : w.heap[b]? = some o) (hg : w.grownBy w' (some C)) (hne : b ≠ C) : w'.heap[b]? = some o :=
  (hg.block b (block_lt h) (by intro e; injection e with e; exact hne e)).trans h
theorem nilShape (B : Nat) (w : World) : IsShape B w (.agg #[.slice none 0 0, .slice none 0 0]) ([], []) := ⟨_, _, rfl, OwnV.nil _ _, OwnR.nil _ _⟩

set_option maxRecDepth 100000 in
set_option maxHeartbeats 1000000 in
theorem readShape_any (R g : Nat) (l : List Int) (f : Bool) (W : World) (h : Rec W 79 R g l f) (hb : By l) (hl : l.length ≤ 1099511627776) :
    Calls Try.prog 71 #[.pointer (some ⟨R, 0, none⟩), .func (.func 72) #[] #[]] W (Dec 79 (IsShape W.heap.size) (rd ([], []) sShape) W R g l f) := by
  have h0 := h
  obtain ⟨rest, h1, hr, h5⟩ := h
  obtain ⟨A, c, rfl, hlc, hcm, _⟩ := id hr
  obtain ⟨k0, k1, k2, k3⟩ := two_cell h1
  have hRl := h0.lt
  have hgl0 : l ≠ [] → g < W.heap.size := hr.lt_
  cases f with
  | true =>
    have hp : Dec 79 (IsShape W.heap.size) (rd ([], []) sShape) W R g l true (.returned (.agg #[.slice none 0 0, .slice none 0 0])) W := read_failed h0 (nilShape _ _)
    have hp2 := dec_after (X := W.heap.size) (w2 := (W.alloc (.cells #[.slice none 0 0, .slice none 0 0] 60)).alloc (.cells #[.slice none 0 0, .slice none 0 0] 60)) hp
      ((World.grownBy_alloc W _ _).trans (World.grownBy_alloc _ _ _)) (Nat.le_refl _) hRl hgl0 (fun v x hv => (hv.below ((Below.refl _ _).alloc (Nat.le_refl _) _)).below ((Below.refl _ _).alloc (Nat.le_refl _) _))
    clear h1 hr hp
    go_enter Try.func71, Try.ntmps71
    go_wp2
    refine bodyPost_ret (v := .agg #[.slice none 0 0, .slice none 0 0]) (by simp [results, Try.results71, go_sem]) rfl ?_
    exact hp2
  | false =>
    have hr2 := hr.keep (w' := (W.alloc (.cells #[.slice none 0 0, .slice none 0 0] 60)).alloc (.cells #[.slice none 0 0, .slice none 0 0] 60)) (fun _ hlt => (Below.heap_alloc _ _ _ (by simp; omega)).trans (Below.heap_alloc _ _ _ hlt))
    have hC := Rec.new (T := 107) (f := false) hr2 hr2.lt_
    have hW2 : ((W.alloc (.cells #[.slice none 0 0, .slice none 0 0] 60)).alloc (.cells #[.slice none 0 0, .slice none 0 0] 60)).heap.size = W.heap.size + 1 + 1 := by simp
    rw [hW2] at hC
    have hR2 := rec_al (rec_al h0 (.cells #[.slice none 0 0, .slice none 0 0] 60)) (.cells #[.slice none 0 0, .slice none 0 0] 60)
    have hR' := rec_al hR2 (.cells #[.slice A l.length c, .bool false] 107)
    have hne : R ≠ W.heap.size + 1 + 1 := by omega
    have HW2 := Lib.hid hW2
    clear h1 hr h5 hW2
    have hgl1 : (sShape l false).2.1 ≠ [] → g < W.heap.size := fun hn => hgl0 (suf_sShape.ne hn)
    have HGL := Lib.hid hgl1
    have HG0 := Lib.hid hgl0
    clear hgl1 hgl0
    cases hs : (sShape l false).2.2 with
    | true =>
      have HS := Lib.hid hs
      clear hs
      go_enter Try.func71, Try.ntmps71
      go_wp2_with fail
      refine (shape_dec (W.heap.size + 1 + 1) g l false _ hC hb hl).mono ?_
      rintro e w2 ⟨v2, rfl, hv2, hrec, hgr⟩
      obtain ⟨ov, hv, rfl, ho1, ho2⟩ := id hv2
      obtain ⟨Ao, co, rfl⟩ := (own_src ho1).shape
      obtain ⟨Ah, ch, rfl⟩ := OwnR.shape ho2
      rw [HS.out] at hrec
      have hgr3 := hgr.trans (World.grownBy_alloc w2 (.cells #[.slice Ao (sShape l false).1.1.length co, .slice Ah (sShape l false).1.2.length ch] 60) (some (W.heap.size + 1 + 1)))
      have hrec3 := rec_al hrec (.cells #[.slice Ao (sShape l false).1.1.length co, .slice Ah (sShape l false).1.2.length ch] 60)
      have hv3 := hv2.below ((Below.refl _ _).alloc (Nat.le_refl _) (.cells #[.slice Ao (sShape l false).1.1.length co, .slice Ah (sShape l false).1.2.length ch] 60))
      obtain ⟨rest1, rest2, ⟨q0, q1, q2, q3⟩, ⟨q4, q5⟩, hr3⟩ := behind hR' hrec3 hgr3 hne
      have b0 := two_cell (kept_at (b := W.heap.size) (o := .cells #[.slice none 0 0, .slice none 0 0] 60) (by
        rw [Below.heap_alloc _ _ _ (by simp; omega), Below.heap_alloc _ _ _ (by simp)]
        exact heap_alloc_new W _) hgr3 (by omega))
      have b1 := two_cell (kept_at (b := W.heap.size + 1) (o := .cells #[.slice none 0 0, .slice none 0 0] 60) (by
        rw [Below.heap_alloc _ _ _ (by simp)]
        have := heap_alloc_new (W.alloc (.cells #[.slice none 0 0, .slice none 0 0] 60)) (.cells #[.slice none 0 0, .slice none 0 0] 60)
        simpa using this) hgr3 (by omega))
      obtain ⟨e0, e1, e2, e3⟩ := b0
      obtain ⟨z0, z1, z2, z3⟩ := b1
      have hsz := hgr.size
      simp at hsz
      have HV := Lib.hid hv3
      have HREC := Lib.hid hrec3
      have HR3 := Lib.hid hr3
      clear hv2 hv3 ho1 ho2 hrec hrec3 hr3 hC hR' hgr
      go_wp2
      refine bodyPost_ret (v := .agg #[.slice none 0 0, .slice none 0 0]) (by simp [results, Try.results71, go_sem, e0, e1]) rfl ?_
      have hd := dec_al (dec_al (read_bad (Rv := IsShape (W.heap.size + 1)) (z := ([], [])) hR2 (by rw [HW2.out]; exact hgr3) HS.out (fun _ => nilShape _ _)))
      refine dec_less (dec_after (X := W.heap.size) hd ((grown_setCell _ _ _ _).trans (grown_setCell _ _ _ _)) (Nat.le_refl _) hRl ?_ (fun v x hv => (hv.row (grown_setCell _ W.heap.size _ _) (by omega)).row (grown_setCell _ W.heap.size _ _) (by omega))) (Nat.le_succ _)
      rw [rd_bad HS.out]
      exact HG0.out
    | false =>
      have HS := Lib.hid hs
      clear hs
      go_enter Try.func71, Try.ntmps71
      go_wp2_with fail
      refine (shape_dec (W.heap.size + 1 + 1) g l false _ hC hb hl).mono ?_
      rintro e w2 ⟨v2, rfl, hv2, hrec, hgr⟩
      obtain ⟨ov, hv, rfl, ho1, ho2⟩ := id hv2
      obtain ⟨Ao, co, rfl⟩ := (own_src ho1).shape
      obtain ⟨Ah, ch, rfl⟩ := OwnR.shape ho2
      rw [HS.out] at hrec
      have hgr3 := hgr.trans (World.grownBy_alloc w2 (.cells #[.slice Ao (sShape l false).1.1.length co, .slice Ah (sShape l false).1.2.length ch] 60) (some (W.heap.size + 1 + 1)))
      have hrec3 := rec_al hrec (.cells #[.slice Ao (sShape l false).1.1.length co, .slice Ah (sShape l false).1.2.length ch] 60)
      have hv3 := hv2.below ((Below.refl _ _).alloc (Nat.le_refl _) (.cells #[.slice Ao (sShape l false).1.1.length co, .slice Ah (sShape l false).1.2.length ch] 60))
      obtain ⟨rest1, rest2, ⟨q0, q1, q2, q3⟩, ⟨q4, q5⟩, hr3⟩ := behind hR' hrec3 hgr3 hne
      have b0 := two_cell (kept_at (b := W.heap.size) (o := .cells #[.slice none 0 0, .slice none 0 0] 60) (by
        rw [Below.heap_alloc _ _ _ (by simp; omega), Below.heap_alloc _ _ _ (by simp)]
        exact heap_alloc_new W _) hgr3 (by omega))
      have b1 := two_cell (kept_at (b := W.heap.size + 1) (o := .cells #[.slice none 0 0, .slice none 0 0] 60) (by
        rw [Below.heap_alloc _ _ _ (by simp)]
        have := heap_alloc_new (W.alloc (.cells #[.slice none 0 0, .slice none 0 0] 60)) (.cells #[.slice none 0 0, .slice none 0 0] 60)
        simpa using this) hgr3 (by omega))
      obtain ⟨e0, e1, e2, e3⟩ := b0
      obtain ⟨z0, z1, z2, z3⟩ := b1
      have hsz := hgr.size
      simp at hsz
      obtain ⟨A3, c3, rfl, _⟩ := id hr3
      have HV := Lib.hid hv3
      have HREC := Lib.hid hrec3
      have HR3 := Lib.hid hr3
      clear hv2 hv3 ho1 ho2 hrec hrec3 hr3 hC hR' hgr
      go_wp2
      refine bodyPost_ret (v := .agg #[.slice Ao (sShape l false).1.1.length co, .slice Ah (sShape l false).1.2.length ch]) (by simp [results, Try.results71, go_sem, e0, e1]) rfl ?_
      have hd := dec_al (dec_al (read_good (Rv := IsShape (W.heap.size + 1)) (z := ([], [])) hR2 (by rw [HW2.out]; exact hgr3) HS.out HR3.out ((HV.out.row (grown_setCell _ R 0 _) (by simp; omega)).less (by simp)) suf_sShape.ne))
      refine dec_less (dec_after (X := W.heap.size) hd ((grown_setCell _ _ _ _).trans (grown_setCell _ _ _ _)) (Nat.le_refl _) hRl ?_ (fun v x hv => (hv.row (grown_setCell _ W.heap.size _ _) (by omega)).row (grown_setCell _ W.heap.size _ _) (by omega))) (Nat.le_succ _)
      rw [rd_good HS.out]
      exact HGL.out

set_option maxRecDepth 100000 in
set_option maxHeartbeats 400000 in
theorem rShape_any (R g : Nat) (l : List Int) (f : Bool) (w : World) (h : Rec w 79 R g l f) (hb : By l) (hl : l.length ≤ 1099511627776) :
    Calls Try.prog 32 #[.pointer (some ⟨R, 0, none⟩)] w (Dec 79 (IsShape w.heap.size) (rd ([], []) sShape) w R g l f) := by
  have hRl := h.lt
  have hgl0 : l ≠ [] → g < w.heap.size := fun hn => by
    obtain ⟨_, _, hrr, _⟩ := id h
    exact hrr.lt_ hn
  have hgl : (rd ([], []) sShape l f).2.1 ≠ [] → g < w.heap.size := by
    unfold rd
    split
    · exact hgl0
    · split
      · exact hgl0
      · exact fun hn => hgl0 (suf_sShape.ne hn)
  have HGL := Lib.hid hgl
  clear hgl hgl0
  have h1 := rec_al h (.cells #[.slice none 0 0, .slice none 0 0] 60)
  go_enter Try.func32, Try.ntmps32
  go_wp2_with fail
  refine (readShape_any R g l f _ h1 hb hl).mono ?_
  rintro e w2 hd
  obtain ⟨v2, rfl, hv2, hrec, hgr⟩ := id hd
  obtain ⟨ov, hv, rfl, ho1, ho2⟩ := id hv2
  obtain ⟨Ao, co, rfl⟩ := (own_src ho1).shape
  obtain ⟨Ah, ch, rfl⟩ := OwnR.shape ho2
  obtain ⟨e0, e1, e2, e3⟩ := two_cell (kept_at (heap_alloc_new w _) hgr (by omega))
  have HD := Lib.hid hd
  clear hd hv2 ho1 ho2 hrec hgr h1
  go_wp2
  refine bodyPost_ret (v := .agg #[.slice Ao (rd ([], []) sShape l f).1.1.length co, .slice Ah (rd ([], []) sShape l f).1.2.length ch]) (by simp [results, Try.results32, go_sem, e0, e1]) rfl ?_
  refine dec_less (B := w.heap.size + 1) (dec_after (X := w.heap.size) (dec_al (dec_less (B' := w.heap.size + 1) HD.out (by simp))) ((grown_setCell _ _ _ _).trans (grown_setCell _ _ _ _)) (Nat.le_refl _) hRl HGL.out (fun v x hv => (hv.row (grown_setCell _ w.heap.size _ _) (by omega)).row (grown_setCell _ w.heap.size _ _) (by omega))) (Nat.le_succ _)
end Go.Proofs.Ytfphdpcffjpbjaa.W
