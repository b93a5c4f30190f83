/-
  ring: the document's example holds: awake returns true. No condition.
-/
import Derived.Test.YthifljljaejfmaaJ38
import Derived.Test.YthifljljaejfmaaJ40
import Derived.Test.YthifljljaejfmaaJ25
namespace Go.Proofs.Ythifljljaejfmaa.W
open Go.RowKit Go.Proofs.Ythifljljaejfmaa.V Go.Proofs.Ythifljljaejfmaa.G


def sqL (n : Int) : List Pt := [(0, 0), (n, 0), (n, n), (0, n)]
def awL : List Pt := [(4, 4), (4, 0), (2, 0), (0, 0), (0, 4)]
theorem aw8_clean : cleanR awL = (sqL 4, 0) := by decide +kernel
theorem aw8_area : area2R (sqL 4) = 32 := by decide +kernel
theorem aw8_in : whereR (sqL 4) 2 2 1 = 2 := by decide +kernel
theorem aw8_on : whereR (sqL 4) 4 1 1 = 1 := by decide +kernel
theorem aw8_out : whereR (sqL 4) 5 5 1 = 0 := by decide +kernel
theorem aw8_valid : validR (sqL 4) = true := by decide +kernel
theorem aw8_convex : convexR (sqL 4) = true := by decide +kernel

set_option maxRecDepth 100000 in
set_option maxHeartbeats 3200000 in
theorem square_any (n : Int) (w : World) : Calls Try.prog 11 #[.int .i64 n] w fun e w' => ∃ v', e = .returned v' ∧ SrcV w' v' (sqL n) ∧ Nw w w' := by
  have hb := Blk.new w 28 #[.int .i64 0, .int .i64 0, .int .i64 n, .int .i64 0, .int .i64 n, .int .i64 n, .int .i64 0, .int .i64 n]
  have hs := src_blk (l := sqL n) hb (by simp [sqL])
  go_enter Try.func11, Try.ntmps11
  go_wp2_with fail
  go_ret
  exact ⟨_, rfl, hs, nw_alloc _ _⟩

set_option maxRecDepth 100000 in
set_option maxHeartbeats 6400000 in
theorem awake8_any (w : World) : Calls Try.prog 4 #[] w fun e w' => e = .returned (.bool true) ∧ Nw w w' := by
  have hmix := mixed7
  have c0 := fun w1 => square_any 4 w1
  go_enter Try.func4, Try.ntmps4
  go_wp2_with fail
  with_reducible refine (c0 _).mono ?_
  rintro e w1 ⟨v1, rfl, s1, k1⟩
  have hb := Blk.new w1 28 #[.int .i64 4, .int .i64 4, .int .i64 4, .int .i64 0, .int .i64 2, .int .i64 0, .int .i64 0, .int .i64 0, .int .i64 0, .int .i64 4]
  have hs : SrcV _ (.slice (some ⟨w1.heap.size, 0, none⟩) 5 5) awL := src_blk (l := awL) hb (by simp [awL])
  have cc := clean_any awL _ _ hs (by simp [awL])
  rw [aw8_clean] at cc
  have hN1 := k1.alloc (.cells #[.int .i64 4, .int .i64 4, .int .i64 4, .int .i64 0, .int .i64 2, .int .i64 0, .int .i64 0, .int .i64 0, .int .i64 0, .int .i64 4] 28)
  have s1a := s1.nw (nw_alloc w1 (.cells #[.int .i64 4, .int .i64 4, .int .i64 4, .int .i64 0, .int .i64 2, .int .i64 0, .int .i64 0, .int .i64 0, .int .i64 0, .int .i64 4] 28))
  clear hs hb s1 k1 c0
  go_wp2_with fail
  with_reducible refine cc.mono ?_
  rintro e w2 ⟨v2, rfl, o2, k2⟩
  have s2 := o2.src
  have s1b := s1a.nw k2
  have h2 := hN1.tr k2
  clear cc o2 k2 s1a hN1
  have hl : (sqL 4).length ≤ 1099511627776 := by simp [sqL]
  have ca := fun w3 (h : Nw w2 w3) => area2_any (sqL 4) v1 w3 (s1b.nw h) hl
  have cx := fun w3 (h : Nw w2 w3) => where_any (sqL 4) v1 2 2 w3 (s1b.nw h) hl
  have cy := fun w3 (h : Nw w2 w3) => where_any (sqL 4) v1 4 1 w3 (s1b.nw h) hl
  have cz := fun w3 (h : Nw w2 w3) => where_any (sqL 4) v1 5 5 w3 (s1b.nw h) hl
  have cv := fun w3 (h : Nw w2 w3) => ringValid_any (sqL 4) v1 w3 (s1b.nw h) hl
  have cx2 := fun w3 (h : Nw w2 w3) => convex_any (sqL 4) v1 w3 (s1b.nw h) hl
  have cs := fun w3 (h : Nw w2 w3) => ringSame_any (sqL 4) (sqL 4) v2 v1 w3 (s2.nw h) (s1b.nw h)
  rw [aw8_area] at ca
  rw [aw8_in] at cx
  rw [aw8_on] at cy
  rw [aw8_out] at cz
  rw [aw8_valid] at cv
  rw [aw8_convex] at cx2
  simp only [decide_true] at cs
  have h0 : Nw w2 w2 := Kp.refl _ _
  have H2 := Lib.hid h2
  clear h2 s1b s2 hl
  go_wp2_with fail
  with_reducible refine (ca _ h0).mono ?_
  rintro e w3 ⟨rfl, k3⟩
  have h3 := (h0).tr k3
  go_wp2_with fail
  with_reducible refine (cx _ h3).mono ?_
  rintro e w4 ⟨rfl, k4⟩
  have h4 := (h3).tr k4
  go_wp2_with fail
  with_reducible refine (cy _ h4).mono ?_
  rintro e w5 ⟨rfl, k5⟩
  have h5 := (h4).tr k5
  go_wp2_with fail
  with_reducible refine (cz _ h5).mono ?_
  rintro e w6 ⟨rfl, k6⟩
  have h6 := (h5).tr k6
  go_wp2_with fail
  with_reducible refine (cv _ h6).mono ?_
  rintro e w7 ⟨rfl, k7⟩
  have h7 := (h6).tr k7
  go_wp2_with fail
  with_reducible refine (cx2 _ h7).mono ?_
  rintro e w8 ⟨rfl, k8⟩
  have h8 := (h7).tr k8
  go_wp2_with fail
  with_reducible refine (cs _ h8).mono ?_
  rintro e w9 ⟨rfl, k9⟩
  have h9 := (h8).tr k9
  go_wp2_with fail
  go_ret
  exact ⟨rfl, H2.out.tr h9⟩

end Go.Proofs.Ythifljljaejfmaa.W
