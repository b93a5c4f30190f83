/-
  (*wire.cursor).integer: at a cursor the call reads an integer off the bytes that are left, or marks the failure; nothing but the cursor's block turns. Condition: what is left are bytes.
-/
import Derived.Test.YtfphdpcffjpbjaaRec
import Derived.Test.YtfphdpcffjpbjaaSize
import Derived.BigQuiet
import Derived.Deep.QuietTactic
namespace Go.Proofs.Ytfphdpcffjpbjaa.W
open Go.RowKit Go.Proofs.Ytfphdpcffjpbjaa.Pl

def IntPost (w : World) (C g : Nat) (l : List Int) (f : Bool) (e : Ending) (w' : World) : Prop :=
  e = .returned (.int .i64 (sInt l f).1) ∧ Rec w' 107 C g (sInt l f).2.1 (sInt l f).2.2 ∧ w.grownBy w' (some C)

theorem intPost_fail {w : World} {C g : Nat} {l : List Int} {f : Bool} (h : Rec w 107 C g l f) (hs : sInt l f = (0, l, true)) :
    IntPost w C g l f (.returned (.int .i64 0)) (w.setCell ⟨C, 1, none⟩ (.bool true)) := by
  unfold IntPost
  rw [hs]
  exact ⟨rfl, h.fail, grown_setCell _ _ _ _⟩
theorem intPost_fail_drewN {w : World} {C g : Nat} {l : List Int} {f : Bool} (n : Nat) (h : Rec w 107 C g l f) (hs : sInt l f = (0, l, true)) :
    IntPost w C g l f (.returned (.int .i64 0)) ((w.setCell ⟨C, 1, none⟩ (.bool true)).drewN n) := by
  obtain ⟨h1, h2, h3⟩ := intPost_fail h hs
  exact ⟨h1, h2, ⟨h3.os, h3.tape, h3.output, h3.size, h3.block⟩⟩

set_option maxRecDepth 100000 in
set_option maxHeartbeats 400000 in
theorem integer_nil (C g : Nat) (f : Bool) (w : World) (h : Rec w 107 C g [] f) :
    Calls Try.prog 57 #[.pointer (some ⟨C, 0, none⟩)] w (IntPost w C g [] f) := by
  have hp := intPost_fail h (sInt_nil f)
  obtain ⟨rest, h1, ⟨A, c, rfl, h2, h3, h4⟩, h5⟩ := h
  obtain ⟨k0, k1, k2, k3⟩ := two_cell h1
  clear h1 h4 h5
  go_enter Try.func57, Try.ntmps57
  go_wp2
  go_ret
  exact hp

set_option maxRecDepth 100000 in
set_option maxHeartbeats 400000 in
theorem integer_long (C g : Nat) (s : Int) (t : List Int) (f : Bool) (w : World) (h : Rec w 107 C g (s :: t) f) (hb : By (s :: t)) (hl : 8 < s ∨ t.length < s.toNat) :
    Calls Try.prog 57 #[.pointer (some ⟨C, 0, none⟩)] w (IntPost w C g (s :: t) f) := by
  have hp := intPost_fail h (sInt_long f hl)
  obtain ⟨rest, h1, ⟨A, c, rfl, h2, h3, h4⟩, h5⟩ := h
  obtain ⟨o, rfl, hc⟩ := h4 (by simp)
  have hc0 := hc 0 s rfl
  rw [Nat.add_zero] at hc0
  obtain ⟨k0, k1, k2, k3⟩ := two_cell h1
  have hs := hb.head
  clear h1 h4 h5 hc
  obtain ⟨n, hn⟩ : ∃ n, n = (s :: t).length := ⟨_, rfl⟩
  rw [← hn] at h2 k0
  have hn1 : 1 ≤ n := by simp at hn; omega
  have hl2 : 8 < s ∨ (n : Int) ≤ s := by simp at hn; omega
  have hn2 : (n : Int) ≤ 9223372036854775807 := by unfold maxLen at h3; omega
  clear hn hl h3
  by_cases h8 : 8 < s
  · have hd : decide (8 < s) = true := decide_eq_true h8
    clear hl2
    go_enter Try.func57, Try.ntmps57
    go_wp2
    go_ret
    exact hp
  · have hd : decide (8 < s) = false := decide_eq_false h8
    have hl3 : (n : Int) ≤ s := by omega
    clear hl2
    go_enter Try.func57, Try.ntmps57
    go_wp2
    go_ret
    exact hp

theorem intPost_good {w : World} {C g : Nat} {l r : List Int} {f : Bool} {n : Int} {v : Value} (h : Rec w 107 C g l f) (hs : sInt l f = (n, r, f)) (hv : Rest w g v r) (hr : r ≠ [] → l ≠ []) :
    IntPost w C g l f (.returned (.int .i64 n)) (w.setCell ⟨C, 0, none⟩ v) := by
  unfold IntPost
  rw [hs]
  exact ⟨rfl, h.rest hv hr, grown_setCell _ _ _ _⟩

set_option maxRecDepth 100000 in
set_option maxHeartbeats 400000 in
theorem integer_zero (C g : Nat) (t : List Int) (f : Bool) (w : World) (h : Rec w 107 C g (0 :: t) f) :
    Calls Try.prog 57 #[.pointer (some ⟨C, 0, none⟩)] w (IntPost w C g (0 :: t) f) := by
  have hs : sInt (0 :: t) f = (0, t, f) := sInt_good (s := 0) f (by simp) rfl
  have hp := fun v hv => intPost_good (v := v) h hs hv (by simp)
  obtain ⟨rest, h1, hr, h5⟩ := h
  obtain ⟨o, n, c, rfl⟩ := hr.form (by simp)
  obtain ⟨hn, h2, h3⟩ := hr.len
  have hadv := hr.adv (k := 1) (by simp at hn; omega)
  have hc0 := hr.at_ (i := 0) rfl
  rw [Nat.add_zero] at hc0
  obtain ⟨k0, k1, k2, k3⟩ := two_cell h1
  have hn1 : 1 ≤ n := by simp at hn; omega
  have hn2 : (n : Int) ≤ 9223372036854775807 := by unfold maxLen at h3; omega
  have hnt : c = 1 → t = [] ∧ n = 1 := fun e => by
    have : t.length = 0 := by simp at hn; omega
    exact ⟨List.eq_nil_of_length_eq_zero this, by omega⟩
  have HNT := Lib.hid hnt
  have HP := Lib.hid hp
  have HA := Lib.hid hadv
  clear hnt hp hadv hn h1 h5 hr hs
  by_cases hc1 : c = 1
  · obtain ⟨rfl, rfl⟩ := HNT.out hc1
    subst hc1
    go_enter Try.func57, Try.ntmps57
    go_wp2_with fail
    refine wp_loop_rounds 1 ?_
    rw [rounds_succ]
    go_wp2
    go_ret
    exact HP.out _ (Rest.none_ w g _ _ (Nat.zero_le _))
  · clear HNT
    go_enter Try.func57, Try.ntmps57
    go_wp2_with fail
    refine wp_loop_rounds 1 ?_
    rw [rounds_succ]
    go_wp2
    go_ret
    exact HP.out _ HA.out

set_option maxRecDepth 100000 in
set_option maxHeartbeats 400000 in
theorem integer_pos (C g : Nat) (k : Nat) (t : List Int) (f : Bool) (w : World) (h : Rec w 107 C g ((k : Int) :: t) f) (hb : By t) (hk1 : 1 ≤ k) (hk8 : k ≤ 8) (hkt : k ≤ t.length) :
    Calls Try.prog 57 #[.pointer (some ⟨C, 0, none⟩)] w (IntPost w C g ((k : Int) :: t) f) := by
  obtain ⟨x, hx⟩ : ∃ x, x = t.take k := ⟨_, rfl⟩
  have hxl : x.length = k := by rw [hx]; simp; omega
  have hxb : By x := by rw [hx]; exact hb.take k
  have hgood : sz (val x) = k → ∀ v, Rest w g v (t.drop k) → IntPost w C g ((k : Int) :: t) f (.returned (.int .i64 (val x))) (w.setCell ⟨C, 0, none⟩ v) := fun hz v hv => by
    have hs := sInt_good (s := (k : Int)) (t := t) f (by omega) (by rw [Int.toNat_natCast, ← hx]; exact hz)
    rw [Int.toNat_natCast, ← hx] at hs
    exact intPost_good h hs hv (by simp)
  have hbad : sz (val x) ≠ k → IntPost w C g ((k : Int) :: t) f (.returned (.int .i64 0)) (w.setCell ⟨C, 1, none⟩ (.bool true)) := fun hz =>
    intPost_fail h (sInt_bad (s := (k : Int)) f (by omega) (by rw [Int.toNat_natCast, ← hx]; exact hz))
  have hi64 : I64 (val x) := val_i64 hxb (by omega)
  obtain ⟨rest, h1, hr, h5⟩ := h
  obtain ⟨o, n, c, rfl⟩ := hr.form (by simp)
  obtain ⟨hn, h2, h3⟩ := hr.len
  have hcell := fun j y (hy : x[j]? = some y) => hr.at_ (i := 1 + j) (x := y) (by
    rw [Nat.add_comm, List.getElem?_cons_succ, ← hy, hx, List.getElem?_take]
    have : j < x.length := (List.getElem?_eq_some_iff.1 hy).1
    rw [if_pos (by omega)])
  have hadv : Rest w g (.slice (some ⟨g, o + (1 + k), none⟩) (n - (1 + k)) (c - (1 + k))) (t.drop k) := by
    have := hr.adv (k := 1 + k) (by simp at hn; omega)
    rwa [show List.drop (1 + k) ((k : Int) :: t) = t.drop k from by rw [Nat.add_comm]; rfl] at this
  have hc0 := hr.at_ (i := 0) rfl
  rw [Nat.add_zero] at hc0
  obtain ⟨k0, k1, k2, k3⟩ := two_cell h1
  have hn1 : 1 + k ≤ n := by simp at hn; omega
  have hn2 : (n : Int) ≤ 9223372036854775807 := by unfold maxLen at h3; omega
  have hd : decide (8 < (k : Int)) = false := decide_eq_false (by omega)
  have hn0 : ((n : Int) == 0) = false := by rw [beq_eq_false_iff_ne]; omega
  have hend : n = 1 + k → t.drop k = [] := fun e => by
    apply List.drop_eq_nil_of_le
    simp at hn
    omega
  have HX := Lib.hid hx
  have HXL := Lib.hid hxl
  have HN := Lib.hid hn
  have HG := Lib.hid hgood
  have HF := Lib.hid hbad
  have HC := Lib.hid hcell
  have HA := Lib.hid hadv
  have HE := Lib.hid hend
  clear hx hxl hn hgood hbad hcell hadv hend h1 h5 hr hb hkt
  go_enter Try.func57, Try.ntmps57
  go_wp2_with fail
  go_loop [4, 43] (fun v i => ∃ j : Nat, j ≤ k ∧ i = .int .i64 j ∧ v = .int .i64 (val (x.take j))) (fun _ i => k - (intOf i).toNat)
  case atStart => exact ⟨0, by omega, rfl, rfl⟩
  case round =>
    obtain ⟨j, hj, rfl, rfl⟩ := hrel
    by_cases hlt : j < k
    · obtain ⟨y, hy⟩ : ∃ y, x[j]? = some y := ⟨x[j]'(by rw [HXL.out]; exact hlt), List.getElem?_eq_getElem _⟩
      have hyb := hxb y (List.mem_of_getElem? hy)
      have hcy := HC.out j y hy
      rw [← Nat.add_assoc] at hcy
      have hr1 := val_i56 (hxb.take j) (by simp; omega)
      have HY := Lib.hid hy
      clear hy
      by_cases hj0 : j = 0
      · subst hj0
        go_wp2
        refine ⟨⟨1, hk1, rfl, ?_⟩, by simp [intOf]; omega⟩
        rw [i8_sgn hyb, take_one HY.out]
      · go_wp2
        refine ⟨⟨j + 1, hlt, by go_num, ?_⟩, by simp [intOf]; omega⟩
        rw [or_byte hr1 hyb, take_more HY.out hj0]
    · obtain rfl : j = k := by omega
      have ht : val (x.take j) = val x := by rw [List.take_of_length_le (by rw [HXL.out]; exact Nat.le_refl _)]
      rw [ht]
      clear ht
      by_cases hz : sz (val x) = j
      · have hb1 : ((j : Int) != (sz (val x) : Int)) = false := by rw [hz]; simp
        have HZ := Lib.hid hz
        clear hz
        go_wp2_with (go_at_call 52; refine (intSize_any (val x) _ hi64).mono ?_; rintro e w' ⟨rfl, rfl⟩)
        · have hcap : c = 1 + j := by assumption
          go_ret
          refine HG.out HZ.out _ ?_
          rw [HE.out (by omega), show n - (1 + j) = 0 by omega]
          exact Rest.none_ w g _ _ (Nat.zero_le _)
        · go_ret
          exact HG.out HZ.out _ HA.out
      · have hb1 : ((j : Int) != (sz (val x) : Int)) = true := by rw [bne_iff_ne]; omega
        have HZ := Lib.hid hz
        clear hz
        go_wp2_with (first | (go_at_call 52; refine (intSize_any (val x) _ hi64).mono ?_; rintro e w' ⟨rfl, rfl⟩) | go_in)
        go_ret
        exact HF.out HZ.out

/-- for every cursor -/
theorem integer_any (C g : Nat) (l : List Int) (f : Bool) (w : World) (h : Rec w 107 C g l f) (hb : By l) :
    Calls Try.prog 57 #[.pointer (some ⟨C, 0, none⟩)] w (IntPost w C g l f) := by
  cases l with
  | nil => exact integer_nil C g f w h
  | cons s t =>
    by_cases hl : 8 < s ∨ t.length < s.toNat
    · exact integer_long C g s t f w h hb hl
    · obtain ⟨k, rfl⟩ : ∃ k : Nat, s = k := ⟨s.toNat, by have := hb.head; omega⟩
      by_cases h0 : k = 0
      · subst h0
        exact integer_zero C g t f w h
      · exact integer_pos C g k t f w h hb.tail (by omega) (by omega) (by omega)

theorem integer_dec (C g : Nat) (l : List Int) (f : Bool) (w : World) (h : Rec w 107 C g l f) (hb : By l) :
    Calls Try.prog 57 #[.pointer (some ⟨C, 0, none⟩)] w (Dec 107 IsInt sInt w C g l f) :=
  (integer_any C g l f w h hb).mono fun _ _ ⟨h1, h2, h3⟩ => ⟨_, h1, rfl, h2, h3⟩

end Go.Proofs.Ytfphdpcffjpbjaa.W
