/-
  lex, plainly, the fourth part: the numbers of tokens are small; joined tokens; the gaps of the statement on blanks; long names and numbers. No program in it.
-/
import Derived.Test.YtggdblmjnbnddaaDoorLPu
import Derived.Lib.Join
namespace Go.Proofs.YtggdblmjnbnddaaDoor.Pl
open Go

/-- the number of a token has at most nine digits -/
def Small (t : Tk) : Prop := -999999999 ≤ t.n ∧ t.n ≤ 999999999
theorem dv_nine' {l : List UInt8} (hl : allDig l) (h9 : l.length ≤ 9) : dv 0 l ≤ 999999999 := by
  have h := dv_lt l 0 hl
  have h2 : 10 ^ l.length ≤ 10 ^ 9 := Nat.pow_le_pow_right (by decide) h9
  omega
theorem rd_small {l : List UInt8} (h : (rd l).2.2 = 0) : Small (rd l).1 := by
  obtain ⟨c, t, rfl, ⟨_, _, e⟩ | ⟨_, hd, hf, _, h9, e⟩ | ⟨_, _, _, e⟩⟩ := rd_cases h
  · rw [e]; exact (show -999999999 ≤ (0 : Int) ∧ (0 : Int) ≤ 999999999 by decide)
  · obtain ⟨hs, hdig, ⟨_, hx, _, _, ha⟩ | ⟨_, hc, hx, _, ha⟩⟩ := num_parts hd hf
    · rw [hx] at h9
      have := dv_nine' hdig h9
      rw [e, hs, ha]
      exact ⟨by show -999999999 ≤ -(dv 0 (t.take (cw digI t)) : Int); omega, by show -(dv 0 (t.take (cw digI t)) : Int) ≤ 999999999; omega⟩
    · rw [hx] at h9
      have := dv_nine' (l := c :: t.take (cw digI t)) (fun b hb => by rcases List.mem_cons.1 hb with rfl | hb; exact hc; exact hdig b hb) h9
      rw [e, hs, ha]
      exact ⟨by show -999999999 ≤ (dv 0 (c :: t.take (cw digI t)) : Int); omega, by show (dv 0 (c :: t.take (cw digI t)) : Int) ≤ 999999999; omega⟩
  · rw [e]; exact (show -999999999 ≤ (0 : Int) ∧ (0 : Int) ≤ 999999999 by decide)
theorem lx_small : ∀ (n off : Nat) (l : List UInt8), l.length ≤ n → ∀ t ∈ (lx off l).1, Small t := by
  refine lx_ind ?_ ?_ ?_ ?_ ?_
  · intro off t ht; simp [lx_nil] at ht
  · intro off c r hb ih; rw [lx_blank _ hb]; exact ih
  · intro off c r hb hc ih; rw [lx_hash _ hb hc]; exact ih
  · intro off c r hb hc he ih t ht
    rw [lx_tok _ hb hc he] at ht
    unfold glue at ht
    split at ht
    · rcases List.mem_append.1 ht with h | h
      · rw [List.mem_singleton] at h
        subst h
        exact rd_small he
      · exact ih t h
    · simp at ht
  · intro off c r hb hc he t ht
    rw [lx_bad _ hb hc he] at ht
    simp at ht

/-! ### joined tokens -/
def jn (l : List Tk) : List UInt8 := Lib.join (l.map wr) [32]
def spaced : List Tk → List (List UInt8 × Tk)
  | [] => []
  | t :: r => ([], t) :: r.map fun t => ([32], t)
theorem weave_tail (r : List Tk) : weave [] (r.map fun t => ([32], t)) = Lib.joinTail [32] (r.map wr) := by
  induction r with
  | nil => rfl
  | cons t r ih => rw [List.map_cons, weave, ih, List.map_cons]; simp [Lib.joinTail]
theorem jn_weave (l : List Tk) : weave [] (spaced l) = jn l := by
  cases l with
  | nil => rfl
  | cons t r => rw [spaced, weave, weave_tail, jn, List.map_cons, Lib.join_cons]; rfl
theorem spaced_snd (l : List Tk) : (spaced l).map (fun p => bare p.2) = l.map bare := by
  cases l with
  | nil => rfl
  | cons t r => simp [spaced]
theorem jn_length (l : List Tk) : (jn l).length ≤ total l + l.length := by
  cases l with
  | nil => exact Nat.zero_le _
  | cons t r =>
    rw [jn, List.map_cons, Lib.join_cons, List.length_append]
    have : (Lib.joinTail [32] (r.map wr)).length = total r + r.length := by
      induction r with
      | nil => rfl
      | cons u r ih => simp only [Lib.joinTail, List.map_cons, List.flatten_cons, List.length_append, total, List.sum_cons, List.length_cons] at ih ⊢; simp at ih ⊢; omega
    rw [this]
    simp [total]
    omega
theorem lx_jn {l : List Tk} (h : ∀ t ∈ l, Good t) : ∃ ts, lx 0 (jn l) = (ts, 0, 0) ∧ ts.map bare = l.map bare := by
  have := lx_weave (tail := []) rfl (fun off => lx_nil off) (spaced l) 0 (fun p hp => ?_) (fun p hp => ?_)
  · rw [jn_weave, spaced_snd] at this
    exact this
  · cases l with
    | nil => simp [spaced] at hp
    | cons t r =>
      simp only [spaced, List.mem_cons, List.mem_map] at hp
      rcases hp with rfl | ⟨u, hu, rfl⟩
      · exact ⟨gap_nil, h t (by simp)⟩
      · exact ⟨gap_blank (by decide) gap_nil, h u (by simp [hu])⟩
  · cases l with
    | nil => simp [spaced] at hp
    | cons t r =>
      simp only [spaced, List.tail_cons, List.mem_map] at hp
      obtain ⟨u, _, rfl⟩ := hp
      exact ⟨by simp, rfl⟩

/-! ### the gaps of the statement on blanks -/
def gapA : List (List UInt8) := [[32], [10], [9, 9], [32, 35, 32, 97, 32, 125, 32, 49, 98, 10]]
theorem gapA_ok : ∀ g ∈ gapA, Gap g ∧ g ≠ [] ∧ stop g = true ∧ g.length ≤ 10 := by
  intro g hg
  simp only [gapA, List.mem_cons, List.not_mem_nil, or_false] at hg
  rcases hg with rfl | rfl | rfl | rfl
  · exact ⟨gap_blank (by decide) gap_nil, by simp, by decide, by decide⟩
  · exact ⟨gap_blank (by decide) gap_nil, by simp, by decide, by decide⟩
  · exact ⟨gap_blank (by decide) (gap_blank (by decide) gap_nil), by simp, by decide, by decide⟩
  · exact ⟨gap_blank (by decide) (gap_hash (g := [32, 97, 32, 125, 32, 49, 98]) (by decide)), by simp, by decide, by decide⟩
def theEnd : List UInt8 := [32, 35, 32, 116, 104, 101, 32, 101, 110, 100]
theorem lx_theEnd (off : Nat) : lx off theEnd = ([], 0, 0) := by
  unfold theEnd
  rw [lx_blank off (by decide), lx_hash (off + 1) (by decide) (by decide)]
  rfl
theorem lx_gaps {gs : List (List UInt8 × Tk)} (h : ∀ p ∈ gs, p.1 ∈ gapA ∧ Good p.2) : ∃ ts, lx 0 (weave theEnd gs) = (ts, 0, 0) ∧ ts.map bare = gs.map fun p => bare p.2 :=
  lx_weave (tail := theEnd) (by decide) lx_theEnd gs 0 (fun p hp => ⟨(gapA_ok _ (h p hp).1).1, (h p hp).2⟩) (fun p hp => ⟨(gapA_ok _ (h p (List.mem_of_mem_tail hp)).1).2.1, (gapA_ok _ (h p (List.mem_of_mem_tail hp)).1).2.2.1⟩)

/-! ### long names and numbers -/
theorem cw_repl {p : Int → Bool} {c : UInt8} (h : p c.toNat = true) : ∀ k, cw p (List.replicate k c) = k
  | 0 => rfl
  | k + 1 => by rw [List.replicate_succ, cw_cons, if_pos h, cw_repl h k]
theorem letter_plain {c : UInt8} (h : ltrI c.toNat = true) : blankI c.toNat = false ∧ (c == 35) = false := by
  have h3 : 65 ≤ c.toNat := by unfold ltrI at h; simp at h; omega
  refine ⟨?_, ?_⟩
  · unfold blankI
    simp
    omega
  · rw [beq_eq_false_iff_ne]
    rintro rfl
    exact absurd h3 (by decide)
theorem lx_name {c : UInt8} (h : ltrI c.toNat = true) (k : Nat) : lx 0 (List.replicate (k + 1) c) = if k + 1 ≤ 16 then ([⟨1, List.replicate (k + 1) c, 0, 0⟩], 0, 0) else ([], 0, 9) := by
  obtain ⟨hb, hc⟩ := letter_plain h
  have hcw : cw wordI (c :: List.replicate k c) = k + 1 := by rw [← List.replicate_succ]; exact cw_repl (ltr_word h) _
  have hrd : rd (c :: List.replicate k c) = if 16 < k + 1 then (.zero, 0, 9) else (⟨1, List.replicate (k + 1) c, 0, 0⟩, k + 1, 0) := by
    rw [rd_cons, if_pos h, rdName, hcw, List.replicate_succ, List.take_of_length_le (by simp)]
  rw [List.replicate_succ]
  by_cases h16 : k + 1 ≤ 16
  · rw [if_neg (by omega)] at hrd
    rw [if_pos h16, lx_tok 0 hb hc (by rw [hrd]), hrd]
    show glue [_] (lx (0 + (k + 1)) ((List.replicate k c).drop (k + 1 - 1))) = _
    rw [Nat.add_sub_cancel, List.drop_of_length_le (by simp), lx_nil, glue_end, List.replicate_succ]
    rfl
  · rw [if_pos (by omega)] at hrd
    rw [if_neg h16, lx_bad 0 hb hc (by rw [hrd]; show (9 : Int) ≠ 0; decide), hrd]
theorem name_repl {c : UInt8} (h : ltrI c.toNat = true) (k : Nat) : isNameB (List.replicate (k + 1) c) = decide (k + 1 ≤ 16) := by
  have hcw : cw wordI (c :: List.replicate k c) = k + 1 := by rw [← List.replicate_succ]; exact cw_repl (ltr_word h) _
  rw [List.replicate_succ, isNameB, h, hcw]
  simp
theorem lx_number (k : Nat) : ∃ v : Int, v < 0 ∧ lx 0 (120 :: 32 :: 45 :: List.replicate (k + 1) 55) = if k + 1 ≤ 9 then ([⟨1, [120], 0, 0⟩, ⟨2, [], v, 2⟩], 0, 0) else ([], 2, 9) := by
  have hcw : cw digI (List.replicate (k + 1) (55 : UInt8)) = k + 1 := cw_repl (by decide) _
  have hsz : numSize (45 :: List.replicate (k + 1) 55) = k + 2 := by unfold numSize; rw [List.drop_succ_cons, List.drop_zero, hcw]; omega
  have hall : (45 :: List.replicate (k + 1) (55 : UInt8)).take (k + 2) = 45 :: List.replicate (k + 1) 55 := List.take_of_length_le (by simp)
  have hdg : numDigits (45 :: List.replicate (k + 1) 55) = List.replicate (k + 1) 55 := by unfold numDigits; rw [hsz, hall]; rfl
  have hform : numForm (45 :: List.replicate (k + 1) 55) = true := by unfold numForm; rw [hdg, List.replicate_succ]; rfl
  have hfol : numFollow (45 :: List.replicate (k + 1) 55) = false := by unfold numFollow; rw [hsz, List.drop_of_length_le (by simp)]
  obtain ⟨_, _, ⟨_, _, hpos, _, ha⟩ | ⟨hne, _⟩⟩ := num_parts (c := 45) (t := List.replicate (k + 1) 55) (by decide) hform
  · rw [hcw, List.take_of_length_le (by simp)] at hpos ha
    refine ⟨-(dv 0 (List.replicate (k + 1) 55) : Int), by omega, ?_⟩
    have hx : rd (120 :: 32 :: 45 :: List.replicate (k + 1) 55) = (⟨1, [120], 0, 0⟩, 1, 0) := by
      have h1 : cw wordI (120 :: 32 :: 45 :: List.replicate (k + 1) 55) = 1 := rfl
      rw [rd_cons, if_pos (by decide), rdName, h1]
      rfl
    have hn : rd (45 :: List.replicate (k + 1) 55) = if 9 < k + 1 then (.zero, 0, 9) else (⟨2, [], -(dv 0 (List.replicate (k + 1) 55) : Int), 0⟩, k + 2, 0) := by
      rw [rd_cons, if_neg (by decide), if_pos (by decide), rdNum, hform, hfol, hdg, hsz, hall, ha, List.length_replicate]
      rfl
    rw [lx_tok 0 (by decide) (by decide) (by rw [hx]), hx]
    show glue [_] (lx (0 + 1) ((32 :: 45 :: List.replicate (k + 1) (55 : UInt8)).drop (1 - 1))) = _
    rw [Nat.sub_self, List.drop_zero, lx_blank _ (by decide)]
    by_cases h9 : k + 1 ≤ 9
    · rw [if_neg (by omega)] at hn
      rw [if_pos h9, lx_tok _ (by decide) (by decide) (by rw [hn]), hn]
      show glue [_] (glue [_] (lx (0 + 1 + 1 + (k + 2)) ((List.replicate (k + 1) (55 : UInt8)).drop (k + 2 - 1)))) = _
      rw [List.drop_of_length_le (by simp), lx_nil, glue_end]
      rfl
    · rw [if_pos (by omega)] at hn
      rw [if_neg h9, lx_bad _ (by decide) (by decide) (by rw [hn]; show (9 : Int) ≠ 0; decide), hn]
      exact glue_bad _ _ (by show (9 : Int) ≠ 0; decide)
  · exact absurd rfl hne
end Go.Proofs.YtggdblmjnbnddaaDoor.Pl
