/-
  lex, plainly, the third part: sources in parts, blanks between tokens, offsets, limits. No program in it.
-/
import Derived.Test.YtggdblmjnbnddaaDoorLPt
namespace Go.Proofs.YtggdblmjnbnddaaDoor.Pl
open Go

/-- induction along a source: what is left after a blank, a comment, a token -/
theorem lx_ind {P : Nat → List UInt8 → Prop} (hnil : ∀ off, P off [])
    (hblank : ∀ off c r, blankI c.toNat = true → P (off + 1) r → P off (c :: r))
    (hhash : ∀ off c r, blankI c.toNat = false → (c == 35) = true → P (off + cw notLf (c :: r)) (r.drop (cw notLf (c :: r) - 1)) → P off (c :: r))
    (htok : ∀ off c r, blankI c.toNat = false → (c == 35) = false → (rd (c :: r)).2.2 = 0 → P (off + (rd (c :: r)).2.1) (r.drop ((rd (c :: r)).2.1 - 1)) → P off (c :: r))
    (hbad : ∀ off c r, blankI c.toNat = false → (c == 35) = false → (rd (c :: r)).2.2 ≠ 0 → P off (c :: r)) : ∀ (n off : Nat) (l : List UInt8), l.length ≤ n → P off l
  | _, off, [], _ => hnil off
  | 0, _, _ :: _, h => absurd h (by simp)
  | n + 1, off, c :: r, h => by
    simp only [List.length_cons, Nat.add_le_add_iff_right] at h
    have hd : ∀ k, (r.drop k).length ≤ n := fun k => by rw [List.length_drop]; omega
    have ih := lx_ind hnil hblank hhash htok hbad n
    cases h1 : blankI c.toNat
    · cases h2 : (c == 35)
      · by_cases h3 : (rd (c :: r)).2.2 = 0
        · exact htok off c r h1 h2 h3 (ih _ _ (hd _))
        · exact hbad off c r h1 h2 h3
      · exact hhash off c r h1 h2 (ih _ _ (hd _))
    · exact hblank off c r h1 (ih _ _ h)

theorem hash_cw {c : UInt8} (r : List UInt8) (hc : (c == 35) = true) : cw notLf (c :: r) = cw notLf r + 1 := by
  have : c = 35 := by simpa using hc
  subst this
  rw [cw_cons, if_pos (by decide)]

/-! ### two sources -/
theorem lx_parts (b : List UInt8) : ∀ (n off : Nat) (l : List UInt8), l.length ≤ n → lx off (l ++ 10 :: b) = if (lx off l).2.2 = 0 then glue (lx off l).1 (lx (off + l.length + 1) b) else lx off l := by
  refine lx_ind ?_ ?_ ?_ ?_ ?_
  · intro off
    rw [List.nil_append, lx_blank off (by decide), lx_nil]
    exact (glue_lx _ _).symm
  · intro off c r hb ih
    rw [List.cons_append, lx_blank off hb, lx_blank off hb, ih, List.length_cons, Nat.add_right_comm off 1, ← Nat.add_assoc]
  · intro off c r hb hc ih
    have hk := hash_cw r hc
    have hk' := hash_cw (r ++ 10 :: b) hc
    have happ : cw notLf (r ++ 10 :: b) = cw notLf r := cw_app (by rfl) r
    rw [List.cons_append, lx_hash off hb hc, lx_hash off hb hc, hk', happ, hk, Nat.add_sub_cancel, List.drop_append_of_le_length (cw_le _ _)]
    rw [hk, Nat.add_sub_cancel] at ih
    rw [ih, List.length_drop, List.length_cons]
    have := cw_le notLf r
    rw [show off + (cw notLf r + 1) + (r.length - cw notLf r) + 1 = off + (r.length + 1) + 1 by omega]
  · intro off c r hb hc he ih
    have hrd : rd (c :: (r ++ 10 :: b)) = rd (c :: r) := rd_app (r := 10 :: b) (l := c :: r) (by rfl) (by simp)
    have hs := rd_size he
    rw [List.length_cons] at hs
    rw [List.cons_append, lx_tok off hb hc (by rw [hrd]; exact he), lx_tok off hb hc he, hrd, List.drop_append_of_le_length (by omega), ih]
    rw [List.length_drop, List.length_cons, show off + (rd (c :: r)).2.1 + (r.length - ((rd (c :: r)).2.1 - 1)) + 1 = off + (r.length + 1) + 1 by omega]
    generalize lx (off + (rd (c :: r)).2.1) (r.drop ((rd (c :: r)).2.1 - 1)) = x
    obtain ⟨ts, a, e⟩ := x
    by_cases h0 : e = 0
    · subst h0
      rw [if_pos rfl]
      have e1 : ∀ t : Tk, glue [t] (ts, a, 0) = ([t] ++ ts, 0, 0) := fun t => by unfold glue; rw [if_pos rfl]
      rw [e1, if_pos rfl, glue_glue]
    · have e1 : ∀ t : Tk, glue [t] (ts, a, e) = ([], a, e) := fun t => by unfold glue; rw [if_neg h0]
      rw [if_neg h0, e1, if_neg h0]
  · intro off c r hb hc he
    have hrd : rd (c :: (r ++ 10 :: b)) = rd (c :: r) := rd_app (r := 10 :: b) (l := c :: r) (by rfl) (by simp)
    rw [List.cons_append, lx_bad off hb hc (by rw [hrd]; exact he), lx_bad off hb hc he, hrd, if_neg he]

/-- the same tokens at other places -/
def sh (d : Nat) (r : Lx) : Lx := (r.1.map fun t => { t with at_ := t.at_ + d }, if r.2.2 = 0 then 0 else r.2.1 + d, r.2.2)
theorem glue_sh (d : Nat) (t : Tk) (r : Lx) : glue [{ t with at_ := t.at_ + d }] (sh d r) = sh d (glue [t] r) := by
  obtain ⟨ts, a, e⟩ := r
  unfold glue sh
  by_cases h : e = 0
  · subst h; simp
  · simp [h]
theorem lx_shift (d : Nat) : ∀ (n off : Nat) (l : List UInt8), l.length ≤ n → lx (off + d) l = sh d (lx off l) := by
  refine lx_ind ?_ ?_ ?_ ?_ ?_
  · intro off; rfl
  · intro off c r hb ih
    rw [lx_blank _ hb, lx_blank _ hb, ← ih, Nat.add_right_comm]
  · intro off c r hb hc ih
    rw [lx_hash _ hb hc, lx_hash _ hb hc, ← ih, Nat.add_right_comm]
  · intro off c r hb hc he ih
    rw [lx_tok _ hb hc he, lx_tok _ hb hc he, ← glue_sh, ← ih, Nat.add_right_comm]
    rfl
  · intro off c r hb hc he
    rw [lx_bad _ hb hc he, lx_bad _ hb hc he]
    unfold sh
    rw [if_neg he]
    rfl
theorem map_bare_sh (d : Nat) (ts : List Tk) : (ts.map fun t => { t with at_ := t.at_ + (d : Int) }).map bare = ts.map bare := by
  rw [List.map_map]; rfl

/-! ### good tokens -/
structure Good (t : Tk) : Prop where
  pos : wr t ≠ []
  rd_ : rd (wr t) = (bare t, (wr t).length, 0)
theorem good_of_rd {l : List UInt8} (h : (rd l).2.2 = 0) (a : Int) : Good { (rd l).1 with at_ := a } := by
  have hw := rd_wr h
  have hs := rd_size h
  have ht := rd_take h
  have hlen : (l.take (rd l).2.1).length = (rd l).2.1 := by rw [List.length_take]; omega
  have hb : bare (rd l).1 = (rd l).1 := by
    obtain ⟨c, t, rfl, ⟨_, _, e⟩ | ⟨_, _, _, _, _, e⟩ | ⟨_, _, _, e⟩⟩ := rd_cases h <;> rw [e] <;> rfl
  refine ⟨?_, ?_⟩
  · rw [wr_at, hw]
    intro e
    rw [e] at hlen
    simp at hlen
    omega
  · rw [wr_at, bare_at, hw, ht, hlen, hb]
    exact Prod.ext rfl (Prod.ext rfl h)
theorem lx_good : ∀ (n off : Nat) (l : List UInt8), l.length ≤ n → ∀ t ∈ (lx off l).1, Good t := by
  refine lx_ind ?_ ?_ ?_ ?_ ?_
  · intro off t ht; simp [lx_nil] at ht
  · intro off c r hb ih; rw [lx_blank _ hb]; exact ih
  · intro off c r hb hc ih; rw [lx_hash _ hb hc]; exact ih
  · intro off c r hb hc he ih t ht
    rw [lx_tok _ hb hc he] at ht
    unfold glue at ht
    split at ht
    · rcases List.mem_append.1 ht with h | h
      · rw [List.mem_singleton] at h
        subst h
        exact good_of_rd he _
      · exact ih t h
    · simp at ht
  · intro off c r hb hc he t ht
    rw [lx_bad _ hb hc he] at ht
    simp at ht

/-! ### blanks between tokens -/
def Gap (g : List UInt8) : Prop := ∀ off x, lx off (g ++ x) = lx (off + g.length) x
def weave (tail : List UInt8) : List (List UInt8 × Tk) → List UInt8
  | [] => tail
  | (g, t) :: r => g ++ wr t ++ weave tail r

theorem gap_nil : Gap [] := fun _ _ => rfl
theorem gap_blank {c : UInt8} (h : blankI c.toNat = true) {g : List UInt8} (hg : Gap g) : Gap (c :: g) := fun off x => by
  rw [List.cons_append, lx_blank off h, hg, List.length_cons, Nat.add_assoc, Nat.add_comm 1]
theorem gap_hash {g : List UInt8} (h : ∀ c ∈ g, c ≠ 10) : Gap (35 :: (g ++ [10])) := fun off x => by
  have hc : ∀ g : List UInt8, (∀ c ∈ g, c ≠ 10) → cw notLf (g ++ 10 :: x) = g.length := by
    intro g
    induction g with
    | nil => intro _; rfl
    | cons c g ih =>
      intro h
      have hne : notLf c.toNat = true := by
        have h1 : c.toNat ≠ 10 := fun e => h c (by simp) (UInt8.toNat_inj.1 e)
        unfold notLf
        rw [Bool.not_eq_true', beq_eq_false_iff_ne]
        omega
      rw [List.cons_append, cw_cons, if_pos hne, ih fun d hd => h d (by simp [hd]), List.length_cons]
  have e : (35 :: (g ++ [10])) ++ x = 35 :: (g ++ 10 :: x) := by simp
  rw [e, lx_hash off (by decide) (by decide), hash_cw _ (by decide), hc g h, Nat.add_sub_cancel, List.drop_left, lx_blank _ (by decide)]
  simp [Nat.add_assoc]

theorem good_lx {t : Tk} (hg : Good t) {r : List UInt8} (hr : stop r = true) (off : Nat) : lx off (wr t ++ r) = glue [{ t with at_ := off }] (lx (off + (wr t).length) r) := by
  obtain ⟨hp, hrd⟩ := hg
  cases hw : wr t with
  | nil => exact absurd hw hp
  | cons c w =>
    rw [hw] at hrd hp
    have hrd' : rd (c :: (w ++ r)) = (bare t, (c :: w).length, 0) := by rw [← List.cons_append, rd_app hr (by simp), hrd]
    have hb : blankI c.toNat = false := by
      cases hb : blankI c.toNat
      · rfl
      · exfalso
        have h3 : c = 32 ∨ c = 9 ∨ c = 10 := by
          unfold blankI at hb
          simp only [Bool.or_eq_true, beq_iff_eq] at hb
          rcases hb with (hb | hb) | hb
          · exact .inl (UInt8.toNat_inj.1 (by simp; omega))
          · exact .inr (.inl (UInt8.toNat_inj.1 (by simp; omega)))
          · exact .inr (.inr (UInt8.toNat_inj.1 (by simp; omega)))
        have : (rd (c :: w)).2.2 = 3 := by rcases h3 with rfl | rfl | rfl <;> rfl
        rw [hrd] at this
        simp at this
    have hc : (c == 35) = false := by
      cases hc : (c == 35)
      · rfl
      · exfalso
        have : c = 35 := by simpa using hc
        subst this
        have : (rd (35 :: w)).2.2 = 3 := rfl
        rw [hrd] at this
        simp at this
    rw [List.cons_append, lx_tok off hb hc (by rw [hrd']), hrd']
    show glue [{ bare t with at_ := (off : Int) }] (lx (off + (c :: w).length) ((w ++ r).drop ((c :: w).length - 1))) = _
    rw [List.length_cons, Nat.add_sub_cancel, List.drop_left]
    rfl

theorem stop_app {g : List UInt8} (h : g ≠ []) (hs : stop g = true) (r : List UInt8) : stop (g ++ r) = true := by
  cases g with
  | nil => exact absurd rfl h
  | cons c g => exact hs
theorem weave_stop {tail : List UInt8} (ht : stop tail = true) : ∀ gs : List (List UInt8 × Tk), (∀ p ∈ gs, p.1 ≠ [] ∧ stop p.1 = true) → stop (weave tail gs) = true
  | [], _ => ht
  | (g, t) :: r, h => by
    have hg := h (g, t) (by simp)
    unfold weave
    rw [List.append_assoc]
    exact stop_app hg.1 hg.2 _
theorem lx_weave {tail : List UInt8} (ht : stop tail = true) (hl : ∀ off, lx off tail = ([], 0, 0)) : ∀ (gs : List (List UInt8 × Tk)) (off : Nat), (∀ p ∈ gs, Gap p.1 ∧ Good p.2) → (∀ p ∈ gs.tail, p.1 ≠ [] ∧ stop p.1 = true) →
    ∃ ts, lx off (weave tail gs) = (ts, 0, 0) ∧ ts.map bare = gs.map fun p => bare p.2
  | [], off, _, _ => ⟨[], hl off, rfl⟩
  | (g, t) :: r, off, h, h' => by
    obtain ⟨hg, hd⟩ := h (g, t) (by simp)
    have hr : ∀ p ∈ r, p.1 ≠ [] ∧ stop p.1 = true := h'
    obtain ⟨ts, e, em⟩ := lx_weave ht hl r (off + g.length + (wr t).length) (fun p hp => h p (by simp [hp])) (fun p hp => hr p (List.mem_of_mem_tail hp))
    refine ⟨{ t with at_ := (off + g.length : Nat) } :: ts, ?_, ?_⟩
    · unfold weave
      rw [List.append_assoc, hg, good_lx hd (weave_stop ht r hr), e]
      rfl
    · rw [List.map_cons, em, List.map_cons]
      rfl

/-! ### offsets -/
def offs (s : List UInt8) : Nat → List Tk → Prop
  | _, [] => True
  | next, t :: r => ∃ a : Nat, t.at_ = a ∧ next ≤ a ∧ wr t ≠ [] ∧ a + (wr t).length ≤ s.length ∧ (s.drop a).take (wr t).length = wr t ∧ (t.kind == 1) = isNameB (wr t) ∧ offs s (a + (wr t).length) r
theorem offs_mono {s : List UInt8} {ts : List Tk} {m n : Nat} (h : offs s n ts) (hm : m ≤ n) : offs s m ts := by
  cases ts with
  | nil => trivial
  | cons t r =>
    obtain ⟨a, h1, h2, h3⟩ := h
    exact ⟨a, h1, Nat.le_trans hm h2, h3⟩
theorem lx_offs (s : List UInt8) : ∀ (n off : Nat) (l : List UInt8), l.length ≤ n → s.drop off = l → off ≤ s.length → offs s off (lx off l).1 := by
  refine lx_ind ?_ ?_ ?_ ?_ ?_
  · intro off _ _; rw [lx_nil]; trivial
  · intro off c r hb ih hs ho
    rw [lx_blank _ hb]
    have hlt : off < s.length := by
      have := congrArg List.length hs
      rw [List.length_drop, List.length_cons] at this
      omega
    refine offs_mono (ih ?_ hlt) (Nat.le_succ _)
    rw [← List.drop_drop, hs]
    rfl
  · intro off c r hb hc ih hs ho
    rw [lx_hash _ hb hc]
    have hk := hash_cw r hc
    have hle := cw_le notLf (c :: r)
    have hlen := congrArg List.length hs
    rw [List.length_drop] at hlen
    refine offs_mono (ih ?_ (by omega)) (Nat.le_add_right _ _)
    rw [← List.drop_drop, hs, hk, List.drop_succ_cons, Nat.add_sub_cancel]
  · intro off c r hb hc he ih hs ho
    rw [lx_tok _ hb hc he]
    have hz := rd_size he
    have hw := rd_wr he
    have hk := rd_kind he
    have hg := good_of_rd he off
    have hlen := congrArg List.length hs
    rw [List.length_drop] at hlen
    have hlw : (wr (rd (c :: r)).1).length = (rd (c :: r)).2.1 := by rw [hw, List.length_take]; omega
    have ih := ih (by
      rw [← List.drop_drop, hs]
      obtain ⟨m, hm⟩ : ∃ m, (rd (c :: r)).2.1 = m + 1 := ⟨(rd (c :: r)).2.1 - 1, by omega⟩
      rw [hm, List.drop_succ_cons, Nat.add_sub_cancel]) (by omega)
    unfold glue
    split
    · refine ⟨off, rfl, Nat.le_refl _, hg.pos, ?_, ?_, ?_, ?_⟩
      · rw [wr_at, hlw]; omega
      · rw [wr_at, hs, hlw, hw]
      · rw [wr_at, hw, ← hk]
      · rw [wr_at, hlw]
        exact ih
    · trivial
  · intro off c r hb hc he hs ho
    rw [lx_bad _ hb hc he]
    trivial

/-! ### sums of sizes -/
def total (ts : List Tk) : Nat := (ts.map fun t => (wr t).length).sum
theorem lx_total : ∀ (n off : Nat) (l : List UInt8), l.length ≤ n → total (lx off l).1 ≤ l.length ∧ (lx off l).1.length ≤ l.length := by
  refine lx_ind ?_ ?_ ?_ ?_ ?_
  · intro off; rw [lx_nil]; exact ⟨Nat.le_refl _, Nat.le_refl _⟩
  · intro off c r hb ih
    rw [lx_blank _ hb, List.length_cons]
    omega
  · intro off c r hb hc ih
    rw [lx_hash _ hb hc, List.length_cons]
    rw [List.length_drop] at ih
    omega
  · intro off c r hb hc he ih
    rw [lx_tok _ hb hc he, List.length_cons]
    have hz := rd_size he
    have hw := rd_wr he
    have hlw : (wr (rd (c :: r)).1).length = (rd (c :: r)).2.1 := by rw [hw, List.length_take]; omega
    rw [List.length_drop] at ih
    rw [List.length_cons] at hz
    unfold glue
    split
    · simp only [total, List.singleton_append, List.map_cons, List.sum_cons, List.length_cons, wr_at, hlw]
      unfold total at ih
      omega
    · simp [total]
  · intro off c r hb hc he
    rw [lx_bad _ hb hc he]
    simp [total]
end Go.Proofs.YtggdblmjnbnddaaDoor.Pl
