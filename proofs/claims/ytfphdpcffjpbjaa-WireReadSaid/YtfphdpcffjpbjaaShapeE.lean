/-
  wire.Shape: the call makes the encoding of a shape. Conditions: the integers have 64 bits; each ring has at most 1000 vertices, and there are at most 1000 holes.
-/
import Derived.Test.YtfphdpcffjpbjaaRing
import Derived.Deep.RegionHeld3
namespace Go.Proofs.Ytfphdpcffjpbjaa.W
open Go.RowKit Go.Proofs.Ytfphdpcffjpbjaa.Pl

/-- a source lies below the row -/
theorem src_sep {w0 : World} {v b : Value} {size n : Nat} {vs : List Value} (h : Src w0 size v n vs) (hn : 0 < n) (hb : ∀ k, b.ownBlock = some k → w0.heap.size ≤ k) : v.ownBlock = none ∨ v.ownBlock ≠ b.ownBlock := by
  obtain ⟨_, A, c, rfl, hc⟩ := h
  obtain ⟨ad, rfl, hlt, _⟩ := hc hn
  refine .inr ?_
  intro e
  have := hb ad.block e.symm
  omega

set_option maxRecDepth 100000 in
set_option maxHeartbeats 400000 in
theorem listV_zero (B : Nat) (b : Value) (l0 : List Int) (A : Option Addr) (c : Nat) (w : World) (hB : B ≤ w.heap.size) (hl0 : l0.length ≤ 105553116266496) (hown : OwnB w B b l0) :
    Calls Try.prog 23 #[b, .slice A 0 c] w fun e w' => ∃ u, e = .returned u ∧ OwnB w' B u (l0 ++ encL encV []) ∧ Grew w w' b u := by
  go_enter Try.func23, Try.ntmps23
  go_wp2_with (first | (go_at_call 53; go_in) | (go_at_call 19; go_must (refine (int_any B b l0 0 _ ⟨by decide, by decide⟩ hB (by omega) hown).mono ?_); rintro e w1 ⟨v1, rfl, own1, gr1⟩))
  refine wp_loop_rounds 1 ?_
  rw [rounds_succ]
  go_wp2
  go_ret
  exact ⟨_, rfl, own1, gr1⟩

theorem ringB_any (w0 : World) (b : Value) (l0 : List Int) (v : Value) (l : List (Int × Int)) (w : World) (hb : Below w0.heap.size w0 w) (hl : l.length ≤ 1099511627776) (hl0 : l0.length ≤ 105553116266496) (hI : ∀ x ∈ l, VI64 x)
    (hown : OwnB w w0.heap.size b l0) (hs : SrcV w0 v l) :
    Calls Try.prog 23 #[b, v] w fun e w' => ∃ u, e = .returned u ∧ OwnB w' w0.heap.size u (l0 ++ encL encV l) ∧ Grew w w' b u := by
  by_cases h0 : l = []
  · subst h0
    obtain ⟨A, c, rfl⟩ := hs.shape
    exact listV_zero _ b l0 A c w hb.size hl0 hown
  · exact ring_any _ b l0 v l w hb.size hl hl0 hI hown (Src.below hs hb) (src_sep hs (by cases l with | nil => exact absurd rfl h0 | cons _ _ => simp) hown.from_)

/-- a slice of rings that reads as a list of lists -/
def SrcR (w : World) (v : Value) (rs : List (List (Int × Int))) : Prop :=
  ∃ vals : List Value, Src w 1 v rs.length vals ∧ ∀ (i : Nat) (u : Value) (r : List (Int × Int)), vals[i]? = some u → rs[i]? = some r → SrcV w u r

def encR (r : List (Int × Int)) : List Int := encL encV r
def encS (s : List (Int × Int) × List (List (Int × Int))) : List Int := encR s.1 ++ encL encR s.2
theorem encR_by (r : List (Int × Int)) : By (encR r) := encL_by _ encV_by r
theorem encS_by (s : List (Int × Int) × List (List (Int × Int))) : By (encS s) := (encR_by _).append (encL_by _ encR_by _)
theorem encR_len (r : List (Int × Int)) (h : r.length ≤ 1000) : (encR r).length ≤ 18009 := by
  unfold encR encL
  rw [List.length_append]
  have := enc_length_le (r.length : Int)
  have := flatMap_len encV 18 encV_len r
  omega
theorem flatR_len : ∀ (rs : List (List (Int × Int))) (_ : ∀ r ∈ rs, r.length ≤ 1000), (rs.flatMap encR).length ≤ 18009 * rs.length
  | [], _ => by simp
  | r :: rs, h => by
    have h1 := encR_len r (h r (by simp))
    have h2 := flatR_len rs (fun t ht => h t (by simp [ht]))
    rw [List.flatMap_cons, List.length_append, List.length_cons, Nat.mul_add]
    omega

set_option maxRecDepth 100000 in
set_option maxHeartbeats 800000 in
theorem listR_any (w0 : World) (b : Value) (l0 : List Int) (v : Value) (l : List (List (Int × Int))) (w : World) (hb : Below w0.heap.size w0 w) (hl : l.length ≤ 1000) (hl0 : l0.length ≤ 1000000) (hr : ∀ r ∈ l, r.length ≤ 1000) (hI : ∀ r ∈ l, ∀ x ∈ r, VI64 x)
    (hown : OwnB w w0.heap.size b l0) (hs : SrcR w0 v l) :
    Calls Try.prog 73 #[b, v, .func (.func 23) #[] #[]] w fun e w' => ∃ u, e = .returned u ∧ OwnB w' w0.heap.size u (l0 ++ encL encR l) ∧ Grew w w' b u := by
  obtain ⟨vals, hs, hel⟩ := hs
  obtain ⟨A, c, rfl⟩ := hs.shape
  obtain ⟨n, hn⟩ : ∃ n, n = l.length := ⟨_, rfl⟩
  have hn1 : n ≤ 1000 := by omega
  rw [← hn]
  have HN := Lib.hid hn
  have HEL := Lib.hid hel
  clear hn hl hel
  go_enter Try.func73, Try.ntmps73
  go_wp2_with (go_at_call 19; go_must (refine (int_any w0.heap.size b l0 (n : Int) _ ⟨by omega, by omega⟩ hb.size (by omega) hown).mono ?_); rintro e w1 ⟨v1, rfl, own1, gr1⟩)
  have hb1 := hb.trans (gr1.below hb.size hown.from_)
  go_loopw [0, 15] (fun u i wr => ∃ k : Nat, k ≤ n ∧ i = .int .i64 k ∧ OwnB wr w0.heap.size u (l0 ++ enc n ++ (l.take k).flatMap encR) ∧ Grew w wr b u ∧ Below w0.heap.size w0 wr) (fun _ i _ => n - (intOf i).toNat)
  case atStart => exact ⟨0, by omega, rfl, by simpa using own1, gr1, hb1⟩
  case round =>
    obtain ⟨k, hk, rfl, hown2, hgr, hbk⟩ := hrel
    clear own1 gr1 hown hb1
    by_cases hlt : k < n
    · obtain ⟨g, o, c', hv, hcells⟩ := (Src.below hs hbk).form (by have := HN.out; omega) (by omega)
      obtain ⟨x, hx⟩ : ∃ x, l[k]? = some x := ⟨l[k]'(by rw [← HN.out]; exact hlt), List.getElem?_eq_getElem _⟩
      obtain ⟨y, hy⟩ : ∃ y, vals[k]? = some y := ⟨vals[k]'(by rw [hs.1, ← HN.out]; omega), List.getElem?_eq_getElem _⟩
      have hc := hcells k _ hy
      have hxl := hr x (List.mem_of_getElem? hx)
      have hsx := HEL.out k y x hy hx
      obtain ⟨Ay, cy, rfl⟩ := hsx.shape
      simp only [Value.slice.injEq] at hv
      obtain ⟨rfl, _, rfl⟩ := hv
      have hlen : (l0 ++ enc n ++ (l.take k).flatMap encR).length ≤ 105553116266496 := by
        have h1 := flatR_len (l.take k) (fun r hr' => hr r (List.mem_of_mem_take hr'))
        have h2 := enc_length_le n
        rw [List.length_append, List.length_append]
        rw [List.length_take] at h1
        omega
      have HX := Lib.hid (flatMap_snoc encR hx)
      have HO := Lib.hid hown2
      have HIx := Lib.hid (hI x (List.mem_of_getElem? hx))
      have HSX := Lib.hid hsx
      have hfr := Lib.hid hown2.from_
      clear hx hy hcells hown2 hsx
      go_wp2_with (go_at_call 23; go_must (refine (ringB_any w0 _ _ _ x _ hbk (by omega) hlen HIx.out HO.out HSX.out).mono ?_); rintro e w2 ⟨v2, rfl, own2, gr2⟩)
      go_roundw
      case rel => exact ⟨k + 1, by omega, by go_num, by rw [HX.out, ← List.append_assoc]; exact own2, hgr.trans gr2, hbk.trans (gr2.below hbk.size hfr.out)⟩
      case measure => simp [intOf]; omega
    · obtain rfl : k = n := by omega
      have hfin : l0 ++ enc k ++ (l.take k).flatMap encR = l0 ++ encL encR l := by
        rw [List.take_of_length_le (by rw [HN.out]; exact Nat.le_refl _)]
        unfold encL
        rw [← HN.out, List.append_assoc]
      rw [hfin] at hown2
      clear hfin
      go_wp2
      go_ret
      exact ⟨_, rfl, hown2, hgr⟩

set_option maxRecDepth 100000 in
set_option maxHeartbeats 800000 in
theorem shape_any (w : World) (o h : Value) (s : List (Int × Int) × List (List (Int × Int))) (h1 : s.1.length ≤ 1000) (h2 : s.2.length ≤ 1000) (h3 : ∀ r ∈ s.2, r.length ≤ 1000) (hI : ∀ x ∈ s.1, VI64 x) (hI2 : ∀ r ∈ s.2, ∀ x ∈ r, VI64 x)
    (ho : SrcV w o s.1) (hh : SrcR w h s.2) :
    Calls Try.prog 34 #[.slice none 0 0, .agg #[o, h]] w fun e w' => ∃ u, e = .returned u ∧ OwnB w' w.heap.size u (encS s) ∧ Below w.heap.size w w' := by
  obtain ⟨Ao, co, rfl⟩ := ho.shape
  obtain ⟨vals, hhs, hel⟩ := id hh
  obtain ⟨Ah, ch, rfl⟩ := hhs.shape
  have hb0 : Below w.heap.size w (w.alloc (.cells #[.slice Ao s.1.length co, .slice Ah s.2.length ch] 60)).drew := ((Below.refl _ _).alloc (Nat.le_refl _) _).drew
  have e1 : (encR s.1).length ≤ 18009 := encR_len s.1 h1
  have HO := Lib.hid ho
  have HH := Lib.hid hh
  clear hhs hel ho hh
  go_enter Try.func34, Try.ntmps34
  go_wp2_with fail
  go_region_held3 (fun w' : World => w'.cell? (⟨w.heap.size, 0, none⟩ : Addr) = some (Value.slice Ao s.1.length co) ∧ w'.cell? (⟨w.heap.size, 1, none⟩ : Addr) = some (Value.slice Ah s.2.length ch)) (first | go_keep | exact keepA gr1 (by intro k hk; cases hk) | exact keepA (gr1.trans gr2) (by intro k hk; cases hk))
    (first
      | (go_at_call 23; ((with_reducible refine (ringB_any w (.slice none 0 0) [] (.slice Ao s.1.length co) s.1 _ hb0 ?_ ?_ hI (OwnB.nil _ _) HO.out).mono ?_); omega; simp; rintro e w1 ⟨v1, rfl, own1, gr1⟩; have hb1 := hb0.trans (gr1.below hb0.size (by intro k hk; cases hk))))
      | (go_at_call 73; ((with_reducible refine (listR_any w v1 _ (.slice Ah s.2.length ch) s.2 _ hb1 h2 ?_ h3 hI2 own1 HH.out).mono ?_); (simp only [List.nil_append]; show (encR s.1).length ≤ _; omega); rintro e w2 ⟨v2, rfl, own2, gr2⟩)))
  go_wp2
  go_ret
  exact ⟨_, rfl, own2, hb1.trans (gr2.below hb1.size own1.from_)⟩
end Go.Proofs.Ytfphdpcffjpbjaa.W
