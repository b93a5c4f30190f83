/-
  fretsawlaw04.LexRoundTrip returns true for every text. Condition: the table of the powers of ten is laid.
-/
import Derived.Test.YtggdblmjnbnddaaDoorLTo
import Derived.Test.YtggdblmjnbnddaaDoorLSf
import Derived.Test.YtggdblmjnbnddaaDoorLJo
namespace Go.Proofs.YtggdblmjnbnddaaDoor.W
open Go.RowKit Go.Proofs.YtggdblmjnbnddaaDoor.Pl

theorem fit_of {t : Tk} (h : Small t) : Fit t := ⟨by have := h.1; omega, by have := h.2; omega⟩
/-- what is known of the tokens of a source of at most 600 bytes -/
structure Toks (ts : List Tk) : Prop where
  good : ∀ t ∈ ts, Pl.Good t
  fit : ∀ t ∈ ts, Fit t
  sum : total ts ≤ 600
  len : ts.length ≤ 600
theorem toks_of (l : List UInt8) (h : l.length ≤ 600) : Toks (toks l).1 := by
  rw [(toks_len l (by omega)).2]
  have ht := lx_total _ 0 l (Nat.le_refl _)
  exact ⟨lx_good _ 0 l (Nat.le_refl _), fun t ht => fit_of (lx_small _ 0 l (Nat.le_refl _) t ht), by omega, by omega⟩
theorem toks_jn {ts : List Tk} (h : Toks ts) : (jn ts).length ≤ 1200 ∧ ∃ us, toks (jn ts) = (us, 0, 0) ∧ us.map bare = ts.map bare ∧ us.length ≤ 600 := by
  have hl : (jn ts).length ≤ 1200 := by have := jn_length ts; have := h.sum; have := h.len; omega
  obtain ⟨us, h1, h2⟩ := lx_jn h.good
  refine ⟨hl, us, by rw [(toks_len _ (by omega)).2, h1], h2, ?_⟩
  have := congrArg List.length h2
  simp at this
  have := h.len
  omega

set_option maxRecDepth 100000 in
set_option maxHeartbeats 3200000 in
theorem trip_walk (s : ByteArray) (w : World) (hT : Tab w) :
    Calls Tryd.prog 6 #[.string s] w fun e w' => e = .returned (.bool true) ∧ Nw w w' := by
  obtain ⟨l, rfl⟩ : ∃ l, tx l = s := ⟨_, tx_of s⟩
  have hsz := tx_size l
  obtain ⟨n, hn⟩ : ∃ n, l.length = n := ⟨_, rfl⟩
  rw [hn] at hsz
  have HN := Lib.hid hn
  clear hn
  by_cases hbig : 600 < n
  · go_enter Tryd.func6, Tryd.ntmps6
    go_wp2_with (go_at_call 10; ((with_reducible refine (awake_any _).mono ?_); rintro e w1 ⟨rfl, hk1⟩))
    go_ret
    exact ⟨rfl, hk1⟩
  · go_enter Tryd.func6, Tryd.ntmps6
    have hG := toks_of l (by have := HN.out; omega)
    obtain ⟨⟨ts, a, er⟩, hz⟩ : ∃ z, toks l = z := ⟨_, rfl⟩
    have h1 := fun w1 => tokens_any l w1 (by have := HN.out; omega)
    rw [hz] at hG h1
    obtain ⟨hjl, us, hju, hus, hul⟩ := toks_jn hG
    replace hjl : (jn ts).length ≤ 1200 := hjl
    have h2 := fun w1 => tokens_any (jn ts) w1 (by omega)
    rw [hju] at h2
    have htl : ts.length ≤ 600 := hG.len
    have HF := Lib.hid (show ∀ t ∈ ts, Fit t from hG.fit)
    have HB := Lib.hid hus.symm
    clear hz hju hus hG
    go_wp2_with fail
    refine (awake_any _).mono ?_
    rintro e w1 ⟨rfl, hk1⟩
    have HK1 := Lib.hid hk1
    clear hk1
    go_wp2_with fail
    refine (h1 _).mono ?_
    rintro e w2 ⟨v2, rfl, hown2, hk2⟩
    have HO2 := Lib.hid (OwnTk.src hown2)
    have HK2 := Lib.hid (HK1.out.tr hk2)
    clear hown2 hk2 h1
    by_cases her : er = 0
    · subst her
      go_wp2_with fail
      refine (join_any v2 ts w2 HO2.out HF.out (hT.nw HK2.out) (by omega) (by omega)).mono ?_
      rintro e w3 ⟨rfl, hk3⟩
      have HO3 := Lib.hid (HO2.out.nw hk3)
      have HK3 := Lib.hid (HK2.out.tr hk3)
      clear hk3
      go_wp2_with fail
      refine (h2 _).mono ?_
      rintro e w4 ⟨v4, rfl, hown4, hk4⟩
      have HO4 := Lib.hid (HO3.out.nw hk4)
      have HP4 := Lib.hid (OwnTk.src hown4)
      have HK4 := Lib.hid (HK3.out.tr hk4)
      clear hown4 hk4 h2
      go_wp2_with fail
      refine (theirs_any v2 ts w4 HO4.out (by omega)).mono ?_
      rintro e w5 ⟨v5, rfl, hown5, hk5⟩
      have HO5 := Lib.hid (OwnRk.src hown5)
      have HP5 := Lib.hid (HP4.out.nw hk5)
      have HK5 := Lib.hid (HK4.out.tr hk5)
      clear hown5 hk5
      go_wp2_with fail
      refine (theirs_any v4 us w5 HP5.out (by omega)).mono ?_
      rintro e w6 ⟨v6, rfl, hown6, hk6⟩
      have HO6 := Lib.hid (HO5.out.nw hk6)
      have HP6 := Lib.hid (OwnRk.src hown6)
      have HK6 := Lib.hid (HK5.out.tr hk6)
      clear hown6 hk6
      go_wp2_with fail
      refine (sameF_any v5 v6 ts us w6 HO6.out HP6.out HB.out (by omega)).mono ?_
      rintro e w7 ⟨rfl, hk7⟩
      have HK7 := Lib.hid (HK6.out.tr hk7)
      clear hk7
      go_wp2_with fail
      go_ret
      exact ⟨rfl, HK7.out⟩
    · go_wp2_with fail
      go_ret
      exact ⟨rfl, HK2.out⟩
end Go.Proofs.YtggdblmjnbnddaaDoor.W
