/-
  fretsawlaw04.LexTokens returns true for every text. No condition.
-/
import Derived.Test.YtggdblmjnbnddaaDoorLAw
namespace Go.Proofs.YtggdblmjnbnddaaDoor.W
open Go.RowKit Go.Proofs.YtggdblmjnbnddaaDoor.Pl

theorem toks_len (l : List UInt8) (h : l.length ≤ 20000) : (toks l).1.length ≤ l.length ∧ toks l = lx 0 l := by
  have e : toks l = lx 0 l := by unfold toks; rw [if_neg (by omega)]
  rw [e]
  exact ⟨(lx_total _ 0 l (Nat.le_refl _)).2, rfl⟩

set_option maxRecDepth 100000 in
set_option maxHeartbeats 3200000 in
theorem tokens_walk (s : ByteArray) (w : World) :
    Calls Tryd.prog 3 #[.string s] w fun e w' => e = .returned (.bool true) ∧ Nw w w' := by
  obtain ⟨l, rfl⟩ : ∃ l, tx l = s := ⟨_, tx_of s⟩
  have hsz := tx_size l
  obtain ⟨n, hn⟩ : ∃ n, l.length = n := ⟨_, rfl⟩
  rw [hn] at hsz
  have HN := Lib.hid hn
  clear hn
  by_cases hbig : 600 < n
  · go_enter Tryd.func3, Tryd.ntmps3
    go_wp2_with (go_at_call 10; ((with_reducible refine (awake_any _).mono ?_); rintro e w1 ⟨rfl, hk1⟩))
    go_ret
    exact ⟨rfl, hk1⟩
  · go_enter Tryd.func3, Tryd.ntmps3
    obtain ⟨⟨ts, a, er⟩, hz⟩ : ∃ z, toks l = z := ⟨_, rfl⟩
    have hL := (toks_len l (by have := HN.out; omega)).1
    have h1 := fun w1 => tokens_any l w1 (by have := HN.out; omega)
    have h2 := fun w1 => refTokens_any l w1 (by have := HN.out; omega)
    rw [hz] at hL h1 h2
    have hL' : ts.length ≤ 1099511627775 := Nat.le_trans hL (by have := HN.out; omega)
    clear hz hL
    go_wp2_with fail
    refine (awake_any _).mono ?_
    rintro e w1 ⟨rfl, hk1⟩
    have HK1 := Lib.hid hk1
    clear hk1
    go_wp2_with fail
    refine (h1 _).mono ?_
    rintro e w2 ⟨v2, rfl, hown2, hk2⟩
    have HO2 := Lib.hid (OwnTk.src hown2)
    have HK2 := Lib.hid (HK1.out.tr hk2)
    clear hown2 hk2 h1
    go_wp2_with fail
    refine (h2 _).mono ?_
    rintro e w3 ⟨v3, rfl, hown3, hk3⟩
    have HO3 := Lib.hid (OwnRk.src hown3)
    have HP3 := Lib.hid (HO2.out.nw hk3)
    have HK3 := Lib.hid (HK2.out.tr hk3)
    clear hown3 hk3 h2
    go_wp2_with fail
    refine (theirs_any v2 _ w3 HP3.out hL').mono ?_
    rintro e w4 ⟨v4, rfl, hown4, hk4⟩
    have HO4 := Lib.hid (OwnRk.src hown4)
    have HP4 := Lib.hid (HO3.out.nw hk4)
    have HK4 := Lib.hid (HK3.out.tr hk4)
    clear hown4 hk4
    go_wp2_with fail
    refine (sameT_any v4 v3 _ w4 HO4.out HP4.out hL').mono ?_
    rintro e w5 ⟨rfl, hk5⟩
    go_wp2_with fail
    go_ret
    exact ⟨rfl, HK4.out.tr hk5⟩
end Go.Proofs.YtggdblmjnbnddaaDoor.W
