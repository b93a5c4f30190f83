/-
  fretsawlaw04.LexParts returns true for every two texts. No condition.
-/
import Derived.Test.YtggdblmjnbnddaaDoorLTo
import Derived.Test.YtggdblmjnbnddaaDoorLSf
import Derived.Test.YtggdblmjnbnddaaDoorLCo
namespace Go.Proofs.YtggdblmjnbnddaaDoor.W
open Go.RowKit Go.Proofs.YtggdblmjnbnddaaDoor.Pl

theorem lx_at : ∀ (n off : Nat) (l : List UInt8), l.length ≤ n → (lx off l).2.1 ≤ off + l.length := by
  refine lx_ind ?_ ?_ ?_ ?_ ?_
  · intro off; rw [lx_nil]; exact Nat.zero_le _
  · intro off c r hb ih
    rw [lx_blank _ hb, List.length_cons]
    omega
  · intro off c r hb hc ih
    have h1 := hash_cw r hc
    have h2 := cw_le notLf r
    rw [lx_hash _ hb hc, List.length_cons]
    rw [List.length_drop] at ih
    omega
  · intro off c r hb hc he ih
    rw [lx_tok _ hb hc he, List.length_cons]
    have hz := rd_size he
    rw [List.length_drop] at ih
    rw [List.length_cons] at hz
    unfold glue
    split
    · exact Nat.zero_le _
    · show (lx _ _).2.1 ≤ _
      omega
  · intro off c r hb hc he
    rw [lx_bad _ hb hc he]
    exact Nat.le_add_right _ _

/-- the tokens of two parts, in the three cases -/
theorem parts_bad {a : List UInt8} (b : List UInt8) (ha : a.length ≤ 600) (hb : b.length ≤ 600) (he : (toks a).2.2 ≠ 0) : toks (a ++ 10 :: b) = toks a := by
  rw [(toks_len a (by omega)).2] at he ⊢
  rw [(toks_len (a ++ 10 :: b) (by simp; omega)).2, lx_parts b _ 0 a (Nat.le_refl _), if_neg he]
theorem parts_two {a b : List UInt8} (ha : a.length ≤ 600) (hb : b.length ≤ 600) (he : (toks a).2.2 = 0) : toks (a ++ 10 :: b) = glue (toks a).1 (sh (a.length + 1) (toks b)) := by
  rw [(toks_len a (by omega)).2] at he ⊢
  rw [(toks_len b (by omega)).2, (toks_len (a ++ 10 :: b) (by simp; omega)).2, lx_parts b _ 0 a (Nat.le_refl _), if_pos he, Nat.add_assoc, lx_shift _ _ _ _ (Nat.le_refl _)]

/-- append(s, x...) from whatever source, under a guard -/
theorem wp_appW {w : World} {ops : Array Oper} {rest : List Oper} {o : Oper} {a : Act} {Q : Exit → Act → World → Prop} (hw : Region.wanted o (yielded ops a.tmps) = true) (s x : Operand) (t e : TypeId) (size bts : Nat) (z : Value)
    (ho : o.op = .call { callee := .builtin .append, args := #[s, x], argTypes := #[t, t] })
    (hu : Tryd.prog.underlying t = some (.slice e)) (hinfo : (Tryd.prog.info? e).map (fun i => (i.zero, i.size, i.bytes)) = some (some z, size, bts)) (hz : z.cells.size = size) (hsz : 0 < size)
    (B n m : Nat) (v u : Value) (vs us : List Value) (hs : a.eval s = v) (hown : w.ownsRow B e size v n vs) (hx : a.eval x = u) (hsrc : Src w size u m us) (hone : ∀ u ∈ us, u.oneCell' = true)
    (hlen : (n + m) * bts ≤ 140737488355328) (hn : n + m ≤ 9223372036854775807) (hB : B ≤ w.heap.size)
    (h : ∀ v' w', w'.ownsRow B e size v' (n + m) (vs ++ us) → Grew w w' v v' → wpList Tryd.prog ops Q rest (a.put o.dst v') w') :
    wpList Tryd.prog ops Q (o :: rest) a w := by
  obtain ⟨v', w', hr, h1, h2⟩ := run_appG o.type t e size bts z hu hinfo hz hsz B n m v u vs us hown hsrc hone hlen hn hB
  unfold wpList
  rw [if_pos hw]
  refine .inl ?_
  unfold Oper.wp execOp
  simp only [ho, resolve, invoke, builtin, Sem.run_bind, Sem.run_pure, Result.andThen_ok, List.map_toArray, List.map_cons, List.map_nil, hs, hx, hr]
  exact h v' w' h1 h2
theorem tkC_one (l : List Tk) : ∀ u ∈ flat tkC l, u.oneCell' = true := by
  intro u hu
  unfold flat at hu
  obtain ⟨t, _, ht⟩ := List.mem_flatMap.1 hu
  unfold tkC at ht
  simp at ht
  rcases ht with rfl | rfl | rfl | rfl <;> rfl

set_option maxRecDepth 100000 in
set_option maxHeartbeats 3200000 in
theorem parts_walk (s t : ByteArray) (w : World) :
    Calls Tryd.prog 8 #[.string s, .string t] w fun e w' => e = .returned (.bool true) ∧ Nw w w' := by
  obtain ⟨l, rfl⟩ : ∃ l, tx l = s := ⟨_, tx_of s⟩
  obtain ⟨m, rfl⟩ : ∃ m, tx m = t := ⟨_, tx_of t⟩
  have hsz := tx_size l
  have hsm := tx_size m
  obtain ⟨n, hn⟩ : ∃ n, l.length = n := ⟨_, rfl⟩
  obtain ⟨k, hk⟩ : ∃ k, m.length = k := ⟨_, rfl⟩
  rw [hn] at hsz
  rw [hk] at hsm
  have HN := Lib.hid hn
  have HK := Lib.hid hk
  clear hn hk
  by_cases hbig : 600 < n
  · go_enter Tryd.func8, Tryd.ntmps8
    go_wp2_with (go_at_call 10; ((with_reducible refine (awake_any _).mono ?_); rintro e w1 ⟨rfl, hk1⟩))
    go_ret
    exact ⟨rfl, hk1⟩
  by_cases hbig2 : 600 < k
  · go_enter Tryd.func8, Tryd.ntmps8
    go_wp2_with (go_at_call 10; ((with_reducible refine (awake_any _).mono ?_); rintro e w1 ⟨rfl, hk1⟩))
    go_ret
    exact ⟨rfl, hk1⟩
  obtain ⟨⟨ts, a, er⟩, hz⟩ : ∃ z, toks l = z := ⟨_, rfl⟩
  obtain ⟨⟨us, b, ef⟩, hy⟩ : ∃ z, toks m = z := ⟨_, rfl⟩
  obtain ⟨⟨vs, c, eg⟩, hx⟩ : ∃ z, toks (l ++ 10 :: m) = z := ⟨_, rfl⟩
  have hll : (l ++ 10 :: m).length ≤ 1201 := by have := HN.out; have := HK.out; simp; omega
  have hLt := (toks_len l (by have := HN.out; omega)).1
  have hLu := (toks_len m (by have := HK.out; omega)).1
  have hLv := (toks_len (l ++ 10 :: m) (by omega)).1
  have h1 := fun w1 => tokens_any l w1 (by have := HN.out; omega)
  have h2 := fun w1 => tokens_any m w1 (by have := HK.out; omega)
  have h3 := fun w1 => tokens_any (l ++ 10 :: m) w1 (by omega)
  have hcat : tx l ++ ByteArray.mk #[10] ++ tx m = tx (l ++ 10 :: m) := by rw [tx_ap1, tx_app]; simp
  have H3 : (er ≠ 0 → c = a ∧ eg = er) ∧ (er = 0 → ef ≠ 0 → c = n + 1 + b ∧ eg = ef) ∧ (er = 0 → ef = 0 → eg = 0 ∧ vs.map bare = (ts ++ us).map bare) := by
    refine ⟨fun he => ?_, fun he hf => ?_, fun he hf => ?_⟩
    · have := parts_bad (a := l) m (by have := HN.out; omega) (by have := HK.out; omega) (by rw [hz]; exact he)
      rw [hz, hx] at this
      simp only [Prod.mk.injEq] at this
      exact this.2
    · have := parts_two (a := l) (b := m) (by have := HN.out; omega) (by have := HK.out; omega) (by rw [hz]; exact he)
      rw [hz, hx, hy] at this
      simp only [glue, sh, if_neg hf, Prod.mk.injEq, HN.out] at this
      exact ⟨by omega, this.2.2⟩
    · have := parts_two (a := l) (b := m) (by have := HN.out; omega) (by have := HK.out; omega) (by rw [hz]; exact he)
      rw [hz, hx, hy] at this
      simp only [glue, sh, hf, if_true, Prod.mk.injEq] at this
      refine ⟨this.2.2, ?_⟩
      rw [this.1, List.map_append, List.map_append, map_bare_sh]
  have hbl : b ≤ 600 := by
    have := lx_at _ 0 m (Nat.le_refl _)
    rw [← (toks_len m (by have := HK.out; omega)).2, hy] at this
    have := HK.out
    simp only at *
    omega
  rw [hz] at hLt h1
  rw [hy] at hLu h2
  rw [hx] at hLv h3
  have hlt : ts.length ≤ 1099511627775 := Nat.le_trans hLt (by have := HN.out; omega)
  have hlu : us.length ≤ 1099511627775 := Nat.le_trans hLu (by have := HK.out; omega)
  have hlv : vs.length ≤ 1099511627775 := Nat.le_trans hLv (by omega)
  have hlt2 : ts.length + us.length ≤ 1200 := by
    have h1 : ts.length ≤ l.length := hLt
    have h2 : us.length ≤ m.length := hLu
    have := HN.out
    have := HK.out
    omega
  clear hz hy hx hLt hLu hLv hll
  have HC := Lib.hid H3
  clear H3
  go_enter Tryd.func8, Tryd.ntmps8
  go_wp2_with fail
  refine (awake_any _).mono ?_
  rintro e w1 ⟨rfl, hk1⟩
  have HK1 := Lib.hid hk1
  clear hk1
  go_wp2_with fail
  refine (h1 _).mono ?_
  rintro e w2 ⟨v2, rfl, hown2, hk2⟩
  have HO2 := Lib.hid (OwnTk.src hown2)
  have HK2 := Lib.hid (HK1.out.tr hk2)
  clear hown2 hk2 h1
  go_wp2_with fail
  refine (h2 _).mono ?_
  rintro e w3 ⟨v3, rfl, hown3, hk3⟩
  have HO3 := Lib.hid (HO2.out.nw hk3)
  have HP3 := Lib.hid (OwnTk.src hown3)
  have HK3 := Lib.hid (HK2.out.tr hk3)
  clear hown3 hk3 h2
  go_wp2_with fail
  refine (h3 _).mono ?_
  rintro e w4 ⟨v4, rfl, hown4, hk4⟩
  have HO4 := Lib.hid (HO3.out.nw hk4)
  have HP4 := Lib.hid (HP3.out.nw hk4)
  have HQ4 := Lib.hid (OwnTk.src hown4)
  have HK4 := Lib.hid (HK3.out.tr hk4)
  clear hown4 hk4 h3 hcat
  by_cases her : er = 0
  · subst her
    by_cases hef : ef = 0
    · subst hef
      obtain ⟨hg, hm⟩ := HC.out.2.2 rfl rfl
      subst hg
      have HM := Lib.hid hm
      clear hm
      go_wp2_with fail
      refine (theirs_any v4 vs w4 HQ4.out hlv).mono ?_
      rintro e w5 ⟨v5, rfl, hown5, hk5⟩
      have HO5 := Lib.hid (HO4.out.nw hk5)
      have HP5 := Lib.hid (HP4.out.nw hk5)
      have HQ5 := Lib.hid (OwnRk.src hown5)
      have HK5 := Lib.hid (HK4.out.tr hk5)
      clear hown5 hk5
      go_wp2_with fail
      refine (theirs_any v2 ts w5 HO5.out hlt).mono ?_
      rintro e w6 ⟨v6, rfl, hown6, hk6⟩
      have HS5 := Lib.hid hk6
      have HO6 := Lib.hid hown6
      have HP6 := Lib.hid (HP5.out.nw hk6)
      have HK6 := Lib.hid (HK5.out.tr hk6)
      clear hown6 hk6
      go_wp2_with fail
      refine (theirs_any v3 us w6 HP6.out hlu).mono ?_
      rintro e w7 ⟨v7, rfl, hown7, hk7⟩
      have HS6 := Lib.hid (HS5.out.tr hk7)
      have HO7 := Lib.hid (own_nw HO6.out hk7)
      have HP7 := Lib.hid (OwnRk.src hown7)
      have HK7 := Lib.hid (HK6.out.tr hk7)
      clear hown7 hk7
      go_wp2_with (at_builtin; refine wp_appW rfl (.tmp 75) (.tmp 77) 27 34 4 40 (.agg #[.int .i64 0, .string { data := #[] }, .int .i64 0, .int .i64 0]) rfl Tryd.underlying27 infoRk rfl (by omega) w5.heap.size ts.length us.length _ _ (flat tkC ts) (flat tkC us) rfl HO7.out rfl HP7.out (tkC_one us) ?_ ?_ ?_ ?_; omega; omega; exact HS6.out.size; intro v8 w8 own8 gr8)
      have hn8 := gr8.nw HS6.out (own_from HO7.out)
      have hv8 : SrcT w8 v8 (ts ++ us) := by
        unfold SrcT
        rw [List.length_append, flat_app]
        exact own_src own8
      refine (sameF_any v5 v8 vs (ts ++ us) w8 (HQ5.out.nw hn8) hv8 HM.out hlv).mono ?_
      rintro e w9 ⟨rfl, hk9⟩
      have HK9 := Lib.hid ((HK5.out.tr hn8).tr hk9)
      clear hn8 hv8 hk9 own8 gr8
      go_wp2_with fail
      go_ret
      exact ⟨rfl, HK9.out⟩
    · obtain ⟨hc, hg⟩ := HC.out.2.1 rfl hef
      subst hc
      subst hg
      have hw : wrap64 (wrap64 ((n : Int) + 1) + (b : Int)) = (n : Int) + 1 + (b : Int) := by unfold wrap64; omega
      go_wp2_with fail
      go_ret
      exact ⟨rfl, HK4.out⟩
  · obtain ⟨hc, hg⟩ := HC.out.1 her
    subst hc
    subst hg
    go_wp2_with fail
    go_ret
    exact ⟨rfl, HK4.out⟩
end Go.Proofs.YtggdblmjnbnddaaDoor.W
