/-
  fretsawlaw04.LexBlanks returns true for every text and every choice of blanks. Condition: the table of the powers of ten is laid; the choices are read.
-/
import Derived.Test.YtggdblmjnbnddaaDoorLRo
import Derived.Test.YtggdblmjnbnddaaDoorLCo
import Derived.Test.YtggdblmjnbnddaaDoorLArg
import Derived.Deep.RegionHeld3
namespace Go.Proofs.YtggdblmjnbnddaaDoor.W
open Go.RowKit Go.Proofs.YtggdblmjnbnddaaDoor.Pl

theorem weave_end (tail : List UInt8) : ∀ gs : List (List UInt8 × Tk), weave tail gs = weave [] gs ++ tail
  | [] => rfl
  | (g, t) :: r => by rw [weave, weave, weave_end tail r]; simp
theorem weave_snoc (g : List UInt8) (t : Tk) : ∀ gs : List (List UInt8 × Tk), weave [] (gs ++ [(g, t)]) = weave [] gs ++ (g ++ wr t)
  | [] => by simp [weave]
  | (g', t') :: r => by rw [List.cons_append, weave, weave, weave_snoc g t r]; simp
theorem weave_len : ∀ gs : List (List UInt8 × Tk), (∀ p ∈ gs, p.1 ∈ gapA) → (weave [] gs).length ≤ 10 * gs.length + total (gs.map (·.2))
  | [], _ => Nat.zero_le _
  | (g, t) :: r, h => by
    have h1 := (gapA_ok g (h (g, t) (by simp))).2.2.2
    have h2 := weave_len r fun p hp => h p (by simp [hp])
    rw [weave, List.length_append, List.length_append, List.length_cons]
    unfold total at h2 ⊢
    simp only [List.map_cons, List.sum_cons] at h2 ⊢
    omega
theorem total_take (ts : List Tk) (j : Nat) : total (ts.take j) ≤ total ts := by
  have h : total ts = total (ts.take j) + total (ts.drop j) := by
    unfold total
    rw [← List.sum_append, ← List.map_append, List.take_append_drop]
  omega

theorem total_one {ts : List Tk} {j : Nat} {x : Tk} (h : ts[j]? = some x) : (Pl.wr x).length ≤ total ts := by
  have e : ts = ts.take j ++ x :: ts.drop (j + 1) := by
    obtain ⟨hj, rfl⟩ := List.getElem?_eq_some_iff.1 h
    rw [← List.drop_eq_getElem_cons hj, List.take_append_drop]
  have e2 := congrArg total e
  unfold total at e2 ⊢
  rw [List.map_append, List.sum_append, List.map_cons, List.sum_cons] at e2
  omega
theorem gap_cell {k : Nat} {G : List UInt8} (h : gapA[k]? = some G) : (#[.string { data := #[32] }, .string { data := #[10] }, .string { data := #[9, 9] }, .string { data := #[32, 35, 32, 97, 32, 125, 32, 49, 98, 10] }] : Array Value)[k]? = some (.string (tx G)) := by
  match k, h with
  | 0, h => cases h; rfl
  | 1, h => cases h; rfl
  | 2, h => cases h; rfl
  | 3, h => cases h; rfl
  | k + 4, h => simp [gapA] at h

set_option maxRecDepth 100000 in
set_option maxHeartbeats 3200000 in
theorem blanks_walk (s : ByteArray) (v : Value) (cs : List Int) (w : World) (hT : Tab w) (hs : Src w 1 v cs.length (flat cvB cs)) (hb : ∀ x ∈ cs, 0 ≤ x ∧ x < 256) :
    Calls Tryd.prog 7 #[.string s, v] w fun e w' => e = .returned (.bool true) ∧ Nw w w' := by
  obtain ⟨l, rfl⟩ : ∃ l, tx l = s := ⟨_, tx_of s⟩
  obtain ⟨A, cap, rfl⟩ := hs.shape
  have hsz := tx_size l
  obtain ⟨n, hn⟩ : ∃ n, l.length = n := ⟨_, rfl⟩
  obtain ⟨m, hm⟩ : ∃ m, cs.length = m := ⟨_, rfl⟩
  rw [hn] at hsz
  have HN := Lib.hid hn
  have HM := Lib.hid hm
  have HS := Lib.hid hs
  rw [hm]
  clear hn hm hs
  by_cases hbig : 600 < n
  · go_enter Tryd.func7, Tryd.ntmps7
    go_wp2_with (go_at_call 10; ((with_reducible refine (awake_any _).mono ?_); rintro e w1 ⟨rfl, hk1⟩))
    go_ret
    exact ⟨rfl, hk1⟩
  by_cases hbig2 : 40 < m
  · go_enter Tryd.func7, Tryd.ntmps7
    go_wp2_with (go_at_call 10; ((with_reducible refine (awake_any _).mono ?_); rintro e w1 ⟨rfl, hk1⟩))
    go_ret
    exact ⟨rfl, hk1⟩
  go_enter Tryd.func7, Tryd.ntmps7
  have hG := toks_of l (by have := HN.out; omega)
  obtain ⟨⟨ts, a, er⟩, hz⟩ : ∃ z, toks l = z := ⟨_, rfl⟩
  have h1 := fun w1 => tokens_any l w1 (by have := HN.out; omega)
  rw [hz] at hG h1
  replace hG : Toks ts := hG
  have htl : ts.length ≤ 600 := hG.len
  have HG := Lib.hid hG
  clear hz hG
  go_wp2_with fail
  refine (awake_any _).mono ?_
  rintro e w1 ⟨rfl, hk1⟩
  have HK1 := Lib.hid hk1
  clear hk1
  go_wp2_with fail
  refine (h1 _).mono ?_
  rintro e w2 ⟨v2, rfl, hown2, hk2⟩
  have HO2 := Lib.hid (OwnTk.src hown2)
  have HK2 := Lib.hid (HK1.out.tr hk2)
  obtain ⟨A2, cap2, rfl⟩ := HO2.out.shape
  clear hown2 hk2 h1
  by_cases her : er = 0
  · subst her
    obtain ⟨q, hq⟩ : ∃ q, ts.length = q := ⟨_, rfl⟩
    have HQ := Lib.hid hq
    have hlq : (ts, a, (0 : Int)).1.length = q := hq
    rw [hlq] at *
    clear hq hlq
    go_wp2_with fail
    obtain ⟨P, hP⟩ : ∃ P, w2.heap.size = P := ⟨_, rfl⟩
    obtain ⟨w3, hw3⟩ : ∃ w3, w2.alloc (.cells #[.string { data := #[32] }, .string { data := #[10] }, .string { data := #[9, 9] }, .string { data := #[32, 35, 32, 97, 32, 125, 32, 49, 98, 10] }] 42) = w3 := ⟨_, rfl⟩
    have HB3 := Lib.hid (show Blk w3 P 42 #[.string { data := #[32] }, .string { data := #[10] }, .string { data := #[9, 9] }, .string { data := #[32, 35, 32, 97, 32, 125, 32, 49, 98, 10] }] from hw3 ▸ Blk.new_at w2 _ _ hP)
    have HK3 := Lib.hid (show Nw w2 w3 from hw3 ▸ (Kp.refl _ w2).alloc _)
    rw [hw3, hP]
    clear hw3 hP
    go_loopw [9, 10] (fun a i wr => ∃ (j : Nat) (gs : List (List UInt8 × Tk)), i = .int .i64 j ∧ j ≤ q ∧ a = .string (tx (weave [] gs)) ∧ gs.map (·.2) = ts.take j ∧ (∀ p ∈ gs, p.1 ∈ gapA) ∧ Nw w3 wr) (fun _ i _ => q - (intOf i).toNat)
    case atStart => exact ⟨0, [], rfl, Nat.zero_le _, rfl, rfl, fun p hp => absurd hp List.not_mem_nil, Kp.refl _ _⟩
    case round =>
      obtain ⟨j, gs, rfl, hj, rfl, hgs, hga, hnw⟩ := hrel
      by_cases hlt : j < q
      · have hjl : j < ts.length := by have := HQ.out; omega
        obtain ⟨x, hx⟩ : ∃ x, ts[j]? = some x := ⟨_, List.getElem?_eq_getElem hjl⟩
        have hsu := (HO2.out).nw (HK3.out.tr hnw)
        obtain ⟨g, o, c2, hv2, _, _⟩ := hsu.form (by omega)
        simp only [Value.slice.injEq] at hv2
        have hA := hv2.1
        clear hv2
        obtain ⟨x0, x1, x2, x3⟩ := hsu.at_ hA hx
        subst hA
        have hlj : (weave [] gs).length ≤ 6600 := by
          have h1 := weave_len gs hga
          have h2 := congrArg List.length hgs
          simp at h2
          rw [hgs] at h1
          have h3 := total_take ts j
          have h4 := HG.out.sum
          omega
        have hsw := tx_size (weave [] gs)
        have hd1 : decide ((j : Int) < (q : Int)) = true := decide_eq_true (by omega)
        by_cases hm0 : m = 0
        · have hdm : decide ((0 : Int) < (m : Int)) = false := decide_eq_false (by omega)
          have hdm2 : decide (0 < m) = false := decide_eq_false (by omega)
          clear hm0
          go_wp2_with fail
          obtain ⟨G, hG⟩ : ∃ G, gapA[0]? = some G := ⟨_, List.getElem?_eq_getElem (by show 0 < 4; omega)⟩
          have hGm := List.mem_of_getElem? hG
          have p0 : wr.cell? ⟨P, 0, none⟩ = some (.string (tx G)) := ((HB3.out.kp hnw fun e => e).cell 0).trans (gap_cell hG)
          have hPl : P < wr.heap.size := Nat.lt_of_lt_of_le HB3.out.lt hnw.size
          have hgl : g < wr.heap.size := World.block_lt_of_cell? wr _ x0
          have hSS : ∀ w', Nw wr w' → w'.cell? (⟨P, 0, none⟩ : Addr) = some (.string (tx G)) ∧ w'.cell? (⟨g, o + j * 4, none⟩ : Addr) = some (.int .i64 x.kind) ∧ w'.cell? (⟨g, o + j * 4 + 1, none⟩ : Addr) = some (.string (tx x.text)) ∧ w'.cell? (⟨g, o + j * 4 + 2, none⟩ : Addr) = some (.int .i64 x.n) ∧ w'.cell? (⟨g, o + j * 4 + 3, none⟩ : Addr) = some (.int .i64 x.at_) := fun w' hk =>
            ⟨(hk.cell (p := ⟨P, 0, none⟩) hPl fun e => e).trans p0, (hk.cell (p := ⟨g, o + j * 4, none⟩) hgl fun e => e).trans x0, (hk.cell (p := ⟨g, o + j * 4 + 1, none⟩) hgl fun e => e).trans x1, (hk.cell (p := ⟨g, o + j * 4 + 2, none⟩) hgl fun e => e).trans x2, (hk.cell (p := ⟨g, o + j * 4 + 3, none⟩) hgl fun e => e).trans x3⟩
          have HSS := Lib.hid hSS
          obtain ⟨u, hu⟩ : ∃ u, Pl.wr x = u := ⟨_, rfl⟩
          obtain ⟨gl, hgl2⟩ : ∃ gl, G.length = gl := ⟨_, rfl⟩
          obtain ⟨ul, hul⟩ : ∃ ul, u.length = ul := ⟨_, rfl⟩
          have hg10 : gl ≤ 10 := by rw [← hgl2]; exact (gapA_ok G hGm).2.2.2
          have hu600 : ul ≤ 600 := by
            rw [← hul, ← hu]
            exact Nat.le_trans (total_one hx) HG.out.sum
          have hsG := tx_size G
          have hsU := tx_size u
          have hsGU := tx_size (G ++ u)
          rw [List.length_append, hgl2, hul] at hsGU
          rw [hgl2] at hsG
          rw [hul] at hsU
          have hcat1 := tx_app G u
          have hcat2 : tx (weave [] gs) ++ tx (G ++ u) = tx (weave [] (gs ++ [(G, x)])) := by rw [tx_app, weave_snoc, hu]
          have hww := fun w1 => write_any x w1 (HG.out.fit x (List.mem_of_getElem? hx))
          rw [hu] at hww
          have HT := Lib.hid (hT.nw (HK2.out.tr (HK3.out.tr (hnw.tr ((Kp.refl _ wr).drew)))))
          have HW := Lib.hid hnw
          have HGS := Lib.hid (show (gs ++ [(G, x)]).map (·.2) = ts.take (j + 1) by rw [List.map_append, hgs, List.take_add_one, hx]; rfl)
          have HGA := Lib.hid (show ∀ p ∈ gs ++ [(G, x)], p.1 ∈ gapA from fun p hp => by rcases List.mem_append.1 hp with h | h; exact hga p h; rw [List.mem_singleton] at h; subst h; exact hGm)
          clear hSS hG hGm hu hgl2 hul hnw hgs hga hsu hx p0 x0 x1 x2 x3
          obtain ⟨p0, x0, x1, x2, x3⟩ := HSS.out wr.drew ((Kp.refl _ wr).drew)
          go_region_with ((go_at_call 15; ((with_reducible refine (hww _ HT.out).mono ?_); rintro e w5 ⟨rfl, hk5⟩; have HK5 := Lib.hid (Kp.undrew hk5); obtain ⟨p5, y0, y1, y2, y3⟩ := HSS.out _ HK5.out)))
          all_goals
            go_wp2_with fail
            go_roundw
            case rel => exact ⟨j + 1, gs ++ [(G, x)], by go_num, by omega, rfl, HGS.out, HGA.out, HW.out.tr HK5.out⟩
            case measure => simp [intOf]; omega
        · obtain ⟨r, hr⟩ : ∃ r, j % m = r := ⟨_, rfl⟩
          have hrm : r < m := by rw [← hr]; exact Nat.mod_lt _ (by omega)
          obtain ⟨y, hy⟩ : ∃ y, cs[r]? = some y := ⟨cs[r]'(by have := HM.out; omega), List.getElem?_eq_getElem _⟩
          obtain ⟨hy0, hy1⟩ := hb y (List.mem_of_getElem? hy)
          have hsr := HS.out.nw (HK2.out.tr (HK3.out.tr hnw))
          obtain ⟨g1, o1, hA1⟩ := hsr.lies (by have := HM.out; omega)
          subst hA1
          have z0 := hsr.one_at cvB_len hy rfl
          obtain ⟨kk, hkk⟩ : ∃ kk : Nat, y % 4 = (kk : Int) := ⟨(y % 4).toNat, by omega⟩
          have hk4 : kk < 4 := by omega
          have hri : (j : Int) % (m : Int) = (r : Int) := by rw [← hr]; simp
          have hmi : ¬ (m : Int) = 0 := by omega
          have hrl : (r : Int) < (m : Int) := by omega
          have hki : (kk : Int) < 4 := by omega
          have hk0 : (0 : Int) ≤ (kk : Int) := by omega
          have hdm : decide ((0 : Int) < (m : Int)) = true := decide_eq_true (by omega)
          have hdm2 : decide (0 < m) = true := decide_eq_true (by omega)
          clear hm0 hr hy hsr
          go_wp2_with fail
          rw [hkk]
          obtain ⟨G, hG⟩ : ∃ G, gapA[kk]? = some G := ⟨_, List.getElem?_eq_getElem (by show kk < 4; omega)⟩
          have hGm := List.mem_of_getElem? hG
          have p0 : wr.cell? ⟨P, kk, none⟩ = some (.string (tx G)) := ((HB3.out.kp hnw fun e => e).cell kk).trans (gap_cell hG)
          have hPl : P < wr.heap.size := Nat.lt_of_lt_of_le HB3.out.lt hnw.size
          have hgl : g < wr.heap.size := World.block_lt_of_cell? wr _ x0
          have hSS : ∀ w', Nw wr w' → w'.cell? (⟨P, kk, none⟩ : Addr) = some (.string (tx G)) ∧ w'.cell? (⟨g, o + j * 4, none⟩ : Addr) = some (.int .i64 x.kind) ∧ w'.cell? (⟨g, o + j * 4 + 1, none⟩ : Addr) = some (.string (tx x.text)) ∧ w'.cell? (⟨g, o + j * 4 + 2, none⟩ : Addr) = some (.int .i64 x.n) ∧ w'.cell? (⟨g, o + j * 4 + 3, none⟩ : Addr) = some (.int .i64 x.at_) := fun w' hk =>
            ⟨(hk.cell (p := ⟨P, kk, none⟩) hPl fun e => e).trans p0, (hk.cell (p := ⟨g, o + j * 4, none⟩) hgl fun e => e).trans x0, (hk.cell (p := ⟨g, o + j * 4 + 1, none⟩) hgl fun e => e).trans x1, (hk.cell (p := ⟨g, o + j * 4 + 2, none⟩) hgl fun e => e).trans x2, (hk.cell (p := ⟨g, o + j * 4 + 3, none⟩) hgl fun e => e).trans x3⟩
          have HSS := Lib.hid hSS
          obtain ⟨u, hu⟩ : ∃ u, Pl.wr x = u := ⟨_, rfl⟩
          obtain ⟨gl, hgl2⟩ : ∃ gl, G.length = gl := ⟨_, rfl⟩
          obtain ⟨ul, hul⟩ : ∃ ul, u.length = ul := ⟨_, rfl⟩
          have hg10 : gl ≤ 10 := by rw [← hgl2]; exact (gapA_ok G hGm).2.2.2
          have hu600 : ul ≤ 600 := by
            rw [← hul, ← hu]
            exact Nat.le_trans (total_one hx) HG.out.sum
          have hsG := tx_size G
          have hsU := tx_size u
          have hsGU := tx_size (G ++ u)
          rw [List.length_append, hgl2, hul] at hsGU
          rw [hgl2] at hsG
          rw [hul] at hsU
          have hcat1 := tx_app G u
          have hcat2 : tx (weave [] gs) ++ tx (G ++ u) = tx (weave [] (gs ++ [(G, x)])) := by rw [tx_app, weave_snoc, hu]
          have hww := fun w1 => write_any x w1 (HG.out.fit x (List.mem_of_getElem? hx))
          rw [hu] at hww
          have HT := Lib.hid (hT.nw (HK2.out.tr (HK3.out.tr (hnw.tr ((Kp.refl _ wr).drew)))))
          have HW := Lib.hid hnw
          have HGS := Lib.hid (show (gs ++ [(G, x)]).map (·.2) = ts.take (j + 1) by rw [List.map_append, hgs, List.take_add_one, hx]; rfl)
          have HGA := Lib.hid (show ∀ p ∈ gs ++ [(G, x)], p.1 ∈ gapA from fun p hp => by rcases List.mem_append.1 hp with h | h; exact hga p h; rw [List.mem_singleton] at h; subst h; exact hGm)
          clear hSS hG hGm hu hgl2 hul hnw hgs hga hsu hx p0 x0 x1 x2 x3
          obtain ⟨p0, x0, x1, x2, x3⟩ := HSS.out wr.drew ((Kp.refl _ wr).drew)
          go_region_with ((go_at_call 15; ((with_reducible refine (hww _ HT.out).mono ?_); rintro e w5 ⟨rfl, hk5⟩; have HK5 := Lib.hid (Kp.undrew hk5); obtain ⟨p5, y0, y1, y2, y3⟩ := HSS.out _ HK5.out)))
          all_goals
            go_wp2_with fail
            go_roundw
            case rel => exact ⟨j + 1, gs ++ [(G, x)], by go_num, by omega, rfl, HGS.out, HGA.out, HW.out.tr HK5.out⟩
            case measure => simp [intOf]; omega
      · obtain rfl : j = q := by omega
        have hd1 : decide ((j : Int) < (j : Int)) = false := decide_eq_false (by omega)
        rw [show ts.take j = ts from List.take_of_length_le (by have := HQ.out; omega)] at hgs
        have hlj : (weave [] gs).length ≤ 6600 := by
          have h1 := weave_len gs hga
          have h2 := congrArg List.length hgs
          simp at h2
          rw [hgs] at h1
          have h4 := HG.out.sum
          omega
        obtain ⟨us, hu1, hu2⟩ := lx_gaps (gs := gs) fun p hp => ⟨hga p hp, HG.out.good p.2 (by rw [← hgs]; exact List.mem_map.2 ⟨p, hp, rfl⟩)⟩
        have hul : us.length ≤ 600 := by
          have h1 := congrArg List.length hu2
          have h2 := congrArg List.length hgs
          simp at h1 h2
          omega
        have hbare : ts.map bare = us.map bare := by rw [hu2, ← hgs, List.map_map]; rfl
        have hwl : (weave theEnd gs).length ≤ 6610 := by rw [weave_end, List.length_append]; simp [theEnd]; omega
        have h2 := fun w1 => tokens_any (weave theEnd gs) w1 (by omega)
        rw [(toks_len _ (by omega)).2, hu1] at h2
        have hsw := tx_size (weave [] gs)
        have hcat : tx (weave [] gs) ++ ByteArray.mk #[32, 35, 32, 116, 104, 101, 32, 101, 110, 100] = tx (weave theEnd gs) := by rw [tx_ap1, weave_end theEnd]; rfl
        have HB := Lib.hid hbare
        have HK4 := Lib.hid ((HK2.out.tr HK3.out).tr hnw)
        have HO4 := Lib.hid (show SrcT wr (.slice A2 j cap2) ts by have := HO2.out.nw (HK3.out.tr hnw); rw [HQ.out] at this; exact this)
        clear hgs hga hu1 hu2 hnw hbare
        go_wp2_with fail
        with_reducible refine (h2 _).mono ?_
        rintro e w5 ⟨v5, rfl, hown5, hk5⟩
        have HO5 := Lib.hid (HO4.out.nw hk5)
        have HP5 := Lib.hid (OwnTk.src hown5)
        have HK5 := Lib.hid (HK4.out.tr hk5)
        clear hown5 hk5 h2
        go_wp2_with fail
        with_reducible refine (theirs_any _ ts w5 HO5.out (by omega)).mono ?_
        rintro e w6 ⟨v6, rfl, hown6, hk6⟩
        have HO6 := Lib.hid (OwnRk.src hown6)
        have HP6 := Lib.hid (HP5.out.nw hk6)
        have HK6 := Lib.hid (HK5.out.tr hk6)
        clear hown6 hk6
        go_wp2_with fail
        refine (theirs_any v5 us w6 HP6.out (by omega)).mono ?_
        rintro e w7 ⟨v7, rfl, hown7, hk7⟩
        have HO7 := Lib.hid (HO6.out.nw hk7)
        have HP7 := Lib.hid (OwnRk.src hown7)
        have HK7 := Lib.hid (HK6.out.tr hk7)
        clear hown7 hk7
        go_wp2_with fail
        refine (sameF_any v6 v7 ts us w7 HO7.out HP7.out HB.out (by omega)).mono ?_
        rintro e w8 ⟨rfl, hk8⟩
        have HK8 := Lib.hid (HK7.out.tr hk8)
        clear hk8
        go_wp2_with fail
        go_ret
        exact ⟨rfl, HK8.out⟩
  · go_wp2_with fail
    go_ret
    exact ⟨rfl, HK2.out⟩
end Go.Proofs.YtggdblmjnbnddaaDoor.W
