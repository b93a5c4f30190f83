/-
  fretsawlaw01.WireRoundTrip, the walk: for every list, texts and further bytes the call returns true and writes nothing that was there. Conditions: the arguments' memory is below the heap's end; each is shorter than 2^47.
-/
import Derived.Test.YtcmpdnpdipckmaaBack
import Derived.Test.YtcmpdnpdipckmaaInts
import Derived.Test.YtcmpdnpdipckmaaRing
import Derived.Test.YtcmpdnpdipckmaaFew
import Derived.Test.YtcmpdnpdipckmaaSameV
import Derived.Test.YtcmpdnpdipckmaaAwake
import Derived.Deep.RegionHeld3
import Derived.Lib.ConvBytes
namespace Go.Proofs.Ytcmpdnpdipckmaa.W
open Go.RowKit Go.Proofs.Ytcmpdnpdipckmaa.Pl

/-- rows of different element types lie in different blocks -/
theorem own_ne {w : World} {B B' e e' size size' n n' : Nat} {v v' : Value} {vs vs' : List Value} (h : w.ownsRow B e size v n vs) (h' : w.ownsRow B' e' size' v' n' vs') (hne : e ≠ e') : v.ownBlock = none ∨ v.ownBlock ≠ v'.ownBlock := by
  rcases h.2 with ⟨rfl, _⟩ | ⟨g, cap, cur, rfl, _, hg, _⟩
  · exact .inl rfl
  · rcases h'.2 with ⟨rfl, _⟩ | ⟨g', cap', cur', rfl, _, hg', _⟩
    · exact .inr (by simp [Value.ownBlock])
    · refine .inr ?_
      simp only [Value.ownBlock, ne_eq, Option.some.injEq]
      rintro rfl
      rw [hg] at hg'
      injection hg' with hg'
      injection hg' with _ ht
      exact hne ht
theorem keepC {w w' : World} {b v x : Value} {B : Nat} {a : Addr} (h : Grew w w' b v) (hb : ∀ k, b.ownBlock = some k → B ≤ k) (ha : a.block < B) (hc : w.cell? a = some x) : w'.cell? a = some x :=
  h.by_.cell hc (fun e => by have := hb _ e.symm; omega)
theorem nil_ne (v : Value) : v.ownBlock = none ∨ v.ownBlock ≠ (Value.slice none 0 0).ownBlock := by cases v.ownBlock <;> simp [Value.ownBlock]
theorem src_at {w : World} {g o n c size : Nat} {vs : List Value} (h : Src w size (.slice (some ⟨g, o, none⟩) n c) n vs) (hn : 0 < n) : g < w.heap.size := by
  obtain ⟨_, A, c', hv, hc⟩ := h
  simp only [Value.slice.injEq] at hv
  obtain ⟨rfl, _, rfl⟩ := hv
  obtain ⟨ad, e, hlt, _⟩ := hc hn
  injection e with e
  subst e
  exact hlt

set_option maxRecDepth 200000 in
set_option maxHeartbeats 4000000 in
theorem trip_walk (vl vs vr : Value) (l : List Int) (ss : List ByteArray) (rest : List Int) (w : World) (hI : ∀ x ∈ l, I64 x) (hby : By rest) (hsz : ∀ s ∈ ss, s.size ≤ 9223372036854775807)
    (hl : SrcI w vl l) (hs : SrcS w vs ss) (hr : Src w 1 vr rest.length (bytes rest)) (h1 : l.length ≤ 140737488355328) (h2 : ss.length ≤ 140737488355328) (h3 : rest.length ≤ 140737488355328) :
    Calls Try.prog 4 #[vl, vs, vr] w fun e w' => e = .returned (.bool true) ∧ Below w.heap.size w w' := by
  obtain ⟨Al, cl, rfl⟩ := hl.shape
  obtain ⟨As, cs, rfl⟩ := hs.shape
  obtain ⟨Ar, cr, rfl⟩ := hr.shape
  obtain ⟨n, hn⟩ : ∃ n, n = l.length := ⟨_, rfl⟩
  obtain ⟨m, hm⟩ : ∃ m, m = ss.length := ⟨_, rfl⟩
  obtain ⟨q, hq⟩ : ∃ q, q = rest.length := ⟨_, rfl⟩
  have hl0 := hl
  have hs0 := hs
  have hr0 := hr
  rw [← hn] at hl0
  rw [← hm] at hs0
  rw [← hq] at hr0
  have hn1 : n ≤ 140737488355328 := by omega
  have hm1 : m ≤ 140737488355328 := by omega
  have hq1 : q ≤ 140737488355328 := by omega
  rw [← hn, ← hm, ← hq]
  have HN := Lib.hid hn
  have HM := Lib.hid hm
  have HQ := Lib.hid hq
  clear hn hm hq
  by_cases hbig : 60 < n
  · have hd1 : decide (60 < (n : Int)) = true := decide_eq_true (by omega)
    go_enter Try.func4, Try.ntmps4
    go_wp2_with (go_at_call 9; go_must (refine (awake_any _).mono ?_); rintro e w1 ⟨rfl, hb1⟩)
    go_ret
    exact ⟨rfl, hb1⟩
  · have hd1 : decide (60 < (n : Int)) = false := decide_eq_false (by omega)
    cases hf : fewT ss with
    | false =>
      have HF := Lib.hid hf
      clear hf
      go_enter Try.func4, Try.ntmps4
      go_wp2_with (first
        | (go_at_call 9; go_must (refine (awake_any _).mono ?_); rintro e w1 ⟨rfl, hb1⟩)
        | (go_at_call 16; rw [HM.out]; go_must (refine (few_any _ ss _ (Src.below hs hb1) ?_ hsz).mono ?_); omega; rintro e w2 ⟨rfl, rfl⟩; rw [HF.out, ← HM.out]))
      go_ret
      exact ⟨rfl, hb1⟩
    | true =>
      have HF := Lib.hid hf
      clear hf
      by_cases hbig2 : 300 < q
      · have hd2 : decide (300 < (q : Int)) = true := decide_eq_true (by omega)
        go_enter Try.func4, Try.ntmps4
        go_wp2_with (first
          | (go_at_call 9; go_must (refine (awake_any _).mono ?_); rintro e w1 ⟨rfl, hb1⟩)
          | (go_at_call 16; rw [HM.out]; go_must (refine (few_any _ ss _ (Src.below hs hb1) ?_ hsz).mono ?_); omega; rintro e w2 ⟨rfl, rfl⟩; rw [HF.out, ← HM.out]))
        go_ret
        exact ⟨rfl, hb1⟩
      · have hd2 : decide (300 < (q : Int)) = false := decide_eq_false (by omega)
        go_enter Try.func4, Try.ntmps4
        go_wp2_with (first
          | (go_at_call 9; go_must (refine (awake_any _).mono ?_); rintro e w1 ⟨rfl, hb1⟩)
          | (go_at_call 16; rw [HM.out]; go_must (refine (few_any _ ss _ (Src.below hs hb1) ?_ hsz).mono ?_); omega; rintro e w2 ⟨rfl, rfl⟩; rw [HF.out, ← HM.out]))
        rw [HN.out]
        refine (ints_any w.heap.size (.slice none 0 0) [] _ l _ hb1.size ?_ ?_ hI (OwnB.nil _ _) (Src.below hl hb1) (nil_ne _)).mono ?_
        · have := HN.out; omega
        · simp
        rintro e w2 ⟨v2, rfl, own2, gr2⟩
        have hb2 := hb1.trans (gr2.below hb1.size (by intro k hk; cases hk))
        rw [← HN.out]
        rw [List.nil_append] at own2
        clear gr2
        go_wp2_with fail
        go_loopw [7, 8, 9] (fun b r i wr => ∃ k : Nat, k ≤ n ∧ i = .int .i64 k ∧ OwnB wr w.heap.size b (encL enc l ++ (l.take k).flatMap encIB) ∧ OwnV wr w.heap.size r (ringOf (l.take k)) ∧ Below w.heap.size w wr) (fun _ _ i _ => n - (intOf i).toNat)
        case atStart => exact ⟨0, by omega, rfl, by simpa using own2, OwnV.nil _ _, hb2⟩
        case round =>
          obtain ⟨k, hk, rfl, hownb, hownr, hb3⟩ := hrel
          clear own2 hb2 hb1
          have HB := Lib.hid hownb
          have HR := Lib.hid hownr
          have hfrb := Lib.hid hownb.from_
          clear hownb hownr
          by_cases hlt : k < n
          · obtain ⟨g, o, cc, hv1, hcells⟩ := Src.form hl (by have := HN.out; omega) (by omega)
            simp only [Value.slice.injEq] at hv1
            obtain ⟨rfl, _, rfl⟩ := hv1
            have hgw : g < w.heap.size := src_at hl (by have := HN.out; omega)
            obtain ⟨x, hx⟩ : ∃ x, l[k]? = some x := ⟨l[k]'(by rw [← HN.out]; exact hlt), List.getElem?_eq_getElem _⟩
            have hc0 := hcells k _ (ints_at hx)
            have hc := (hb3.cell (p := ⟨g, o + k, none⟩) hgw).trans hc0
            have hxI := Lib.hid (hI x (List.mem_of_getElem? hx))
            have HX := Lib.hid hx
            clear hx hcells hc0
            have hlen : (encL enc l ++ (l.take k).flatMap encIB).length ≤ 140737488350000 := by
              have e1 := encL_len enc 9 enc_length_le l
              have e2 := flatMap_len encIB 10 encIB_len (l.take k)
              rw [List.length_append]
              rw [List.length_take] at e2
              have := HN.out
              omega
            go_wp2_with fail
            go_region_held3 (fun w' : World => w'.cell? (⟨g, o + k, none⟩ : Addr) = some (Value.int .i64 x)) (first | go_keep | exact keepC gr1 hfrb.out hgw hc | exact keepC (gr1.trans gr2) hfrb.out hgw hc)
              (first
                | (go_at_call 19; ((with_reducible refine (int_any w.heap.size _ (encL enc l ++ (l.take k).flatMap encIB) x _ hxI.out ?_ ?_ ?_).mono ?_); (have := hb3.size; exact this); omega; exact HB.out; rintro e w4 ⟨v4, rfl, own4, gr1⟩))
                | (go_at_call 18; ((with_reducible refine (bool_any w.heap.size v4 _ (x.tmod 2 == 0) _ ?_ ?_ own4).mono ?_); (have := hb3.size; have := gr1.size; simp at this; omega); (have := enc_length_le x; rw [List.length_append]; omega); rintro e w5 ⟨v5, rfl, own5, gr2⟩)))
            have gr : Grew _ w5 _ v5 := gr1.undrew.trans gr2
            have hc5 := keepC gr hfrb.out hgw hc
            have HR5 := Lib.hid (World.ownsRow.kept HR.out gr.by_ (own_ne HR.out HB.out (by decide)))
            have hb5 := hb3.trans (gr.below hb3.size hfrb.out)
            have HB5 := Lib.hid own5
            clear gr1 gr2 gr hc own4 own5 hb3
            go_wp2_with (at_builtin; refine wp_pushG rfl (.tmp 50) (.tmp 57) 42 46 2 16 (.agg #[.int .i64 0, .int .i64 0]) rfl Try.underlying42 info_vec rfl (by omega) w.heap.size _ _ _ [.int .i64 x, .int .i64 k] rfl HR5.out rfl ?_ rfl ?_ ?_ hb5.size ?_; (intro u hu; simp at hu; rcases hu with rfl | rfl <;> rfl); (rw [ringOf_length, List.length_take]; have := HN.out; omega); (rw [ringOf_length, List.length_take]; have := HN.out; omega); intro v6 w6 own6 gr6)
            go_roundw
            case rel =>
              have hfr := own_from HR5.out
              refine ⟨k + 1, by omega, by go_num, ?_, ?_, hb5.trans (gr6.below hb5.size hfr)⟩
              · rw [flatMap_snoc encIB HX.out, ← List.append_assoc]
                have := OwnB.grown HB5.out gr6.by_ (own_ne HB5.out HR5.out (by decide))
                unfold encIB
                rw [← List.append_assoc]
                exact this
              · rw [ringOf_snoc HX.out]
                unfold OwnV
                rw [vecs_snoc, List.length_append]
                exact own6
            case measure => simp [intOf]; omega
          · obtain rfl : n = k := by omega
            have ht : l.take n = l := List.take_of_length_le (by rw [HN.out]; exact Nat.le_refl _)
            rw [ht] at HB HR
            clear ht
            go_wp2_with fail
            go_loopw [7, 10] (fun b i wx => ∃ j : Nat, j ≤ m ∧ i = .int .i64 j ∧ OwnB wx w.heap.size b (encL enc l ++ l.flatMap encIB ++ (ss.take j).flatMap encTT) ∧ OwnV wx w.heap.size u8 (ringOf l) ∧ Below w.heap.size w wx) (fun _ i _ => m - (intOf i).toNat)
            case atStart => exact ⟨0, by omega, rfl, by simpa using HB.out, HR.out, hb3⟩
            case round =>
              obtain ⟨j, hj, rfl, hownb, hownr, hb4⟩ := hrel
              clear hb3 HB HR hfrb
              have HB := Lib.hid hownb
              have HR := Lib.hid hownr
              have hfrb := Lib.hid hownb.from_
              have hltb := Lib.hid hownb.lt_
              clear hownb hownr
              by_cases hlt2 : j < m
              · obtain ⟨g, o, cc, hv1, hcells⟩ := Src.form hs (by have := HM.out; omega) (by omega)
                simp only [Value.slice.injEq] at hv1
                obtain ⟨rfl, _, rfl⟩ := hv1
                have hgw : g < w.heap.size := src_at hs (by have := HM.out; omega)
                obtain ⟨s, hx⟩ : ∃ s, ss[j]? = some s := ⟨ss[j]'(by rw [← HM.out]; exact hlt2), List.getElem?_eq_getElem _⟩
                have hc0 := hcells j (.string s) (by rw [List.getElem?_map, hx]; rfl)
                have hc := (hb4.cell (p := ⟨g, o + j, none⟩) hgw).trans hc0
                have hs200 : s.size ≤ 200 := fewT_size HF.out (List.mem_of_getElem? hx)
                have HX := Lib.hid hx
                clear hx hcells hc0
                have hlen : (encL enc l ++ l.flatMap encIB ++ (ss.take j).flatMap encTT).length ≤ 140737488350000 := by
                  have e1 := encL_len enc 9 enc_length_le l
                  have e2 := flatMap_len encIB 10 encIB_len l
                  have e3 := flatTT_len (ss.take j) (fun s hs => fewT_size HF.out (List.mem_of_mem_take hs))
                  rw [List.length_append, List.length_append]
                  rw [List.length_take] at e3
                  have := HN.out
                  have := HM.out
                  have := fewT_length HF.out
                  omega
                have hconv := run_conv s
                go_wp2_with fail
                have hcB : (Lib.bytesWorld wr.drew 5 s).cell? ⟨g, o + j, none⟩ = some (.string s) := cellConv (w := wr.drew) hc
                go_region_with
                  (first
                    | (go_at_call 21; ((with_reducible refine (text_any w.heap.size _ (encL enc l ++ l.flatMap encIB ++ (ss.take j).flatMap encTT) s wr.drew ?_ ?_ ?_).mono ?_); (have := hb4.size; exact this); omega; exact HB.out; rintro e w4 ⟨v4, rfl, own4, gr1⟩; have c4 := keepC gr1 hfrb.out hgw hc))
                    | (go_at_call 21; ((with_reducible refine (text_any w.heap.size _ (encL enc l ++ l.flatMap encIB ++ (ss.take j).flatMap encTT) s (Lib.bytesWorld wr.drew _ s) ?_ ?_ ?_).mono ?_); (have e1 := hb4.size; have e2 := (conv_below wr.drew 5 s).size; simp at e2; omega); omega; exact OwnB.below (w := wr.drew) HB.out (conv_below _ _ _); rintro e w4 ⟨v4, rfl, own4, gr2⟩))
                    | (go_at_call 20; ((with_reducible refine (bytes_any w.heap.size v4 _ _ (strL s) (Lib.bytesWorld w4 _ s) ?_ ?_ (own4.below (conv_below _ _ _)) (conv_src _ _ _ _)).mono ?_); (have e1 := hb4.size; have e0 := gr1.size; have e2 := (conv_below w4 5 s).size; simp at e0; omega); (have e3 := encT_len s; rw [List.length_append, strL_length]; omega); rintro e w5 ⟨v5, rfl, own5, gr3⟩; have fin : OwnB w5 w.heap.size v5 _ ∧ Grew wr w5 _ v5 := ⟨own5, gr1.undrew.trans ((Grew.of_below v4 (conv_below _ _ _)).trans gr3)⟩))
                    | (go_at_call 20; ((with_reducible refine (bytes_any w.heap.size v4 _ _ (strL s) w4 ?_ ?_ own4 ?_).mono ?_); (have e1 := hb4.size; have e0 := gr2.size; have e2 := (conv_below wr.drew 5 s).size; simp at e2; omega); (have e3 := encT_len s; rw [List.length_append, strL_length]; omega); exact Src.grown (conv_src wr.drew _ s _) gr2.by_ (.inr (by simp only [Value.ownBlock]; intro e; have := hltb.out _ e.symm; simp at this)); rintro e w5 ⟨v5, rfl, own5, gr3⟩; have fin : OwnB w5 w.heap.size v5 _ ∧ Grew wr w5 _ v5 := ⟨own5, ((Grew.of_below _ (conv_below wr.drew _ s)).trans (gr2.trans gr3)).undrew⟩)))
                all_goals
                  have hb6 := hb4.trans (fin.2.below hb4.size hfrb.out)
                  have HB6 := Lib.hid fin.1
                  have HR6 := Lib.hid (World.ownsRow.kept HR.out fin.2.by_ (own_ne HR.out HB.out (by decide)))
                  clear fin hc hcB hconv
                  go_wp2
                  go_roundw
                  case rel => exact ⟨j + 1, by omega, by go_num, by rw [flatMap_snoc encTT HX.out]; have h6 := HB6.out; rw [show encTT s = encT (strL s) ++ encT (strL s) from rfl]; simpa only [List.append_assoc] using h6, HR6.out, hb6⟩
                  case measure => simp [intOf]; omega
              · obtain rfl : m = j := by omega
                have ht : ss.take m = ss := List.take_of_length_le (by rw [HM.out]; exact Nat.le_refl _)
                rw [ht] at HB
                clear ht
                have hn60 : l.length ≤ 60 := by have := HN.out; omega
                have hm40 := fewT_length HF.out
                have hq300 : rest.length ≤ 300 := by have := HQ.out; omega
                go_wp2_with fail
                refine (ring_any w.heap.size _ _ _ (ringOf l) _ ?_ ?_ ?_ (ringOf_i64 hI (by omega)) HB.out (own_src HR.out) (own_ne HR.out HB.out (by decide))).mono ?_
                · exact hb4.size
                · rw [ringOf_length]; omega
                · exact Nat.le_trans (trip_len l ss hn60 (fun s hs => fewT_size HF.out hs) hm40) (by omega)
                rintro e w5 ⟨v5, rfl, own5, gr5⟩
                have hb5 := hb4.trans (gr5.below hb4.size hfrb.out)
                have HR5 := Lib.hid (World.ownsRow.kept HR.out gr5.by_ (own_ne HR.out HB.out (by decide)))
                have HB5 := Lib.hid own5
                have hlen5 := trip_len2 l ss hn60 (fun s hs => fewT_size HF.out hs) hm40
                clear gr5 own5
                go_wp2_with fail
                rw [HQ.out]
                refine (joined_any v5 _ _ rest _ ?_ HB5.out.src (Src.below hr hb5)).mono ?_
                · omega
                rintro e w6 ⟨v6, rfl, own6, hb⟩
                rw [← HQ.out]
                have hb6 := hb5.trans (hb.mono hb5.size)
                have HR6 := Lib.hid (own_below HR5.out hb)
                clear hb HB5 HR5 HB HR hb5 hb4
                go_wp2_with fail
                refine (new_any v6 _ _ own6.src ?_).mono ?_
                · rw [List.length_append]; omega
                rintro e w7 ⟨R, g, rfl, hR, hg, hrec, hb⟩
                have hb7 := hb6.trans (hb.mono hb6.size)
                have HR7 := Lib.hid (own_below HR6.out hb)
                have hRr : ∀ k, Value.ownBlock u8 = some k → k < R := fun k hk => by have := (World.ownsRow.lt HR6.out k hk).2; omega
                have hRW : w.heap.size ≤ R := Nat.le_trans hb6.size hR
                have hbyT := trip_by l ss rest hby
                clear hb own6
                obtain ⟨T3, hT3⟩ : ∃ T3, T3 = encL encV (ringOf l) ++ rest := ⟨_, rfl⟩
                obtain ⟨T2, hT2⟩ : ∃ T2, T2 = ss.flatMap encTT ++ T3 := ⟨_, rfl⟩
                obtain ⟨T1, hT1⟩ : ∃ T1, T1 = l.flatMap encIB ++ T2 := ⟨_, rfl⟩
                have hT : encL enc l ++ l.flatMap encIB ++ ss.flatMap encTT ++ encL encV (ringOf l) ++ rest = encL enc l ++ T1 := by
                  rw [hT1, hT2, hT3]; simp only [List.append_assoc]
                have hlenT : (encL enc l ++ T1).length ≤ 1099511627776 := by
                  rw [← hT, List.length_append]; omega
                rw [hT] at hrec hbyT
                have hby1 : By T1 := hbyT.right
                have hby2 : By T2 := by rw [hT1] at hby1; exact hby1.right
                have hby3 : By T3 := by rw [hT2] at hby2; exact hby2.right
                have hlen1 : T1.length ≤ 1099511627776 := by rw [List.length_append] at hlenT; omega
                have HT1 := Lib.hid hT1
                have HT2 := Lib.hid hT2
                have HT3 := Lib.hid hT3
                clear hT hT1 hT2 hT3 hlen5
                have HE := Lib.hid (show rd [] (sList 60 sInt) (encL enc l ++ T1) false = (l, T1, false) from rd_enc (sList_enc (fun x hx r => sInt_enc (hI x hx) r false) (by omega) (by omega) T1))
                go_wp2_with fail
                refine (rInts_any R g 60 _ false _ hrec hbyT hlenT (by omega)).mono ?_
                rintro e w8 ⟨v8, rfl, hv8, hrec8, hg8⟩
                rw [HE.out] at hv8 hrec8
                have hb8 := hb7.grown hg8 hb7.size (by intro k hk; injection hk with hk; omega)
                have HR8 := Lib.hid (World.ownsRow.kept HR7.out hg8 (row_ne hRr))
                have hv8s : SrcI w8 v8 l := own_src hv8
                clear hrec hbyT hlenT hv8 hg8 HR7 HR6 hb7 hb6
                go_wp2_with fail
                rw [HN.out]
                refine (sameI_any v8 _ l l _ hv8s (Src.below hl hb8) (by omega) (by omega)).mono ?_
                rintro e w9 ⟨rfl, n9, rfl⟩
                rw [← HN.out]
                have heq : eqI l l = true := decide_eq_true rfl
                rw [heq]
                clear heq
                go_wp2_with fail
                go_loopw [12] (fun i wr => ∃ k : Nat, k ≤ n ∧ i = .int .i64 k ∧ Rec wr 79 R g ((l.drop k).flatMap encIB ++ T2) false ∧ Below w.heap.size w wr ∧ OwnV wr w.heap.size u8 (ringOf l)) (fun i _ => n - (intOf i).toNat)
                case atStart => exact ⟨0, by omega, rfl, by rw [HT1.out] at hrec8; exact hrec8, below_drewN hb8 _, HR8.out⟩
                case round =>
                  obtain ⟨k, hk, rfl, hreck, hbk, hownk⟩ := hrel
                  clear hrec8 hb8 HR8 hv8s
                  have HR := Lib.hid hownk
                  clear hownk
                  by_cases hlt : k < n
                  · obtain ⟨gl, o, cc, hv1, hcells⟩ := Src.form hl (by have := HN.out; omega) (by omega)
                    simp only [Value.slice.injEq] at hv1
                    obtain ⟨rfl, _, rfl⟩ := hv1
                    have hgw : gl < w.heap.size := src_at hl (by have := HN.out; omega)
                    obtain ⟨x, hx⟩ : ∃ x, l[k]? = some x := ⟨l[k]'(by rw [← HN.out]; exact hlt), List.getElem?_eq_getElem _⟩
                    have hc0 := hcells k _ (ints_at hx)
                    have hc := (hbk.cell (p := ⟨gl, o + k, none⟩) hgw).trans hc0
                    have hxI := hI x (List.mem_of_getElem? hx)
                    have hneR : some gl ≠ some R := by intro e; injection e with e; omega
                    obtain ⟨LN, hLN⟩ : ∃ LN, LN = (l.drop (k + 1)).flatMap encIB ++ T2 := ⟨_, rfl⟩
                    have hLK : (l.drop k).flatMap encIB ++ T2 = enc x ++ (encB (evn x) ++ LN) := by
                      rw [drop_flat encIB hx, hLN]
                      unfold encIB
                      simp only [List.append_assoc]
                    rw [hLK] at hreck
                    have hbyN : By LN := by rw [hLN]; exact (flatMap_by encIB encIB_by _).append hby2
                    have HE1 := Lib.hid (show rd 0 (sBounded x x) (enc x ++ (encB (evn x) ++ LN)) false = (x, encB (evn x) ++ LN, false) from rd_enc (sBounded_enc hxI (Int.le_refl _) (Int.le_refl _) _ false))
                    have HE2 := Lib.hid (show rd false sBool (encB (evn x) ++ LN) false = (evn x, LN, false) from rd_enc (sBool_enc _ _ false))
                    have HLN := Lib.hid hLN
                    have HXI := Lib.hid hxI
                    clear hx hcells hc0 hLK hLN hxI
                    go_wp2_with fail
                    go_region_held3 (fun w' : World => w'.cell? (⟨gl, o + k, none⟩ : Addr) = some (Value.int .i64 x)) (first | go_keep | exact World.grownBy.cell hg10 (a := ⟨gl, o + k, none⟩) hc hneR | exact World.grownBy.cell hg11 (a := ⟨gl, o + k, none⟩) (World.grownBy.cell hg10 (a := ⟨gl, o + k, none⟩) hc hneR) hneR)
                      (first
                        | (go_at_call 26; ((with_reducible refine (rBounded_any R g x x (enc x ++ (encB (evn x) ++ LN)) false _ ?_ ?_).mono ?_); exact hreck; exact (enc_by _).append ((encB_by _).append hbyN); rintro e w10 ⟨v10, rfl, hv10, hrec10, hg10⟩; rw [HE1.out] at hv10 hrec10; (obtain rfl : v10 = .int .i64 x := hv10)))
                        | (go_at_call 27; ((with_reducible refine (rBool_any R g (encB (evn x) ++ LN) false _ hrec10 ?_).mono ?_); exact (encB_by _).append hbyN; rintro e w11 ⟨v11, rfl, hv11, hrec11, hg11⟩; rw [HE2.out] at hv11 hrec11; (obtain rfl : v11 = .bool (x.tmod 2 == 0) := hv11))))
                    have hg := grown_undrew (hg10.trans hg11)
                    have hb11 := hbk.grown hg hbk.size (by intro k' hk'; injection hk' with hk'; omega)
                    have HR11 := Lib.hid (World.ownsRow.kept HR.out hg (row_ne hRr))
                    rw [HLN.out] at hrec11
                    clear hg hg10 hg11 hrec10 hc
                    go_wp2
                    go_roundw
                    case rel => exact ⟨k + 1, by omega, by go_num, hrec11, hb11, HR11.out⟩
                    case measure => simp [intOf]; omega
                  · obtain rfl : n = k := by omega
                    have hnil : l.drop n = [] := List.drop_eq_nil_of_le (by rw [HN.out]; exact Nat.le_refl _)
                    rw [hnil, List.flatMap_nil, List.nil_append, HT2.out] at hreck
                    clear hnil
                    go_wp2_with fail
                    go_loopw [13] (fun i wr => ∃ j : Nat, j ≤ m ∧ i = .int .i64 j ∧ Rec wr 79 R g ((ss.drop j).flatMap encTT ++ T3) false ∧ Below w.heap.size w wr ∧ OwnV wr w.heap.size u8 (ringOf l)) (fun i _ => m - (intOf i).toNat)
                    case atStart => exact ⟨0, by omega, rfl, hreck, hbk, HR.out⟩
                    case round =>
                      obtain ⟨j, hj, rfl, hrecj, hbj, hownj⟩ := hrel
                      clear hreck hbk HR
                      have HR := Lib.hid hownj
                      clear hownj
                      by_cases hlt3 : j < m
                      · obtain ⟨gs, o, cc, hv1, hcells⟩ := Src.form hs (by have := HM.out; omega) (by omega)
                        simp only [Value.slice.injEq] at hv1
                        obtain ⟨rfl, _, rfl⟩ := hv1
                        have hgw : gs < w.heap.size := src_at hs (by have := HM.out; omega)
                        obtain ⟨s, hx⟩ : ∃ s, ss[j]? = some s := ⟨ss[j]'(by rw [← HM.out]; exact hlt3), List.getElem?_eq_getElem _⟩
                        have hc0 := hcells j (.string s) (by rw [List.getElem?_map, hx]; rfl)
                        have hc := (hbj.cell (p := ⟨gs, o + j, none⟩) hgw).trans hc0
                        have hs200 : s.size ≤ 200 := fewT_size HF.out (List.mem_of_getElem? hx)
                        have hneR : some gs ≠ some R := by intro e; injection e with e; omega
                        obtain ⟨LN, hLN⟩ : ∃ LN, LN = (ss.drop (j + 1)).flatMap encTT ++ T3 := ⟨_, rfl⟩
                        have hLK : (ss.drop j).flatMap encTT ++ T3 = encT (strL s) ++ (encT (strL s) ++ LN) := by
                          rw [drop_flat encTT hx, hLN, show encTT s = encT (strL s) ++ encT (strL s) from rfl]
                          simp only [List.append_assoc]
                        rw [hLK] at hrecj
                        have hbyN : By LN := by rw [hLN]; exact (flatMap_by encTT encTT_by _).append hby3
                        have hlenN : (encT (strL s) ++ LN).length ≤ 1099511627776 := by
                          have e1 := flatTT_len (ss.drop (j + 1)) (fun s hs => fewT_size HF.out (List.mem_of_mem_drop hs))
                          have e2 := encT_len s
                          have e3 : T3.length ≤ 20000 := by
                            have e4 := encL_len encV 18 encV_len (ringOf l)
                            rw [ringOf_length] at e4
                            rw [HT3.out, List.length_append]
                            omega
                          rw [hLN, List.length_append, List.length_append]
                          rw [List.length_drop] at e1
                          omega
                        have hsl := strL_length s
                        have HE1 := Lib.hid (show rd [] (sBytes (s.size : Int)) (encT (strL s) ++ (encT (strL s) ++ LN)) false = (strL s, encT (strL s) ++ LN, false) from rd_enc (sBytes_enc (by omega) (by omega) _ false))
                        have HE2 := Lib.hid (show rd [] (sBytes 200) (encT (strL s) ++ LN) false = (strL s, LN, false) from rd_enc (sBytes_enc (by omega) (by omega) _ false))
                        have HLN := Lib.hid hLN
                        have hso := Lib.hid (strOf_strL s)
                        have hby5 : By (encT (strL s) ++ LN) := (encT_by (strL_by s)).append hbyN
                        have hby6 : By (encT (strL s) ++ (encT (strL s) ++ LN)) := (encT_by (strL_by s)).append hby5
                        clear hx hcells hc0 hLK hLN hsl
                        go_wp2_with fail
                        go_region_with
                          (first
                            | (go_at_call 28; ((with_reducible refine (rText_any R g (s.size : Int) (encT (strL s) ++ (encT (strL s) ++ LN)) false _ ?_ ?_).mono ?_); exact hrecj; exact hby6; rintro e w10 ⟨v10, rfl, hv10, hrec10, hg10⟩; rw [HE1.out] at hv10 hrec10; (obtain rfl : v10 = .string s := Eq.trans hv10 (by rw [hso.out])); have c10 := World.grownBy.cell hg10 (a := ⟨gs, o + j, none⟩) hc hneR))
                            | (go_at_call 29; ((with_reducible refine (rBytes_any R g 200 (encT (strL s) ++ LN) false _ ?_ ?_ ?_).mono ?_); exact hrec10; exact hby5; exact hlenN; rintro e w11 ⟨v11, rfl, hv11, hrec11, hg11⟩; rw [HE2.out] at hv11 hrec11; have c11 := World.grownBy.cell hg11 (a := ⟨gs, o + j, none⟩) c10 hneR; have hcv := (OwnB.src hv11).convert; rw [hso.out] at hcv)))
                        all_goals
                          have hg := grown_undrew (hg10.trans hg11)
                          have hb11 := hbj.grown hg hbj.size (by intro k' hk'; injection hk' with hk'; omega)
                          have HR11 := Lib.hid (World.ownsRow.kept HR.out hg (row_ne hRr))
                          rw [HLN.out] at hrec11
                          clear hg hg10 hg11 hrec10 hc c10 c11 hcv hv11
                          go_wp2
                          go_roundw
                          case rel => exact ⟨j + 1, by omega, by go_num, hrec11, hb11, HR11.out⟩
                          case measure => simp [intOf]; omega
                      · obtain rfl : m = j := by omega
                        have hnil : ss.drop m = [] := List.drop_eq_nil_of_le (by rw [HM.out]; exact Nat.le_refl _)
                        rw [hnil, List.flatMap_nil, List.nil_append, HT3.out] at hrecj
                        clear hnil
                        have hby3' : By (encL encV (ringOf l) ++ rest) := by rw [← HT3.out]; exact hby3
                        have hrl : (ringOf l).length ≤ 60 := by rw [ringOf_length]; exact hn60
                        have hlen3 : (encL encV (ringOf l) ++ rest).length ≤ 1099511627776 := by
                          have e4 := encL_len encV 18 encV_len (ringOf l)
                          rw [List.length_append]
                          omega
                        have HE := Lib.hid (show rd [] (sList 60 sVec) (encL encV (ringOf l) ++ rest) false = (ringOf l, rest, false) from rd_enc (sList_enc (fun p hp r => sVec_enc (ringOf_i64 hI (by omega) p hp).1 (ringOf_i64 hI (by omega) p hp).2 r false) (by omega) (by omega) rest))
                        go_wp2_with fail
                        refine (rRing_any R g 60 _ false _ hrecj hby3' hlen3 (by omega)).mono ?_
                        rintro e w12 ⟨v12, rfl, hv12, hrec12, hg12⟩
                        rw [HE.out] at hv12 hrec12
                        have hb12 := hbj.grown hg12 hbj.size (by intro k' hk'; injection hk' with hk'; omega)
                        have HR12 := Lib.hid (World.ownsRow.kept HR.out hg12 (row_ne hRr))
                        have hv12s : SrcV w12 v12 (ringOf l) := own_src hv12
                        clear hrecj hv12 hg12 hby3'
                        go_wp2_with fail
                        refine (sameV_any v12 _ (ringOf l) (ringOf l) _ hv12s (own_src HR12.out) (by omega) (by omega)).mono ?_
                        rintro e w13 ⟨rfl, n13, rfl⟩
                        have heq : eqV (ringOf l) (ringOf l) = true := decide_eq_true rfl
                        rw [heq]
                        clear heq hv12s
                        go_wp2_with fail
                        have hrec13 : Rec (w12.drewN n13) 79 R g rest false := hrec12
                        refine (left_any R g rest false _ hrec13).mono ?_
                        rintro e w14 ⟨rfl, rfl⟩
                        rw [← HQ.out]
                        by_cases hq0 : q = 0
                        · have hrest : rest = [] := List.eq_nil_of_length_eq_zero (by rw [← HQ.out]; exact hq0)
                          have he : endOf rest false = 0 := by rw [hrest]; rfl
                          have HEn := Lib.hid he
                          subst hq0
                          clear he hrest
                          go_wp2_with fail
                          refine (end_any R g rest false _ hrec13).mono ?_
                          rintro e w15 ⟨rfl, rfl⟩
                          rw [HEn.out]
                          go_wp2
                          go_ret
                          exact ⟨rfl, below_drewN hb12 _⟩
                        · have hrest : rest ≠ [] := fun e => hq0 (by rw [HQ.out, e]; rfl)
                          have he : endOf rest false = 4 := by unfold endOf; rw [if_pos (.inr hrest)]
                          have HEn := Lib.hid he
                          have hqb : ((q : Int) == 0) = false := by rw [beq_eq_false_iff_ne]; omega
                          clear he hrest
                          go_wp2_with fail
                          refine (end_any R g rest false _ hrec13).mono ?_
                          rintro e w15 ⟨rfl, rfl⟩
                          rw [HEn.out]
                          go_wp2
                          go_ret
                          exact ⟨rfl, below_drewN hb12 _⟩
end Go.Proofs.Ytcmpdnpdipckmaa.W
