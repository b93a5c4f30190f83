/-
  fretsawlaw01.WireDistinct, the walk: for every two integers, texts and shapes the call returns true and writes nothing that was there. Conditions: the argument's memory is below the heap's end; its lists are shorter than 2^63.
-/
import Derived.Test.YtcmpdnpdipckmaaPreLaw
import Derived.Test.YtcmpdnpdipckmaaSameS
import Derived.Laws.Strings
namespace Go.Proofs.Ytcmpdnpdipckmaa.W
open Go.RowKit Go.Proofs.Ytcmpdnpdipckmaa.Pl

/-- the arguments' cells -/
def Args (w : World) (b : Nat) (x y : Int) (t u : ByteArray) (o h o' h' : Value) : Prop :=
  w.cell? ⟨b, 0, none⟩ = some (.int .i64 x) ∧ w.cell? ⟨b, 1, none⟩ = some (.int .i64 y) ∧ w.cell? ⟨b + 1, 0, none⟩ = some (.string t) ∧ w.cell? ⟨b + 1, 1, none⟩ = some (.string u) ∧
    w.cell? ⟨b + 1 + 1, 0, none⟩ = some o ∧ w.cell? ⟨b + 1 + 1, 1, none⟩ = some h ∧ w.cell? ⟨b + 1 + 1, 2, none⟩ = some o' ∧ w.cell? ⟨b + 1 + 1, 3, none⟩ = some h' ∧ b + 1 + 1 < w.heap.size
theorem Args.below {w w' : World} {b : Nat} {x y : Int} {t u : ByteArray} {o h o' h' : Value} (k : Args w b x y t u o h o' h') (hb : Below w.heap.size w w') : Args w' b x y t u o h o' h' := by
  obtain ⟨c0, c1, c2, c3, c4, c5, c6, c7, hl⟩ := k
  exact ⟨keepH hb (show b < _ by omega) c0, keepH hb (show b < _ by omega) c1, keepH hb (show b + 1 < _ by omega) c2, keepH hb (show b + 1 < _ by omega) c3, keepH hb hl c4, keepH hb hl c5, keepH hb hl c6, keepH hb hl c7, Nat.lt_of_lt_of_le hl hb.size⟩

theorem Args.cells {w : World} {b : Nat} {x y : Int} {t u : ByteArray} {o h o' h' : Value} (k : Args w b x y t u o h o' h') :
    w.cell? ⟨b, 0, none⟩ = some (.int .i64 x) ∧ w.cell? ⟨b, 1, none⟩ = some (.int .i64 y) ∧ w.cell? ⟨b + 1, 0, none⟩ = some (.string t) ∧ w.cell? ⟨b + 1, 1, none⟩ = some (.string u) ∧
    w.cell? ⟨b + 1 + 1, 0, none⟩ = some o ∧ w.cell? ⟨b + 1 + 1, 1, none⟩ = some h ∧ w.cell? ⟨b + 1 + 1, 2, none⟩ = some o' ∧ w.cell? ⟨b + 1 + 1, 3, none⟩ = some h' :=
  ⟨k.1, k.2.1, k.2.2.1, k.2.2.2.1, k.2.2.2.2.1, k.2.2.2.2.2.1, k.2.2.2.2.2.2.1, k.2.2.2.2.2.2.2.1⟩
theorem beq_ba (t u : ByteArray) : (t.toList == u.toList) = decide (t = u) := by
  rw [ByteArray.toList_eq, ByteArray.toList_eq]
  cases t with | mk a => cases u with | mk b =>
  rw [Bool.eq_iff_iff]
  simp
theorem dist_of {α : Type} {s' : Step α} {e : α → List Int} {P : α → Prop} (hs' : ∀ x, P x → ∀ r, s' (e x ++ r) false = (x, r, false)) {x y : α} (hx : P x) (hy : P y) (h : e x = e y) : x = y := by
  have h1 := hs' x hx []
  have h2 := hs' y hy []
  rw [h, h2] at h1
  injection h1 with h3 _
  exact h3.symm
theorem dist_int {x y : Int} (hx : I64 x) (hy : I64 y) : eqB (enc x) (enc y) = decide (x = y) :=
  decide_eq_decide.2 ⟨fun h => dist_of (s' := sInt) (P := I64) (fun _ hx r => sInt_enc hx r false) hx hy h, fun h => by rw [h]⟩
theorem dist_text {t u : ByteArray} (ht : t.size ≤ 200) (hu : u.size ≤ 200) : eqB (encT (strL t)) (encT (strL u)) = decide (t = u) :=
  decide_eq_decide.2 ⟨fun h => strL_inj (dist_of (s' := sBytes 200) (P := fun m => m.length ≤ 200) (fun x hx r => sBytes_enc (by have : x.length ≤ 200 := hx; omega) (by have : x.length ≤ 200 := hx; omega) r false) (by rw [strL_length]; exact ht) (by rw [strL_length]; exact hu) h), fun h => by rw [h]⟩
theorem dist_shape {s z : Shp} (hs : SmallS s) (hz : SmallS z) : eqB (encS s) (encS z) = eqS s z :=
  decide_eq_decide.2 ⟨fun h => dist_of (s' := sShapeBig) (P := SmallS) big_shape hs hz h, fun h => by rw [h]⟩

set_option maxRecDepth 200000 in
set_option maxHeartbeats 4000000 in
theorem dis_walk (x y : Int) (t u : ByteArray) (o h o' h' : Value) (s z : Shp) (w : World) (hx : I64 x) (hy : I64 y) (ht : t.size ≤ 9223372036854775807) (hu : u.size ≤ 9223372036854775807)
    (ho : SrcV w o s.1) (hh : SrcR w h s.2) (hl1 : s.1.length ≤ 9223372036854775807) (hl2 : s.2.length ≤ 9223372036854775807) (hl3 : ∀ r ∈ s.2, r.length ≤ 9223372036854775807) (hI1 : ∀ p ∈ s.1, VI64 p) (hI2 : ∀ r ∈ s.2, ∀ p ∈ r, VI64 p)
    (go : SrcV w o' z.1) (gh : SrcR w h' z.2) (gl1 : z.1.length ≤ 9223372036854775807) (gl2 : z.2.length ≤ 9223372036854775807) (gl3 : ∀ r ∈ z.2, r.length ≤ 9223372036854775807) (gI1 : ∀ p ∈ z.1, VI64 p) (gI2 : ∀ r ∈ z.2, ∀ p ∈ r, VI64 p) :
    Calls Try.prog 7 #[.agg #[.int .i64 x, .int .i64 y], .agg #[.string t, .string u], .agg #[o, h, o', h']] w fun e w' => e = .returned (.bool true) ∧ Below w.heap.size w w' := by
  have O : Below w.heap.size w (((w.alloc (.cells #[.int .i64 x, .int .i64 y] 68)).alloc (.cells #[.string t, .string u] 69)).alloc (.cells #[o, h, o', h'] 70)) := (((Below.refl _ _).alloc (Nat.le_refl _) _).alloc (by simp) _).alloc (by simp; omega) _
  have K0 : Args (((w.alloc (.cells #[.int .i64 x, .int .i64 y] 68)).alloc (.cells #[.string t, .string u] 69)).alloc (.cells #[o, h, o', h'] 70)) w.heap.size x y t u o h o' h' := by
    have a0 : (w.alloc (.cells #[.int .i64 x, .int .i64 y] 68)).cell? ⟨w.heap.size, 0, none⟩ = some (.int .i64 x) := by simp
    have a1 : (w.alloc (.cells #[.int .i64 x, .int .i64 y] 68)).cell? ⟨w.heap.size, 1, none⟩ = some (.int .i64 y) := by simp
    generalize hW1 : w.alloc (.cells #[.int .i64 x, .int .i64 y] 68) = W1 at a0 a1 ⊢
    have z1 : W1.heap.size = w.heap.size + 1 := by rw [← hW1]; simp
    have a2 : (W1.alloc (.cells #[.string t, .string u] 69)).cell? ⟨W1.heap.size, 0, none⟩ = some (.string t) := by simp
    have a3 : (W1.alloc (.cells #[.string t, .string u] 69)).cell? ⟨W1.heap.size, 1, none⟩ = some (.string u) := by simp
    have q1 : Below W1.heap.size W1 (W1.alloc (.cells #[.string t, .string u] 69)) := (Below.refl _ _).alloc (Nat.le_refl _) _
    replace a0 := keepH q1 (show w.heap.size < _ by omega) a0
    replace a1 := keepH q1 (show w.heap.size < _ by omega) a1
    generalize hW2 : W1.alloc (.cells #[.string t, .string u] 69) = W2 at a0 a1 a2 a3 ⊢
    have z2 : W2.heap.size = w.heap.size + 1 + 1 := by rw [← hW2]; simp [z1]
    have a4 : (W2.alloc (.cells #[o, h, o', h'] 70)).cell? ⟨W2.heap.size, 0, none⟩ = some o := by simp
    have a5 : (W2.alloc (.cells #[o, h, o', h'] 70)).cell? ⟨W2.heap.size, 1, none⟩ = some h := by simp
    have a6 : (W2.alloc (.cells #[o, h, o', h'] 70)).cell? ⟨W2.heap.size, 2, none⟩ = some o' := by simp
    have a7 : (W2.alloc (.cells #[o, h, o', h'] 70)).cell? ⟨W2.heap.size, 3, none⟩ = some h' := by simp
    have q2 : Below W2.heap.size W2 (W2.alloc (.cells #[o, h, o', h'] 70)) := (Below.refl _ _).alloc (Nat.le_refl _) _
    rw [z1] at a2 a3
    rw [z2] at a4 a5 a6 a7
    exact ⟨keepH q2 (show w.heap.size < _ by omega) a0, keepH q2 (show w.heap.size < _ by omega) a1, keepH q2 (show w.heap.size + 1 < _ by omega) a2, keepH q2 (show w.heap.size + 1 < _ by omega) a3, a4, a5, a6, a7, by simp; omega⟩
  have F1 := Lib.hid ho
  have F2 := Lib.hid hh
  have F3 := Lib.hid go
  have F4 := Lib.hid gh
  have M1 := Lib.hid hl1
  have M2 := Lib.hid hl2
  have M3 := Lib.hid hl3
  have N1 := Lib.hid gl1
  have N2 := Lib.hid gl2
  have N3 := Lib.hid gl3
  clear ho hh go gh hl1 hl2 hl3 gl1 gl2 gl3
  go_enter Try.func7, Try.ntmps7
  go_wp2_with fail
  refine (awake_any _).mono ?_
  rintro e w1 ⟨rfl, hb1⟩
  have K1 := K0.below hb1
  have B1 := O.trans (hb1.mono O.size)
  clear hb1 K0 O
  obtain ⟨c0, c1, c2, c3, c4, c5, c6, c7, hl⟩ := id K1
  by_cases ha : 200 < t.size
  · have hd1 : decide (200 < (t.size : Int)) = true := decide_eq_true (by omega)
    go_wp2
    go_ret
    exact ⟨rfl, B1⟩
  · have hd1 : decide (200 < (t.size : Int)) = false := decide_eq_false (by omega)
    by_cases hb : 200 < u.size
    · have hd2 : decide (200 < (u.size : Int)) = true := decide_eq_true (by omega)
      go_wp2
      go_ret
      exact ⟨rfl, B1⟩
    · have hd2 : decide (200 < (u.size : Int)) = false := decide_eq_false (by omega)
      go_wp2_with fail
      refine (fewV_any _ _ s _ (Src.below F1.out B1) (F2.out.below B1) M1.out M2.out M3.out).mono ?_
      rintro e w2 ⟨rfl, hb2⟩
      have B2 := B1.trans (hb2.mono B1.size)
      have K2 := K1.below hb2
      clear hb2 c0 c1 c2 c3 c4 c5 c6 c7 hl
      obtain ⟨c0, c1, c2, c3, c4, c5, c6, c7, hl⟩ := id K2
      cases hf : fewV s with
      | false =>
        clear hf
        go_wp2
        go_ret
        exact ⟨rfl, B2⟩
      | true =>
        have HF := Lib.hid (fewV_outer hf)
        clear hf
        go_wp2_with fail
        refine (fewV_any _ _ z _ (Src.below F3.out B2) (F4.out.below B2) N1.out N2.out N3.out).mono ?_
        rintro e w3 ⟨rfl, hb3⟩
        have B3 := B2.trans (hb3.mono B2.size)
        have K3 := K2.below hb3
        clear hb3 c0 c1 c2 c3 c4 c5 c6 c7 hl K1 B1 K2 B2
        cases hg : fewV z with
        | false =>
          clear hg
          go_wp2
          go_ret
          exact ⟨rfl, B3⟩
        | true =>
          have HG := Lib.hid (fewV_outer hg)
          clear hg
          obtain ⟨c0, c1, c2, c3, c4, c5, c6, c7, hl⟩ := id K3
          have D3 : Below w3.heap.size w3 w3.drew := (Below.refl _ _).drew
          have KD := K3.below D3
          have BD := B3.trans (D3.mono B3.size)
          have HSs := Lib.hid (show SmallS s from ⟨⟨hI1, by have := HF.out.1; omega⟩, fun r hr => ⟨hI2 r hr, by have := HF.out.2.2 r hr; omega⟩, by have := HF.out.2.1; omega⟩)
          have HSz := Lib.hid (show SmallS z from ⟨⟨gI1, by have := HG.out.1; omega⟩, fun r hr => ⟨gI2 r hr, by have := HG.out.2.2 r hr; omega⟩, by have := HG.out.2.1; omega⟩)
          have Ps1 := Lib.hid (show s.1.length ≤ 1000 from HSs.out.1.2)
          have Ps2 := Lib.hid (show s.2.length ≤ 1000 from HSs.out.2.2)
          have Ps3 := Lib.hid (show ∀ r ∈ s.2, r.length ≤ 1000 from fun r hr => (HSs.out.2.1 r hr).2)
          have Pz1 := Lib.hid (show z.1.length ≤ 1000 from HSz.out.1.2)
          have Pz2 := Lib.hid (show z.2.length ≤ 1000 from HSz.out.2.2)
          have Pz3 := Lib.hid (show ∀ r ∈ z.2, r.length ≤ 1000 from fun r hr => (HSz.out.2.1 r hr).2)
          have ET := Lib.hid (show ([] : List Int).length + t.size ≤ 140737488354000 by simp; omega)
          have EU := Lib.hid (show ([] : List Int).length + u.size ≤ 140737488354000 by simp; omega)
          obtain ⟨b1, hb1⟩ : ∃ b1, b1 = decide (x = y) := ⟨_, rfl⟩
          obtain ⟨b2, hb2⟩ : ∃ b2, b2 = decide (t = u) := ⟨_, rfl⟩
          obtain ⟨b3, hb3⟩ : ∃ b3, b3 = eqS s z := ⟨_, rfl⟩
          have Q1 := Lib.hid (show eqB (enc x) (enc y) = b1 by rw [hb1]; exact dist_int hx hy)
          have Q2 := Lib.hid (show eqB (encT (strL t)) (encT (strL u)) = b2 by rw [hb2]; exact dist_text (by omega) (by omega))
          have Q3 := Lib.hid (show eqB (encS s) (encS z) = b3 by rw [hb3]; exact dist_shape HSs.out HSz.out)
          have R3 := Lib.hid hb3
          have e1 : (x == y) = b1 := by rw [hb1]; rfl
          have e2 : (t.toList == u.toList) = b2 := by rw [hb2]; exact beq_ba t u
          have e2' : decide (t = u) = b2 := hb2.symm
          go_wp2_with fail
          clear ha hb hd1 hd2 hb1 hb2 hb3 ht hu M1 M2 M3 N1 N2 N3 HF HG
          go_region_held3 (fun w' : World => w'.cell? ⟨w.heap.size, 0, none⟩ = some (.int .i64 x) ∧ w'.cell? ⟨w.heap.size, 1, none⟩ = some (.int .i64 y) ∧ w'.cell? ⟨w.heap.size + 1, 0, none⟩ = some (.string t) ∧ w'.cell? ⟨w.heap.size + 1, 1, none⟩ = some (.string u) ∧ w'.cell? ⟨w.heap.size + 1 + 1, 0, none⟩ = some o ∧ w'.cell? ⟨w.heap.size + 1 + 1, 1, none⟩ = some h ∧ w'.cell? ⟨w.heap.size + 1 + 1, 2, none⟩ = some o' ∧ w'.cell? ⟨w.heap.size + 1 + 1, 3, none⟩ = some h')
            (first | exact KD.cells | exact K4.cells | exact K5.cells | exact K6.cells | exact K7.cells | exact K8.cells | exact K9.cells | exact K10.cells | go_keep)
            (first
              | (go_at_call 19; ((with_reducible refine (int_any w3.heap.size (.slice none 0 0) [] x _ hx ?_ ?_ (OwnB.nil _ _)).mono ?_); simp; simp; rintro e w4 ⟨v4, rfl, own4, gr4⟩; have B4 := BD.trans ((gr4.below (Nat.le_refl _) nil_from).mono BD.size); have K4 := KD.below (gr4.below (Nat.le_refl _) nil_from)))
              | (go_at_call 19; ((with_reducible refine (int_any w4.heap.size (.slice none 0 0) [] y _ hy ?_ ?_ (OwnB.nil _ _)).mono ?_); simp; simp; rintro e w5 ⟨v5, rfl, own5, gr5⟩; have B5 := B4.trans ((gr5.below (Nat.le_refl _) nil_from).mono B4.size); have K5 := K4.below (gr5.below (Nat.le_refl _) nil_from); have s4 := Src.below own4.src (gr5.below (Nat.le_refl _) nil_from)))
              | (go_at_call 33; ((with_reducible refine (same_any v4 v5 (enc x) (enc y) _ s4 own5.src (enc_by _) (enc_by _)).mono ?_); rintro e w5b ⟨rfl, rfl⟩; rw [Q1.out]))
              | (go_at_call 21; ((with_reducible refine (text_any _ (.slice none 0 0) [] t _ (Nat.le_refl _) ET.out (OwnB.nil _ _)).mono ?_); rintro e w6 ⟨v6, rfl, own6, gr6⟩; have b56 := gr6.below (Nat.le_refl _) nil_from; have B6 := B5.trans (b56.mono B5.size); have K6 := K5.below b56))
              | (go_at_call 21; ((with_reducible refine (text_any _ (.slice none 0 0) [] u _ (Nat.le_refl _) EU.out (OwnB.nil _ _)).mono ?_); rintro e w7 ⟨v7, rfl, own7, gr7⟩; have b67 := gr7.below (Nat.le_refl _) nil_from; have B7 := B6.trans (b67.mono B6.size); have K7 := K6.below b67; have s6 := Src.below own6.src b67))
              | (go_at_call 33; ((with_reducible refine (same_any v6 v7 (encT (strL t)) (encT (strL u)) _ s6 own7.src (encT_by (strL_by _)) (encT_by (strL_by _))).mono ?_); rintro e w7b ⟨rfl, rfl⟩; rw [Q2.out]))
              | (go_at_call 34; ((with_reducible refine (shape_any _ o h s Ps1.out Ps2.out Ps3.out hI1 hI2 (srcV_below F1.out B7) (SrcR.below F2.out B7)).mono ?_); rintro e w8 ⟨v8, rfl, own8, b78⟩; have B8 := B7.trans (b78.mono B7.size); have K8 := K7.below b78))
              | (go_at_call 34; ((with_reducible refine (shape_any _ o' h' z Pz1.out Pz2.out Pz3.out gI1 gI2 (srcV_below F3.out B8) (SrcR.below F4.out B8)).mono ?_); rintro e w9 ⟨v9, rfl, own9, b89⟩; have B9 := B8.trans (b89.mono B8.size); have K9 := K8.below b89; have s8 := Src.below own8.src b89))
              | (go_at_call 33; ((with_reducible refine (same_any v8 v9 (encS s) (encS z) _ s8 own9.src (encS_by _) (encS_by _)).mono ?_); rintro e w9b ⟨rfl, rfl⟩; rw [Q3.out]))
              | (go_at_call 37; ((with_reducible refine (sameS_any o h o' h' s z _ (srcV_below F1.out B9) (SrcR.below F2.out B9) (srcV_below F3.out B9) (SrcR.below F4.out B9) Ps1.out Ps2.out Ps3.out Pz1.out Pz2.out Pz3.out).mono ?_); rintro e w10 ⟨rfl, hbz⟩; have B10 := B9.trans (hbz.mono B9.size); have K10 := K9.below hbz; rw [← R3.out])))
          go_wp2
          go_ret
          exact ⟨rfl, B10⟩
end Go.Proofs.Ytcmpdnpdipckmaa.W
