/-
  wire.Text, wire.Bytes, fretsawlaw01.joined: onto a row of bytes of the call's own the calls append the encoding of a text, of a byte string; joined makes a row of two. Conditions: there is room below 2^47; the source's memory is not the row's.
-/
import Derived.Test.YtfphdpcffjpbjaaInt
import Derived.Test.YtfphdpcffjpbjaaStrL
import Derived.Lib.AppendStr
import Derived.Lib.ConvBytes
namespace Go.Proofs.Ytfphdpcffjpbjaa.W
open Go.RowKit Go.Proofs.Ytfphdpcffjpbjaa.Pl

section
variable {w : World} {ops : Array Oper} {rest : List Oper} {o : Oper} {a : Act} {Q : Exit → Act → World → Prop}

/-- append(b, s...) of a text -/
theorem wp_str (hgd : o.guard = none) (s x : Operand)
    (ho : o.op = .call { callee := .builtin .append, args := #[s, x], argTypes := #[22, 9] })
    (B : Nat) (v : Value) (l : List Int) (str : ByteArray) (hs : a.eval s = v) (hown : OwnB w B v l) (hx : a.eval x = .string str)
    (hlen : l.length + str.size ≤ 140737488355328) (hB : B ≤ w.heap.size)
    (h : ∀ v' w', OwnB w' B v' (l ++ strL str) → Grew w w' v v' → wpList Try.prog ops Q rest (a.put o.dst v') w') :
    wpList Try.prog ops Q (o :: rest) a w := by
  obtain ⟨i0, hi, hz0, hz1, hz2⟩ := info_parts info_u8
  obtain ⟨v', w', hr, h2, h3, h4⟩ := Lib.run_append_own_string (P := Try.prog) w B 22 9 o.type 5 i0 Try.underlying22 Try.underlying9 hi hz0 hz1 hz2 v l.length (bytes l) hown str (by unfold maxLen; omega) hlen hB
  have hat : v'.ownBlock = v.ownBlock ∨ v'.ownBlock = some w.heap.size := by
    rcases hown.2 with ⟨rfl, h0⟩ | ⟨g, cap, cur, rfl, hb, hg, hcap, hm, hsz, ht⟩
    · rcases Nat.eq_zero_or_pos str.size with hz | hz
      · rw [h4.2 ⟨rfl, hz⟩]
        exact .inl rfl
      · have hr2 := run_append_nil_string (P := Try.prog) w 22 9 o.type 5 i0 (.int .u8 0) Try.underlying22 Try.underlying9 hi hz0 str hz (by omega) (by rw [hz2]; omega)
        rw [hr] at hr2
        injection hr2 with e1 e2
        rw [e1]
        exact .inr rfl
    · by_cases hroom : l.length + str.size ≤ cap
      · have hr2 := Lib.run_append_room_string (P := Try.prog) w 22 9 o.type 5 i0 Try.underlying22 Try.underlying9 hi hz1 g l.length cap cur hg str hroom (by omega)
        rw [hr] at hr2
        injection hr2 with e1 e2
        rw [e1]
        exact .inl rfl
      · have holds : ∀ j u, (bytes l)[j]? = some u → w.cell? ((⟨g, 0, none⟩ : Addr).add j) = some u := World.ownsRow.cells hown rfl
        have hr2 := Lib.run_append_grow_string (P := Try.prog) w 22 9 o.type 5 i0 (.int .u8 0) Try.underlying22 Try.underlying9 hi hz0 ⟨g, 0, none⟩ l.length cap (bytes l) (by rw [hz1, bytes_length]; omega) holds str (by omega) (by omega)
          (by rw [hz2]; exact growslice_fits (by omega) (by omega))
        rw [hr] at hr2
        injection hr2 with e1 e2
        rw [e1]
        exact .inr rfl
  refine wpList_plain hgd fun K hK => ?_
  unfold Oper.wp execOp
  simp only [ho, resolve, invoke, builtin, Sem.run_bind, Sem.run_pure, Result.andThen_ok, List.map_toArray, List.map_cons, List.map_nil, hs, hx, hr]
  refine hK _ _ (h v' w' ?_ (Grew.of_append h3 hat))
  unfold OwnB
  rw [bytes_append, List.length_append, strL_length, ← strL_cells]
  exact h2
end

/-- a text's, a byte string's encoding -/
def encT (l : List Int) : List Int := enc l.length ++ l
theorem encT_by {l : List Int} (h : By l) : By (encT l) := (enc_by _).append h

set_option maxRecDepth 100000 in
set_option maxHeartbeats 400000 in
theorem text_any (B : Nat) (b : Value) (l : List Int) (s : ByteArray) (w : World) (hB : B ≤ w.heap.size) (hlen : l.length + s.size ≤ 140737488354000) (hown : OwnB w B b l) :
    Calls Try.prog 21 #[b, .string s] w fun e w' => ∃ u, e = .returned u ∧ OwnB w' B u (l ++ encT (strL s)) ∧ Grew w w' b u := by
  have hl := strL_length s
  have HL := Lib.hid hl
  clear hl
  go_enter Try.func21, Try.ntmps21
  go_wp2_with (first
    | (go_at_call 19; go_must (refine (int_any B b l (s.size : Int) _ ⟨by omega, by omega⟩ hB (by omega) hown).mono ?_); rintro e w1 ⟨v1, rfl, own1, gr1⟩)
    | (at_builtin; go_must (refine wp_str rfl (.tmp 8) (.tmp 9) rfl B v1 _ s rfl own1 rfl (by have := enc_length_le (s.size : Int); rw [List.length_append]; omega) (by have := gr1.size; omega) ?_); intro v2 w2 own2 gr2))
  go_ret
  refine ⟨_, rfl, ?_, gr1.trans gr2⟩
  unfold encT
  rw [HL.out, ← List.append_assoc]
  exact own2

set_option maxRecDepth 100000 in
set_option maxHeartbeats 400000 in
theorem bytes_any (B : Nat) (b : Value) (l : List Int) (x : Value) (m : List Int) (w : World) (hB : B ≤ w.heap.size) (hlen : l.length + m.length ≤ 140737488354000) (hown : OwnB w B b l) (hx : Src w 1 x m.length (bytes m)) :
    Calls Try.prog 20 #[b, x] w fun e w' => ∃ u, e = .returned u ∧ OwnB w' B u (l ++ encT m) ∧ Grew w w' b u := by
  obtain ⟨A, c, rfl⟩ := hx.shape
  obtain ⟨n, hn⟩ : ∃ n, n = m.length := ⟨_, rfl⟩
  have hn1 : l.length + n ≤ 140737488354000 := by omega
  have hxs := hx
  rw [← hn] at hx ⊢
  have HN := Lib.hid hn
  go_enter Try.func20, Try.ntmps20
  clear hn
  go_wp2_with (first
    | (go_at_call 19; go_must (refine (int_any w.heap.size (.slice none 0 0) [] (n : Int) _ ⟨by omega, by omega⟩ (Nat.le_refl _) (by simp) (OwnB.nil _ _)).mono ?_); rintro e w1 ⟨v1, rfl, own1, gr1⟩; have hb1 := gr1.below (Nat.le_refl _) (by intro k hk; cases hk))
    | (at_builtin; refine wp_app rfl (.tmp 8) (.tmp 9) rfl w.heap.size v1 _ _ m rfl own1 rfl (by rw [HN.out]; exact hxs.below hb1) ?_ hb1.size ?_; (have := enc_length_le (n : Int); simp; omega); intro v2 w2 own2 gr2; have hb2 := hb1.trans (gr2.below hb1.size own1.from_))
    | (at_builtin; refine wp_app rfl (.tmp 11) (.tmp 12) rfl B b v2 l _ rfl (hown.below hb2) rfl own2.src ?_ (Nat.le_trans hB hb2.size) ?_; (have := enc_length_le (n : Int); simp; omega); intro v3 w3 own3 gr3))
  go_ret
  refine ⟨_, rfl, ?_, (Grew.of_below b hb2).trans gr3⟩
  unfold encT
  rw [← HN.out]
  exact own3

set_option maxRecDepth 100000 in
set_option maxHeartbeats 400000 in
theorem joined_any (x y : Value) (l m : List Int) (w : World) (hlen : l.length + m.length ≤ 140737488354000) (hx : Src w 1 x l.length (bytes l)) (hy : Src w 1 y m.length (bytes m)) :
    Calls Try.prog 22 #[x, y] w fun e w' => ∃ u, e = .returned u ∧ OwnB w' w.heap.size u (l ++ m) ∧ Below w.heap.size w w' := by
  have o0 := OwnB.lit w w.heap.size [] (Nat.le_refl _) (Nat.zero_le _)
  have b0 : Below w.heap.size w (w.alloc (.cells (bytes []).toArray 5)) := (Below.refl _ _).alloc (Nat.le_refl _) _
  have hx0 := hx.below b0
  have hl1 : l.length ≤ 140737488354000 := by omega
  go_enter Try.func22, Try.ntmps22
  go_wp2_with (first
    | (at_builtin; refine wp_app rfl (.tmp 5) (.tmp 6) rfl w.heap.size _ x [] l rfl o0 rfl hx0 ?_ b0.size ?_; (simp; omega); intro v1 w1 own1 gr1; have hb1 := b0.trans (gr1.below b0.size o0.from_))
    | (at_builtin; refine wp_app rfl (.tmp 7) (.tmp 8) rfl w.heap.size v1 y _ m rfl own1 rfl (hy.below hb1) ?_ hb1.size ?_; (simp; omega); intro v2 w2 own2 gr2; have hb2 := hb1.trans (gr2.below hb1.size own1.from_)))
  go_ret
  exact ⟨_, rfl, own2, hb2⟩

/-- []byte(s) of a text: a new row -/
theorem conv_below (w : World) (e : TypeId) (s : ByteArray) : Below w.heap.size w (Lib.bytesWorld w e s) :=
  ⟨rfl, rfl, rfl, by rw [Lib.bytesWorld_size]; omega, fun k hk => Lib.bytesWorld_at_old w e s k hk⟩
theorem conv_src (w : World) (e : TypeId) (s : ByteArray) (c : Nat) : Src (Lib.bytesWorld w e s) 1 (.slice (some ⟨w.heap.size, 0, none⟩) s.size c) (strL s).length (bytes (strL s)) := by
  refine ⟨by rw [bytes_length]; omega, _, _, by rw [strL_length], fun _ => ⟨_, rfl, by rw [Lib.bytesWorld_size]; simp, fun j u hu => ?_⟩⟩
  obtain ⟨x, hx, rfl⟩ := bytes_at hu
  have hlt : j < s.size := by
    have := (List.getElem?_eq_some_iff.1 hx).1
    rwa [strL_length] at this
  have hadd : (⟨w.heap.size, 0, none⟩ : Addr).add j = ⟨w.heap.size, j, none⟩ := by
    unfold Addr.add
    split <;> simp_all
  rw [hadd, Lib.bytesWorld_cell w e s j hlt]
  unfold strL at hx
  rw [List.getElem?_map] at hx
  have hl : j < s.data.toList.length := by rw [Array.length_toList]; exact hlt
  rw [List.getElem?_eq_getElem hl] at hx
  simp only [Option.map_some, Option.some.injEq] at hx
  rw [← hx]
  simp [List.getD, List.getElem?_eq_getElem hl]
theorem cellConv {w : World} {e : TypeId} {s : ByteArray} {a : Addr} {x : Value} (h : w.cell? a = some x) : (Lib.bytesWorld w e s).cell? a = some x :=
  (Lib.bytesWorld_old w e s a (World.block_lt_of_cell? w a h)).trans h
theorem run_conv (s : ByteArray) (w : World) : (convert 9 22 (.string s)).run Try.prog w = .ok (.slice (some ⟨w.heap.size, 0, none⟩) s.size (grownCap w s.size 0 5)) (Lib.bytesWorld w 5 s) :=
  Lib.run_convert_string_bytes w 9 22 5 s Try.underlying9 Try.underlying22 Try.underlying5
end Go.Proofs.Ytfphdpcffjpbjaa.W
