/-
  WireRead: the call of this law returns true and leaves all that was there as it was. Conditions: the arguments read as a list of bytes, as a list of calls.
-/
import Derived.Test.YtfphdpcffjpbjaaSKA
import Derived.Test.YtfphdpcffjpbjaaSKB
import Derived.Test.YtfphdpcffjpbjaaReadOpen
namespace Go.Proofs.Ytfphdpcffjpbjaa.W
open Go.RowKit Go.Proofs.Ytfphdpcffjpbjaa.Pl

theorem lawSame_any {B P R g : Nat} {v : Value} {l : List Int} {k : Nat} {f : Bool} {w : World} (kd lo hi : Int) (h : SH B P R g v l k f w) (hhi : hi ≤ 9223372036854775807) :
    Calls Try.prog 11 #[.pointer (some ⟨P, 0, none⟩), .pointer (some ⟨R, 0, none⟩), .agg #[.int .i64 kd, .int .i64 lo, .int .i64 hi]] w (SPost B P R g v l w) := by
  have ne : ∀ m : Int, ¬ kd = m → (kd == m) = false := fun m e => by rw [beq_eq_false_iff_ne]; exact e
  by_cases h0 : kd = 0
  · subst h0; exact same_k0 lo hi h
  by_cases h1 : kd = 1
  · subst h1; exact same_k1 lo hi h
  by_cases h2 : kd = 2
  · subst h2; exact same_k2 lo hi h
  by_cases h3 : kd = 3
  · subst h3; exact same_k3 lo hi h
  by_cases h4 : kd = 4
  · subst h4; exact same_k4 lo hi h
  by_cases h5 : kd = 5
  · subst h5; exact same_k5 lo hi h hhi
  by_cases h6 : kd = 6
  · subst h6; exact same_k6 lo hi h
  by_cases h7 : kd = 7
  · subst h7; exact same_k7 lo hi h hhi
  by_cases h8 : kd = 8
  · subst h8; exact same_k8 lo hi h
  exact same_k9 kd lo hi h (ne 0 h0) (ne 1 h1) (ne 2 h2) (ne 3 h3) (ne 4 h4) (ne 5 h5) (ne 6 h6) (ne 7 h7) (ne 8 h8)

theorem rest_cap {w : World} {g : Nat} {v : Value} {l : List Int} (h : Rest w g v l) : Cap v l.length := by
  obtain ⟨A, c, rfl, h1, h2, _⟩ := h
  exact ⟨A, c, rfl, h1, h2⟩
theorem src_vb {w : World} {v : Value} {l : List Int} (h : Src w 1 v l.length (bytes l)) (hl : 0 < l.length) : ∀ j, v.ownBlock = some j → j < w.heap.size := by
  obtain ⟨_, A, c, rfl, hc⟩ := h
  obtain ⟨ad, rfl, hb, _⟩ := hc hl
  intro j hj
  simp [Value.ownBlock] at hj
  omega

theorem SH.far {B P R g : Nat} {v : Value} {l : List Int} {k : Nat} {f : Bool} {w : World} (h : SH B P R g v l k f w) {b j : Nat} {u : Value} (h1 : b ≠ P) (h2 : b ≠ R) (h3 : b ≠ g) (h4 : B ≤ b) : SH B P R g v l k f (w.setCell ⟨b, j, none⟩ u) :=
  ⟨h.rec_.grown (grown_setCell w b j u) (fun e => h1 (by injection e)) (fun e => h3 (by injection e)), h.ref_.far h2 (fun i hi e => by have := h.vb_ i hi; omega), h.by_, h.cap_, h.len_, h.vb_, h.bp_, h.br_, by have := h.bw_; simp [World.setCell]; exact this, h.pr_, h.gr_⟩
theorem SH.drewN {B P R g : Nat} {v : Value} {l : List Int} {k : Nat} {f : Bool} {w : World} (h : SH B P R g v l k f w) (n : Nat) : SH B P R g v l k f (w.drewN n) := ⟨h.rec_, h.ref_, h.by_, h.cap_, h.len_, h.vb_, h.bp_, h.br_, h.bw_, h.pr_, h.gr_⟩
theorem three_new (w : World) (x y z : Value) (T : Nat) : (w.alloc (.cells #[x, y, z] T)).heap[w.heap.size]? = some (.cells #[x, y, z] T) := heap_alloc_new w _

set_option maxRecDepth 100000 in
set_option maxHeartbeats 3200000 in
theorem read_walk (v u : Value) (l : List Int) (q : List (Int × Int × Int)) (w : World) (hcap : Cap v l.length) (hsr : Src w 1 v l.length (bytes l)) (hb : By l) (hq : SrcQ w u q) (hqi : ∀ p ∈ q, QI64 p) (hvb : ∀ j, v.ownBlock = some j → j < w.heap.size) (hn : l.length ≤ 140737488355328) :
    Calls Try.prog 3 #[v, u] w fun e w' => e = .returned (.bool true) ∧ Below w.heap.size w w' := by
  obtain ⟨A, c, rfl⟩ := hsr.shape
  obtain ⟨A', c', rfl⟩ := hq.shape
  by_cases h900 : l.length ≤ 900
  · have hd1 : decide ((900 : Int) < (l.length : Int)) = false := decide_eq_false (by omega)
    by_cases h20 : q.length ≤ 20
    · have hd2 : decide ((20 : Int) < (q.length : Int)) = false := decide_eq_false (by omega)
      have HQ := Lib.hid hq
      have HQI := Lib.hid hqi
      have HVB := Lib.hid hvb
      have HSR := Lib.hid hsr
      clear hq hqi hvb hsr
      go_enter Try.func3, Try.ntmps3
      go_wp2_with (first
        | (go_at_call 9; ((with_reducible refine (awake_any _).mono ?_); rintro e w1 ⟨rfl, hb1⟩; have b1 := hb1.alloc hb1.size (.cells (bytes []).toArray 5); have o0 := OwnB.lit w1 w.heap.size [] hb1.size (Nat.zero_le _)))
        | (at_builtin; refine wp_app rfl (.tmp 20) (.tmp 21) rfl w.heap.size (.slice (some ⟨w1.heap.size, 0, none⟩) 0 0) (.slice A l.length c) [] l rfl o0 rfl (HSR.out.below b1) ?_ b1.size ?_; (simp; omega); intro v2 w2 own2 gr2; have b2 := b1.trans (gr2.below b1.size o0.from_); rw [List.nil_append] at own2; (obtain ⟨A2, c2, rfl⟩ := own2.src.shape))
        | (go_at_call 10; ((with_reducible refine (new_any _ l _ own2.src hn).mono ?_); rintro e w3 ⟨P, g, rfl, hP, hg, hrec, hb3⟩; have b3 := b2.trans (hb3.mono b2.size)))
        )
      obtain ⟨g2, hrec2, hg2, hg3⟩ : ∃ g2, Rec w3 79 P g2 l false ∧ w2.heap.size ≤ g2 ∧ g2 < w3.heap.size := by
        by_cases h0 : l = []
        · subst h0
          obtain ⟨rest, e1, ⟨B1, d1, e2, e3, e4, _⟩, _⟩ := id hrec
          exact ⟨P, ⟨rest, e1, ⟨B1, d1, e2, e3, e4, fun hne => absurd rfl hne⟩, fun hne => absurd rfl hne⟩, hP, hrec.lt⟩
        · obtain ⟨rest, _, hr, _⟩ := id hrec
          exact ⟨g, hrec, hg, hr.lt_ h0⟩
      have hPlt := hrec2.lt
      have hz2 := b2.size
      have hz3 := b3.size
      have hsh : SH w.heap.size P w3.heap.size g2 (.slice A l.length c) l 0 false (w3.alloc (.cells #[.slice A l.length c, .int .i64 0, .bool false] 29)) :=
        ⟨hrec2.below ((Below.refl _ _).alloc (Nat.le_refl _) _), ⟨three_new _ _ _ _ _, HSR.out.below (b3.alloc hz3 _), by omega, Nat.zero_le _, (by
          cases hq : (Value.slice A l.length c).ownBlock with
          | none => exact .inl rfl
          | some i => exact .inr (fun e => by injection e with e; have := HVB.out i hq; omega))⟩, hb, hcap, h900, HVB.out, by omega, hz3, by simp; omega, by omega, by omega⟩
      have b4 : Below w.heap.size w (w3.alloc (.cells #[.slice A l.length c, .int .i64 0, .bool false] 29)) := b3.alloc hz3 _
      have own4 : OwnB (w3.alloc (.cells #[.slice A l.length c, .int .i64 0, .bool false] 29)) w.heap.size (.slice A2 l.length c2) l := (own2.below hb3).alloc _
      have hlt2 : ∀ i, (Value.slice A2 l.length c2).ownBlock = some i → i < w2.heap.size := own2.lt_
      have HL2 := Lib.hid hlt2
      obtain ⟨R, hR⟩ : ∃ R, w3.heap.size = R := ⟨_, rfl⟩
      generalize hw4 : w3.alloc (.cells #[.slice A l.length c, .int .i64 0, .bool false] 29) = w4 at *
      rw [hR] at hsh hg3 hPlt ⊢
      clear hw4 hR hrec hrec2 hlt2 own2 hb3 b3 b2 gr2 o0 b1 hb1 hg
      go_loopw [8] (fun i wr => ∃ (j : Nat) (L : List Int), j ≤ l.length ∧ i = .int .i64 j ∧ L.length = l.length ∧ OwnB wr w.heap.size (.slice A2 l.length c2) L ∧ SH w.heap.size P R g2 (.slice A l.length c) l 0 false wr ∧ Below w.heap.size w wr) (fun i _ => l.length - (intOf i).toNat)
      case atStart => exact ⟨0, l, Nat.zero_le _, rfl, rfl, own4, hsh, b4⟩
      case round =>
        obtain ⟨j, L, hj, rfl, hL, hown, hsr, hbr⟩ := hrel
        have HLL := Lib.hid hL
        have HO := Lib.hid hown
        have HSH := Lib.hid hsr
        have HBR := Lib.hid hbr
        clear hL hown hsr hbr hsh b4 own4
        by_cases hlt : j < l.length
        · have hpos : 0 < L.length := by have := HLL.out; omega
          obtain ⟨g5, c5, e5, hg5, hg5', _, _⟩ := HO.out.form hpos
          have hbl := HL2.out g5 (by rw [e5]; rfl)
          simp only [Value.slice.injEq] at e5
          obtain ⟨rfl, _, rfl⟩ := e5
          obtain ⟨x, hx⟩ : ∃ x, L[j]? = some x := ⟨L[j]'(by have := HLL.out; omega), List.getElem?_eq_getElem _⟩
          obtain ⟨x4, f4⟩ := HO.out.cell hx
          clear hx
          go_wp2
          refine ⟨⟨j + 1, L.set j _, by omega, by go_num, by rw [List.length_set]; exact HLL.out, HO.out.set_ j _, HSH.out.far (by omega) (by omega) (by omega) hg5, HBR.out.setCell hg5 _⟩, by simp [intOf]; omega⟩
        · obtain rfl : j = l.length := by omega
          go_wp2
          go_loopw [9] (fun i wq => ∃ (m k2 : Nat) (f2 : Bool), m ≤ q.length ∧ i = .int .i64 m ∧ SH w.heap.size P R g2 (.slice A l.length c) l k2 f2 wq ∧ Below w.heap.size w wq) (fun i _ => q.length - (intOf i).toNat)
          case atStart => exact ⟨0, 0, false, Nat.zero_le _, rfl, HSH.out, HBR.out⟩
          case round =>
            obtain ⟨m, k2, f2, hm, rfl, hsq, hbq⟩ := hrel
            by_cases hlt2 : m < q.length
            · obtain ⟨p, hp⟩ : ∃ p, q[m]? = some p := ⟨q[m], List.getElem?_eq_getElem hlt2⟩
              have hpi := HQI.out p (List.mem_of_getElem? hp)
              obtain ⟨hp1, hp2, hp3⟩ := hpi
              obtain ⟨g6, o6, c6, e6, hcells⟩ := Src.form (Src.below HQ.out hbq) (by omega) (by omega)
              simp only [Value.slice.injEq] at e6
              obtain ⟨rfl, _, rfl⟩ := e6
              have r0 := hcells _ _ (reads_at hp).1
              have r1 := hcells _ _ (reads_at hp).2.1
              have r2 := hcells _ _ (reads_at hp).2.2
              rw [← Nat.add_assoc] at r1 r2
              have HSQ := Lib.hid hsq
              have HBQ := Lib.hid hbq
              have hhi : p.2.2 ≤ 9223372036854775807 := hp3.2
              have hqm : q.length ≤ 4611686018427387904 := by omega
              clear hcells hp hsq hbq
              go_wp2_with (first
                | (go_at_call 11; ((with_reducible refine (lawSame_any p.1 p.2.1 p.2.2 HSQ.out hhi).mono ?_); rintro e w5 ⟨rfl, ⟨k3, f3, hs3⟩, hb5⟩; have b5 := HBQ.out.trans hb5; have HS3 := Lib.hid hs3; clear hs3 hb5))
                | (go_at_call 12; ((with_reducible refine (left_any P g2 (l.drop k3) f3 _ HS3.out.rec_).mono ?_); rintro e w6 ⟨rfl, rfl⟩; rw [List.length_drop]))
                | (go_at_call 13; ((with_reducible refine (refLeft_any R _ l k3 f3 _ HS3.out.ref_).mono ?_); rintro e w6 ⟨rfl, n6, rfl⟩; have HS4 := Lib.hid (HS3.out.drewN n6)))
                | (go_at_call 14; ((with_reducible refine (end_any P g2 (l.drop k3) f3 _ HS4.out.rec_).mono ?_); rintro e w7 ⟨rfl, rfl⟩))
                | (go_at_call 15; ((with_reducible refine (refEnd_any R _ l k3 f3 _ HS4.out.ref_).mono ?_); rintro e w7 ⟨rfl, n7, rfl⟩; have HS5 := Lib.hid (HS4.out.drewN n7)))
                )
              go_roundw
              case rel => exact ⟨m + 1, k3, f3, by omega, by go_num, by have := HS5.out; rwa [World.drewN_drewN] at this, below_drewN b5 _⟩
              case measure => simp [intOf]; omega
            · obtain rfl : m = q.length := by omega
              go_wp2
              go_ret
              exact ⟨rfl, hbq⟩
    · have hd2 : decide ((20 : Int) < (q.length : Int)) = true := decide_eq_true (by omega)
      clear hq hsr h20
      go_enter Try.func3, Try.ntmps3
      go_wp2_with (go_at_call 9; ((with_reducible refine (awake_any _).mono ?_); rintro e w1 ⟨rfl, hb1⟩))
      go_ret
      exact ⟨rfl, hb1⟩
  · have hd1 : decide ((900 : Int) < (l.length : Int)) = true := decide_eq_true (by omega)
    clear hq hsr h900
    go_enter Try.func3, Try.ntmps3
    go_wp2_with (go_at_call 9; ((with_reducible refine (awake_any _).mono ?_); rintro e w1 ⟨rfl, hb1⟩))
    go_ret
    exact ⟨rfl, hb1⟩
end Go.Proofs.Ytfphdpcffjpbjaa.W
