/-
  The reference's Same on equal lists of tokens, theirs: a copy of a list of tokens. Condition: the lists are read, of at most 2^40 tokens.
-/
import Derived.Test.YtggdblmjnbnddaaDoorLTr
namespace Go.Proofs.YtggdblmjnbnddaaDoor.W
open Go.RowKit Go.Proofs.YtggdblmjnbnddaaDoor.Pl

/-- a slice that reads as a list of tokens -/
def SrcT (w : World) (v : Value) (l : List Tk) : Prop := Src w 4 v l.length (flat tkC l)
theorem SrcT.at_ {w : World} {g o n c : Nat} {A : Option Addr} {l : List Tk} (h : SrcT w (.slice A n c) l) (hA : A = some ⟨g, o, none⟩) {i : Nat} {x : Tk} (hx : l[i]? = some x) :
    w.cell? ⟨g, o + i * 4, none⟩ = some (.int .i64 x.kind) ∧ w.cell? ⟨g, o + i * 4 + 1, none⟩ = some (.string (tx x.text)) ∧ w.cell? ⟨g, o + i * 4 + 2, none⟩ = some (.int .i64 x.n) ∧ w.cell? ⟨g, o + i * 4 + 3, none⟩ = some (.int .i64 x.at_) := by
  obtain ⟨_, A', c', hv, _, _, hc⟩ := h
  have hi := (List.getElem?_eq_some_iff.1 hx).1
  obtain ⟨g', o', rfl, _, hcell⟩ := hc (by omega)
  simp only [Value.slice.injEq] at hv
  rw [hA] at hv
  obtain ⟨e, _, _⟩ := hv
  injection e with e
  injection e with e1 e2 _
  subst e1
  subst e2
  have h1 := hcell (i * 4 + 1) _ (flat_at tkC_len 1 hx (by omega))
  have h2 := hcell (i * 4 + 2) _ (flat_at tkC_len 2 hx (by omega))
  have h3 := hcell (i * 4 + 3) _ (flat_at tkC_len 3 hx (by omega))
  rw [← Nat.add_assoc] at h1 h2 h3
  exact ⟨hcell (i * 4) _ (flat_at tkC_len 0 hx (by omega)), h1, h2, h3⟩
theorem SrcT.form {w : World} {v : Value} {l : List Tk} (h : SrcT w v l) (hl : 0 < l.length) : ∃ g o c, v = .slice (some ⟨g, o, none⟩) l.length c ∧ l.length ≤ c ∧ c ≤ maxLen := by
  obtain ⟨_, A, c, rfl, h1, h2, hc⟩ := h
  obtain ⟨g, o, rfl, _, _⟩ := hc hl
  exact ⟨g, o, c, rfl, h1, h2⟩
theorem SrcT.block {w : World} {g o n c : Nat} {A : Option Addr} {l : List Tk} (h : SrcT w (.slice A n c) l) (hA : A = some ⟨g, o, none⟩) (hl : 0 < l.length) : g < w.heap.size := by
  obtain ⟨_, A', c', hv, _, _, hc⟩ := h
  obtain ⟨g', o', rfl, hb, _⟩ := hc hl
  simp only [Value.slice.injEq] at hv
  rw [hA] at hv
  obtain ⟨e, _, _⟩ := hv
  injection e with e
  injection e with e1 e2 _
  subst e1
  exact hb
theorem SrcT.nw {w w' : World} {v : Value} {l : List Tk} (h : SrcT w v l) (hk : Nw w w') : SrcT w' v l := Src.nw h hk
theorem OwnTk.src {w : World} {B : Nat} {v : Value} {l : List Tk} (h : OwnTk w B v l) : SrcT w v l := own_src h
theorem OwnRk.src {w : World} {B : Nat} {v : Value} {l : List Tk} (h : OwnRk w B v l) : SrcT w v l := own_src h

theorem bare_inj {t u : Tk} (h : bare t = bare u) : u = { t with at_ := u.at_ } := by
  obtain ⟨a, b, c, d⟩ := t
  obtain ⟨a', b', c', d'⟩ := u
  simp only [bare, Tk.mk.injEq] at h
  simp [h.1, h.2.1, h.2.2.1]

set_option maxRecDepth 100000 in
set_option maxHeartbeats 3200000 in
theorem sameT_any (u v : Value) (l : List Tk) (w : World) (hu : SrcT w u l) (hv : SrcT w v l) (hlen : l.length ≤ 1099511627775) :
    Calls Tryd.prog 13 #[u, v, .bool true] w fun e w' => e = .returned (.bool true) ∧ Nw w w' := by
  obtain ⟨A, cap, rfl⟩ := hu.shape
  obtain ⟨B, cbp, rfl⟩ := hv.shape
  obtain ⟨n, hn⟩ : ∃ n, l.length = n := ⟨_, rfl⟩
  have hni : (n : Int) ≤ 1099511627775 := by omega
  have HN := Lib.hid hn
  have HU := Lib.hid hu
  have HV := Lib.hid hv
  rw [hn]
  clear hn hu hv
  go_enter Tryd.func13, Tryd.ntmps13
  go_wp2
  go_loopw [7] (fun i wr => ∃ (k nq : Nat), i = .int .i64 k ∧ k ≤ n ∧ wr = w.drewN nq) (fun i _ => n - (intOf i).toNat)
  case atStart => exact ⟨0, 0, rfl, Nat.zero_le _, rfl⟩
  case round =>
    obtain ⟨k, nq, rfl, hk, rfl⟩ := hrel
    by_cases hlt : k < n
    · have hkl : k < l.length := by have := HN.out; omega
      obtain ⟨x, hx⟩ : ∃ x, l[k]? = some x := ⟨_, List.getElem?_eq_getElem hkl⟩
      have hsu := HU.out
      have hsv := HV.out
      obtain ⟨g, o, c2, hv2, _, _⟩ := hsu.form (by omega)
      simp only [Value.slice.injEq] at hv2
      have hA := hv2.1
      clear hv2
      obtain ⟨x0, x1, x2, x3⟩ := hsu.at_ hA hx
      obtain ⟨g2, o2, c3, hv3, _, _⟩ := hsv.form (by omega)
      simp only [Value.slice.injEq] at hv3
      have hB := hv3.1
      clear hv3
      obtain ⟨y0, y1, y2, y3⟩ := hsv.at_ hB hx
      subst hA
      subst hB
      have hkn : (k : Int) < (n : Int) := by omega
      have hd1 : decide ((k : Int) < (n : Int)) = true := decide_eq_true hkn
      clear hx hsu hsv
      go_wp2_with fail
      go_quiet (fail)
      go_wp2
      go_roundw
      case rel => exact ⟨k + 1, _, by go_num, by omega, rfl⟩
      case measure => simp [intOf]; omega
    · obtain rfl : k = n := by omega
      have hd1 : decide ((k : Int) < (k : Int)) = false := decide_eq_false (by omega)
      go_wp2
      go_ret
      exact ⟨rfl, (Kp.refl _ _).drewN _⟩

set_option maxRecDepth 100000 in
set_option maxHeartbeats 1600000 in
theorem theirs_any (v : Value) (l : List Tk) (w : World) (hs : SrcT w v l) (hlen : l.length ≤ 1099511627775) :
    Calls Tryd.prog 14 #[v] w fun e w' => ∃ u, e = .returned u ∧ OwnRk w' w.heap.size u l ∧ Nw w w' := by
  obtain ⟨A, cap, rfl⟩ := hs.shape
  obtain ⟨n, hn⟩ : ∃ n, l.length = n := ⟨_, rfl⟩
  have hni : (n : Int) ≤ 1099511627775 := by omega
  have HN := Lib.hid hn
  have HS := Lib.hid hs
  rw [hn]
  clear hn hs
  go_enter Tryd.func14, Tryd.ntmps14
  go_wp2
  go_loopw [3, 4] (fun u i wr => ∃ (k : Nat), i = .int .i64 k ∧ k ≤ n ∧ OwnRk wr w.heap.size u (l.take k) ∧ Nw w wr) (fun _ i _ => n - (intOf i).toNat)
  case atStart => exact ⟨0, rfl, Nat.zero_le _, World.ownsRow_nil _ _ _ _, Kp.refl _ _⟩
  case round =>
    obtain ⟨k, rfl, hk, hown, hnw⟩ := hrel
    by_cases hlt : k < n
    · have hkl : k < l.length := by have := HN.out; omega
      obtain ⟨x, hx⟩ : ∃ x, l[k]? = some x := ⟨_, List.getElem?_eq_getElem hkl⟩
      have hsu := (HS.out).nw hnw
      obtain ⟨g, o, c2, hv2, _, _⟩ := hsu.form (by omega)
      simp only [Value.slice.injEq] at hv2
      have hA := hv2.1
      clear hv2
      obtain ⟨x0, x1, x2, x3⟩ := hsu.at_ hA hx
      subst hA
      have hkn : (k : Int) < (n : Int) := by omega
      have hd1 : decide ((k : Int) < (n : Int)) = true := decide_eq_true hkn
      have htk : (l.take k).length = k := by rw [List.length_take]; omega
      unfold OwnRk at hown
      rw [htk] at hown
      have HO := Lib.hid hown
      have HW := Lib.hid hnw
      have HX := Lib.hid hx
      clear hx hsu hown hnw htk
      go_wp2_with (at_builtin; refine wp_pushG rfl (.tmp 11) (.tmp 16) 27 34 4 40 (.agg #[.int .i64 0, .string { data := #[] }, .int .i64 0, .int .i64 0]) rfl Tryd.underlying27 infoRk rfl (by omega) w.heap.size k _ (flat tkC (l.take k)) [.int .i64 x.kind, .string (tx x.text), .int .i64 x.n, .int .i64 x.at_] rfl HO.out rfl ?_ rfl ?_ ?_ HW.out.size ?_; (intro u hu; simp at hu; rcases hu with rfl | rfl | rfl | rfl <;> rfl); omega; omega; intro v5 w5 own5 gr5)
      go_roundw
      case rel =>
        refine ⟨k + 1, by go_num, by omega, ?_, gr5.nw HW.out (own_from HO.out)⟩
        have e : l.take (k + 1) = l.take k ++ [x] := by rw [List.take_add_one, HX.out]; rfl
        have e2 : (l.take k ++ [x]).length = k + 1 := by rw [List.length_append, List.length_take]; have := HN.out; simp; omega
        unfold OwnRk
        rw [e, e2, flat_snoc]
        exact own5
      case measure => simp [intOf]; omega
    · obtain rfl : k = n := by omega
      have hd1 : decide ((k : Int) < (k : Int)) = false := decide_eq_false (by omega)
      have htk : l.take k = l := List.take_of_length_le (by have := HN.out; omega)
      rw [htk] at hown
      have HO := Lib.hid hown
      clear htk hown
      go_wp2
      go_ret
      exact ⟨_, rfl, HO.out, hnw⟩
end Go.Proofs.YtggdblmjnbnddaaDoor.W
