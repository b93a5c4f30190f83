/-
  vec, plain: where a vector is inserted. No condition.
  vec: an append of a slice of vectors as a step of a region that draws its order; what a vector's cells are. No condition.
  ring: whether all points of a list are within the limits, of both sides. No condition.
  ring: a list of segments in memory. No condition.
  ring: Edges: what it returns. Condition: the list is not longer than 2^40.
  ring: the library's functions on a row of the call's own: Clone, Reverse, clear. Condition: the list is not longer than 2^40.
-/
import Derived.Test.YtlogihcmmoldkaaK09
import Derived.Test.YtlogihcmmoldkaaK10
import Derived.Test.YtlogihcmmoldkaaK08
import Derived.Deep.OwnRows
import Derived.Laws.MakeOwn
import Derived.BigRegion
import Derived.Test.YtlogihcmmoldkaaLayR
namespace Go.Proofs.Ytlogihcmmoldkaa.W
open Go.RowKit Go.Proofs.Ytlogihcmmoldkaa.V

theorem place_le (x : Int × Int) : ∀ l : List (Int × Int), place x l ≤ l.length
  | [] => Nat.le_refl 0
  | y :: r => by
    have := place_le x r
    rw [place]
    split
    · simp; omega
    · simp
theorem place_lt {x : Int × Int} : ∀ {l : List (Int × Int)} {q : Nat}, q < place x l → ∃ y, l[q]? = some y ∧ lessV y.1 y.2 x.1 x.2 = true
  | [], q, h => absurd h (Nat.not_lt_zero q)
  | y :: r, q, h => by
    rw [place] at h
    split at h
    · rename_i hy
      cases q with
      | zero => exact ⟨y, rfl, hy⟩
      | succ q =>
        obtain ⟨z, hz, hl⟩ := place_lt (x := x) (l := r) (q := q) (by omega)
        exact ⟨z, by simpa using hz, hl⟩
    · exact absurd h (Nat.not_lt_zero q)
theorem place_at {x : Int × Int} : ∀ {l : List (Int × Int)}, place x l < l.length → ∃ y, l[place x l]? = some y ∧ lessV y.1 y.2 x.1 x.2 = false
  | [], h => absurd h (Nat.not_lt_zero _)
  | y :: r, h => by
    by_cases hy : lessV y.1 y.2 x.1 x.2 = true
    · have hp : place x (y :: r) = place x r + 1 := if_pos hy
      rw [hp] at h ⊢
      obtain ⟨z, hz, hl⟩ := place_at (l := r) (x := x) (by simpa using h)
      exact ⟨z, by simpa using hz, hl⟩
    · have hp : place x (y :: r) = 0 := if_neg hy
      rw [hp]
      exact ⟨y, rfl, by simpa using hy⟩
theorem insU_len (out : List (Int × Int)) (x : Int × Int) : (insU out x).length ≤ out.length + 1 := by
  have := place_le x out
  unfold insU
  split
  · omega
  · simp
    omega
theorem ins_take {l : List (Int × Int)} {k : Nat} {x : Int × Int} (h : l[k]? = some x) : insAll (l.take (k + 1)) = insU (insAll (l.take k)) x := by
  unfold insAll
  rw [List.take_add_one, h, Option.toList_some, List.foldl_append]
  rfl
end Go.Proofs.Ytlogihcmmoldkaa.W

namespace Go.Proofs.Ytlogihcmmoldkaa.W
open Go.RowKit Go.Proofs.Ytlogihcmmoldkaa.V

theorem elemVec : Try.prog.elem 27 = 23 := by kernel_rfl
theorem infoVec : (Try.prog.info? 23).map (fun i => (i.zero, i.size, i.bytes)) = some (some (.agg #[.int .i64 0, .int .i64 0]), 2, 16) := by kernel_rfl
section
variable {w : World} {ops : Array Oper} {o : Oper} {a : Act} {K : Act → World → Prop} {Q : Exit → Act → World → Prop} {E : Prop}
theorem step_appV (hgd : o.guard = none) (s x : Operand) (ho : o.op = .call { callee := .builtin .append, args := #[s, x], argTypes := #[27, 27] })
    (B n m : Nat) (v u : Value) (vs us : List Value) (hs : a.eval s = v) (hown : w.ownsRow B 23 2 v n vs) (hx : a.eval x = u) (hsrc : Src w 2 u m us) (hone : ∀ u ∈ us, u.oneCell' = true)
    (hlen : (n + m) * 16 ≤ 140737488355328) (hB : B ≤ w.heap.size)
    (h : ∀ v' w', w'.ownsRow B 23 2 v' (n + m) (vs ++ us) → Grew w w' v v' → K (a.put o.dst v') w') :
    if Region.wanted o (yielded ops a.tmps) = true then Oper.wp Try.prog o a w K Q else E := by
  have hw : Region.wanted o (yielded ops a.tmps) = true := by simp [Region.wanted, hgd]
  rw [if_pos hw]
  obtain ⟨v', w', hr, h1, h2⟩ := run_appG o.type 27 23 2 16 (.agg #[.int .i64 0, .int .i64 0]) Try.underlying27 infoVec rfl (by omega) B n m v u vs us hown hsrc hone hlen (by omega) hB
  unfold Oper.wp execOp
  simp only [ho, resolve, invoke, builtin, Sem.run_bind, Sem.run_pure, Result.andThen_ok, List.map_toArray, List.map_cons, List.map_nil, hs, hx, hr]
  exact h v' w' h1 h2
end
theorem take_one (l : List (Int × Int)) (k : Nat) : ∀ u ∈ (l.flatMap vC).take k, u.oneCell' = true := fun u hu => flatV_one l u (List.mem_of_mem_take hu)
theorem drop_one (l : List (Int × Int)) (k : Nat) : ∀ u ∈ (l.flatMap vC).drop k, u.oneCell' = true := fun u hu => flatV_one l u (List.mem_of_mem_drop hu)
theorem own_lit_at {base : Nat} (w : World) (n : Nat) (h : w.heap.size = n) (hb : base ≤ n) : (w.alloc (.cells #[] 23)).ownsRow base 23 2 (.slice (some ⟨n, 0, none⟩) 0 0) 0 [] := by
  subst h
  exact World.ownsRow_lit w #[] 0 hb (Nat.zero_le _) rfl
/-- a new slice of one vector -/
theorem src_one {w : World} {g : Nat} {x y : Int} (h : Blk w g 23 #[.int .i64 x, .int .i64 y]) : Src w 2 (.slice (some ⟨g, 0, none⟩) 1 1) 1 [.int .i64 x, .int .i64 y] := by
  refine ⟨rfl, _, _, rfl, Nat.le_refl _, by unfold maxLen; omega, fun _ => ⟨g, 0, rfl, h.lt, fun j u hu => ?_⟩⟩
  rw [Nat.zero_add, h.cell j, ← hu]
  exact List.getElem?_toArray
end Go.Proofs.Ytlogihcmmoldkaa.W

namespace Go.Proofs.Ytlogihcmmoldkaa.W
open Go.RowKit Go.Proofs.Ytlogihcmmoldkaa.V Go.Proofs.Ytlogihcmmoldkaa.G


set_option maxRecDepth 100000 in
set_option maxHeartbeats 3200000 in
theorem isWithinL_any (l : List (Int × Int)) (v : Value) (w : World) (hv : SrcV w v l) : Calls Try.prog 43 #[v] w fun e w' => e = .returned (.bool (allW l)) ∧ Nw w w' := by
  obtain ⟨A, c, rfl⟩ := hv.shape
  obtain ⟨n, hn⟩ : ∃ n, l.length = n := ⟨_, rfl⟩
  replace hv := src_n hv hn
  rw [hn]
  have HV := Lib.hid hv
  have HN := Lib.hid hn
  have hmx := src_max hv
  clear hv hn
  go_enter Try.func43, Try.ntmps43
  go_wp2_with fail
  go_loopw [7] (fun i wr => ∃ k : Nat, i = .int .i64 k ∧ k ≤ n ∧ (∀ j, j < k → wOk (at_ l j) = true) ∧ Nw w wr) (fun i _ => n - (intOf i).toNat)
  case atStart => exact ⟨0, rfl, Nat.zero_le _, fun j h => absurd h (Nat.not_lt_zero _), by repeat (first | exact Kp.refl _ _ | refine Kp.drew ?_)⟩
  case round =>
    obtain ⟨k, rfl, hk, hall, hnw⟩ := hrel
    have HA := Lib.hid hall
    have HK := Lib.hid hnw
    clear hall hnw
    by_cases hkn : k < n
    · have i0 : (0 : Int) ≤ (k : Int) := by omega
      have i1 : (k : Int) < (n : Int) := by omega
      have e3 : IntKind.i64.wrap ((k : Int) + 1) = ((k + 1 : Nat) : Int) := by rw [IntKind.wrap_i64]; omega
      obtain ⟨g, o, rfl, hg, hc⟩ := src_at HV.out (by omega)
      obtain ⟨q0, q1⟩ := hc wr HK.out k hkn
      obtain ⟨⟨px, py⟩, hp⟩ : ∃ p, at_ l k = p := ⟨_, rfl⟩
      rw [hp] at q0 q1
      have HP := Lib.hid hp
      have cw := fun w1 => within_any px py 2000 w1
      obtain ⟨b, hb⟩ : ∃ b, withinV px py 2000 = b := ⟨_, rfl⟩
      rw [hb] at cw
      have HB := Lib.hid hb
      clear hp hb hc hg
      cases b
      · go_wp2_with (first | (go_at_call 31; ((with_reducible refine (cw _).mono ?_); rintro e w5 ⟨rfl, hk5⟩)))
        go_ret
        refine ⟨by show Ending.returned (.bool false) = _; rw [show allW l = false from allTo_not (i := k) (by rw [HN.out]; exact hkn) (by rw [HP.out]; exact HB.out)], ?_⟩
        exact (by repeat (first | exact HK.out | refine Kp.alloc ?_ _ | refine Kp.drew ?_) : Nw w _).tr hk5
      · go_wp2_with (first | (go_at_call 31; ((with_reducible refine (cw _).mono ?_); rintro e w5 ⟨rfl, hk5⟩)))
        go_roundw
        case rel =>
          refine ⟨k + 1, rfl, by omega, fun j hj => ?_, (by repeat (first | exact HK.out | refine Kp.alloc ?_ _ | refine Kp.drew ?_) : Nw w _).tr hk5⟩
          rcases Nat.lt_or_ge j k with h | h
          · exact HA.out j h
          · obtain rfl : j = k := by omega
            rw [HP.out]
            exact HB.out
        case measure => (simp [intOf]; try omega)
    · obtain rfl : k = n := by omega
      have i5 : ¬ ((k : Int) < (k : Int)) := by omega
      go_wp2_with fail
      go_ret
      exact ⟨by show Ending.returned (.bool true) = _; rw [show allW l = true from allTo_iff.2 fun i hi => HA.out i (by rw [HN.out] at hi; exact hi)], HK.out⟩

set_option maxRecDepth 100000 in
set_option maxHeartbeats 3200000 in
theorem rwithinL_any (l : List (Int × Int)) (v : Value) (w : World) (hv : SrcV w v l) : Calls Try.prog 51 #[v] w fun e w' => e = .returned (.bool (allW l)) ∧ Nw w w' := by
  obtain ⟨A, c, rfl⟩ := hv.shape
  obtain ⟨n, hn⟩ : ∃ n, l.length = n := ⟨_, rfl⟩
  replace hv := src_n hv hn
  rw [hn]
  have HV := Lib.hid hv
  have HN := Lib.hid hn
  have hmx := src_max hv
  clear hv hn
  go_enter Try.func51, Try.ntmps51
  go_wp2_with fail
  go_loopw [3] (fun i wr => ∃ k : Nat, i = .int .i64 k ∧ k ≤ n ∧ (∀ j, j < k → wOk (at_ l j) = true) ∧ Nw w wr) (fun i _ => n - (intOf i).toNat)
  case atStart => exact ⟨0, rfl, Nat.zero_le _, fun j h => absurd h (Nat.not_lt_zero _), by repeat (first | exact Kp.refl _ _ | refine Kp.drew ?_)⟩
  case round =>
    obtain ⟨k, rfl, hk, hall, hnw⟩ := hrel
    have HA := Lib.hid hall
    have HK := Lib.hid hnw
    clear hall hnw
    by_cases hkn : k < n
    · have i0 : (0 : Int) ≤ (k : Int) := by omega
      have i1 : (k : Int) < (n : Int) := by omega
      have e3 : IntKind.i64.wrap ((k : Int) + 1) = ((k + 1 : Nat) : Int) := by rw [IntKind.wrap_i64]; omega
      obtain ⟨g, o, rfl, hg, hc⟩ := src_at HV.out (by omega)
      obtain ⟨q0, q1⟩ := hc wr HK.out k hkn
      obtain ⟨⟨px, py⟩, hp⟩ : ∃ p, at_ l k = p := ⟨_, rfl⟩
      rw [hp] at q0 q1
      have HP := Lib.hid hp
      have cw := fun w1 => rwithin_any px py 2000 w1
      obtain ⟨b, hb⟩ : ∃ b, withinV px py 2000 = b := ⟨_, rfl⟩
      rw [hb] at cw
      have HB := Lib.hid hb
      clear hp hb hc hg
      cases b
      · go_wp2_with (first | (go_at_call 24; ((with_reducible refine (cw _).mono ?_); rintro e w5 ⟨rfl, hk5⟩)))
        go_ret
        refine ⟨by show Ending.returned (.bool false) = _; rw [show allW l = false from allTo_not (i := k) (by rw [HN.out]; exact hkn) (by rw [HP.out]; exact HB.out)], ?_⟩
        exact (by repeat (first | exact HK.out | refine Kp.alloc ?_ _ | refine Kp.drew ?_) : Nw w _).tr hk5
      · go_wp2_with (first | (go_at_call 24; ((with_reducible refine (cw _).mono ?_); rintro e w5 ⟨rfl, hk5⟩)))
        go_roundw
        case rel =>
          refine ⟨k + 1, rfl, by omega, fun j hj => ?_, (by repeat (first | exact HK.out | refine Kp.alloc ?_ _ | refine Kp.drew ?_) : Nw w _).tr hk5⟩
          rcases Nat.lt_or_ge j k with h | h
          · exact HA.out j h
          · obtain rfl : j = k := by omega
            rw [HP.out]
            exact HB.out
        case measure => (simp [intOf]; try omega)
    · obtain rfl : k = n := by omega
      have i5 : ¬ ((k : Int) < (k : Int)) := by omega
      go_wp2_with fail
      go_ret
      exact ⟨by show Ending.returned (.bool true) = _; rw [show allW l = true from allTo_iff.2 fun i hi => HA.out i (by rw [HN.out] at hi; exact hi)], HK.out⟩

end Go.Proofs.Ytlogihcmmoldkaa.W

namespace Go.Proofs.Ytlogihcmmoldkaa.W
open Go.RowKit Go.Proofs.Ytlogihcmmoldkaa.V Go.Proofs.Ytlogihcmmoldkaa.G

abbrev eC (e : Ed) : List Value := [.int .i64 e.1.1, .int .i64 e.1.2, .int .i64 e.2.1, .int .i64 e.2.2]
abbrev SrcE (w : World) (v : Value) (l : List Ed) : Prop := Src w 4 v l.length (l.flatMap eC)
abbrev RowE (w : World) (g : Nat) (l : List Ed) : Prop := Blk w g 76 (l.flatMap eC).toArray
theorem flatE_at : ∀ (l : List Ed) (k : Nat) (e : Ed), l[k]? = some e → (l.flatMap eC)[k * 4]? = some (.int .i64 e.1.1) ∧ (l.flatMap eC)[k * 4 + 1]? = some (.int .i64 e.1.2) ∧ (l.flatMap eC)[k * 4 + 2]? = some (.int .i64 e.2.1) ∧ (l.flatMap eC)[k * 4 + 3]? = some (.int .i64 e.2.2)
  | [], k, p, h => by simp at h
  | q :: r, 0, p, h => by
    obtain rfl : q = p := by simpa using h
    exact ⟨rfl, rfl, rfl, rfl⟩
  | q :: r, k + 1, p, h => by
    have hr := flatE_at r k p (by simpa using h)
    rw [List.flatMap_cons, show (k + 1) * 4 = k * 4 + 1 + 1 + 1 + 1 by omega]
    exact ⟨by simpa [eC] using hr.1, by simpa [eC] using hr.2.1, by simpa [eC] using hr.2.2.1, by simpa [eC] using hr.2.2.2⟩
theorem flatE_len (l : List Ed) : (l.flatMap eC).length = l.length * 4 := by
  induction l with
  | nil => rfl
  | cons x r ih => rw [List.flatMap_cons, List.length_append, ih, List.length_cons]; show 4 + r.length * 4 = (r.length + 1) * 4; omega
theorem flatE_one (l : List Ed) : ∀ u ∈ l.flatMap eC, u.oneCell' = true := by
  intro u hu
  obtain ⟨e, _, h⟩ := List.mem_flatMap.1 hu
  simp [eC] at h
  rcases h with rfl | rfl | rfl | rfl <;> rfl
theorem flatE_set : ∀ (l : List Ed) (k : Nat) (a b c d : Int), ((((l.flatMap eC).set (k * 4) (.int .i64 a)).set (k * 4 + 1) (.int .i64 b)).set (k * 4 + 2) (.int .i64 c)).set (k * 4 + 3) (.int .i64 d) = (l.set k ((a, b), (c, d))).flatMap eC
  | [], k, a, b, c, d => rfl
  | q :: r, 0, a, b, c, d => rfl
  | q :: r, k + 1, a, b, c, d => by
    rw [List.set_cons_succ, List.flatMap_cons, List.flatMap_cons, ← flatE_set r k a b c d]
    show ((((Value.int .i64 q.1.1 :: Value.int .i64 q.1.2 :: Value.int .i64 q.2.1 :: Value.int .i64 q.2.2 :: r.flatMap eC).set ((k + 1) * 4) _).set ((k + 1) * 4 + 1) _).set ((k + 1) * 4 + 2) _).set ((k + 1) * 4 + 3) _ = _
    rw [show (k + 1) * 4 = k * 4 + 1 + 1 + 1 + 1 by omega]
    rfl
theorem RowE.set_ {w : World} {g : Nat} {l : List Ed} (h : RowE w g l) (k : Nat) (a b c d : Int) : RowE ((((w.setCell ⟨g, k * 4, none⟩ (.int .i64 a)).setCell ⟨g, k * 4 + 1, none⟩ (.int .i64 b)).setCell ⟨g, k * 4 + 2, none⟩ (.int .i64 c)).setCell ⟨g, k * 4 + 3, none⟩ (.int .i64 d)) g (l.set k ((a, b), (c, d))) := by
  have := Blk.set_ (Blk.set_ (Blk.set_ (Blk.set_ h (k * 4) (.int .i64 a)) (k * 4 + 1) (.int .i64 b)) (k * 4 + 2) (.int .i64 c)) (k * 4 + 3) (.int .i64 d)
  rw [List.setIfInBounds_toArray, List.setIfInBounds_toArray, List.setIfInBounds_toArray, List.setIfInBounds_toArray, flatE_set] at this
  exact this
theorem RowE.at_ {w : World} {g : Nat} {l : List Ed} (h : RowE w g l) {k : Nat} {e : Ed} (hk : l[k]? = some e) : (w.cell? ⟨g, k * 4, none⟩ = some (.int .i64 e.1.1) ∧ w.cell? ⟨g, k * 4 + 1, none⟩ = some (.int .i64 e.1.2) ∧ w.cell? ⟨g, k * 4 + 2, none⟩ = some (.int .i64 e.2.1) ∧ w.cell? ⟨g, k * 4 + 3, none⟩ = some (.int .i64 e.2.2)) ∧ w.frozen? ⟨g, k * 4, none⟩ = false ∧ w.frozen? ⟨g, k * 4 + 1, none⟩ = false ∧ w.frozen? ⟨g, k * 4 + 2, none⟩ = false ∧ w.frozen? ⟨g, k * 4 + 3, none⟩ = false := by
  obtain ⟨f1, f2, f3, f4⟩ := flatE_at l k e hk
  refine ⟨⟨?_, ?_, ?_, ?_⟩, h.frozen _, h.frozen _, h.frozen _, h.frozen _⟩
  · rw [h.cell]; simpa using f1
  · rw [h.cell]; simpa using f2
  · rw [h.cell]; simpa using f3
  · rw [h.cell]; simpa using f4
theorem RowE.src {w : World} {g : Nat} {l : List Ed} (h : RowE w g l) {n : Nat} (hn : l.length = n) (hm : n ≤ maxLen) : SrcE w (.slice (some ⟨g, 0, none⟩) n n) l := by
  subst hn
  refine ⟨flatE_len l, _, _, rfl, Nat.le_refl _, hm, fun _ => ⟨g, 0, rfl, h.lt, fun j u hu => ?_⟩⟩
  rw [Nat.zero_add, h.cell j, ← hu]
  exact List.getElem?_toArray
theorem segInfo : ∃ i0, Try.prog.info? 76 = some i0 ∧ i0.zero = some (.agg #[.int .i64 0, .int .i64 0, .int .i64 0, .int .i64 0]) ∧ i0.size = 4 ∧ i0.bytes = 32 :=
  ⟨(Try.prog.info? 76).get (by kernel_rfl), by kernel_rfl, by kernel_rfl, by kernel_rfl, by kernel_rfl⟩
def zE : Ed := ((0, 0), (0, 0))
theorem made_edges (n : Nat) : madeCells #[Value.int .i64 0, .int .i64 0, .int .i64 0, .int .i64 0] (n * 4) = ((List.replicate n zE).flatMap eC).toArray := by
  have hl : ((List.replicate n zE).flatMap eC) = List.replicate (n * 4) (.int .i64 0) := by
    induction n with
    | zero => rfl
    | succ n ih => rw [List.replicate_succ, List.flatMap_cons, ih, show (n + 1) * 4 = n * 4 + 1 + 1 + 1 + 1 by omega, List.replicate_succ, List.replicate_succ, List.replicate_succ, List.replicate_succ]; rfl
  rw [hl]
  apply Array.ext_getElem?
  intro j
  by_cases hj : j < n * 4
  · have : j % 4 < 4 := Nat.mod_lt _ (by omega)
    rcases (show j % 4 = 0 ∨ j % 4 = 1 ∨ j % 4 = 2 ∨ j % 4 = 3 by omega) with h | h | h | h <;> simp [madeCells, hj, h]
  · simp [madeCells, hj]
theorem make_edges (n : Nat) (hn : n ≤ 1099511627776) (w : World) : (Instr.makeSlice 72 (.int .i64 (n : Int)) (.int .i64 (n : Int))).run Try.prog w = .ok (.slice (some ⟨w.heap.size, 0, none⟩) n n) (w.alloc (.cells ((List.replicate n zE).flatMap eC).toArray 76)) := by
  obtain ⟨i0, hi, hz, hs, hb⟩ := segInfo
  have hr := run_make (P := Try.prog) w 72 76 i0 (.agg #[.int .i64 0, .int .i64 0, .int .i64 0, .int .i64 0]) Try.underlying72 hi hz .i64 .i64 n n (by omega) (Int.le_refl _) (by rw [hb]; omega) (by omega)
  simp only [Int.toNat_natCast, hs] at hr
  rw [← made_edges]
  exact hr
/-- where a list's segments lie, in all later worlds -/
theorem srcE_at {w : World} {A : Option Addr} {n c : Nat} {l : List Ed} (h : Src w 4 (.slice A n c) n (l.flatMap eC)) (hn : 0 < n) :
    ∃ g o, A = some ⟨g, o, none⟩ ∧ g < w.heap.size ∧ ∀ w', Nw w w' → ∀ k e, l[k]? = some e → w'.cell? ⟨g, o + k * 4, none⟩ = some (.int .i64 e.1.1) ∧ w'.cell? ⟨g, o + k * 4 + 1, none⟩ = some (.int .i64 e.1.2) ∧ w'.cell? ⟨g, o + k * 4 + 2, none⟩ = some (.int .i64 e.2.1) ∧ w'.cell? ⟨g, o + k * 4 + 3, none⟩ = some (.int .i64 e.2.2) := by
  obtain ⟨_, A', c', e, _, _, hc⟩ := h
  injection e with e1 e2 e3
  subst e1
  obtain ⟨g, o, rfl, hg, hc⟩ := hc (by omega)
  refine ⟨g, o, rfl, hg, fun w' hk k e he => ?_⟩
  obtain ⟨f1, f2, f3, f4⟩ := flatE_at l k e he
  exact ⟨(hk.cell (p := ⟨g, o + k * 4, none⟩) hg id).trans (hc _ _ f1), (hk.cell (p := ⟨g, o + (k * 4 + 1), none⟩) hg id).trans (hc _ _ f2), (hk.cell (p := ⟨g, o + (k * 4 + 2), none⟩) hg id).trans (hc _ _ f3), (hk.cell (p := ⟨g, o + (k * 4 + 3), none⟩) hg id).trans (hc _ _ f4)⟩
end Go.Proofs.Ytlogihcmmoldkaa.W

namespace Go.Proofs.Ytlogihcmmoldkaa.W
open Go.RowKit Go.Proofs.Ytlogihcmmoldkaa.V Go.Proofs.Ytlogihcmmoldkaa.G


theorem edges_ext {l : List Pt} {M : List Ed} (h2 : ¬ l.length < 2) (hm : M.length = l.length) (h : ∀ j, j < l.length → M[j]? = some (edgeP l j)) : M = edgesP l := by
  apply List.ext_getElem?
  intro j
  rcases Nat.lt_or_ge j l.length with hj | hj
  · rw [h j hj, edges_at h2 hj]
  · rw [List.getElem?_eq_none (by omega), List.getElem?_eq_none (by rw [edges_len, if_neg h2]; exact hj)]
set_option maxRecDepth 100000 in
set_option maxHeartbeats 6400000 in
theorem edges_any (l : List (Int × Int)) (v : Value) (w : World) (hv : SrcV w v l) (hl : l.length ≤ 1099511627776) : Calls Try.prog 76 #[v] w fun e w' => ∃ v', e = .returned v' ∧ SrcE w' v' (edgesP l) ∧ Nw w w' := by
  obtain ⟨A, c, rfl⟩ := hv.shape
  obtain ⟨n, hn⟩ : ∃ n, l.length = n := ⟨_, rfl⟩
  replace hv := src_n hv hn
  rw [hn] at hl ⊢
  have HV := Lib.hid hv
  have HN := Lib.hid hn
  have hmx := src_max hv
  clear hv hn
  by_cases h2 : n < 2
  · have f2 : ((n : Int) < 2) := by omega
    go_enter Try.func76, Try.ntmps76
    go_wp2_with fail
    go_ret
    refine ⟨_, rfl, ?_, Kp.refl _ _⟩
    rw [show edgesP l = [] by unfold edgesP; rw [if_pos (by rw [HN.out]; exact h2)]]
    exact Src.nil _ _
  · have f2 : ¬ ((n : Int) < 2) := by omega
    have hmk := make_edges n hl
    have H2 := Lib.hid h2
    go_enter Try.func76, Try.ntmps76
    go_wp2_with fail
    obtain ⟨wa, hwa⟩ : ∃ wa, w.alloc (.cells ((List.replicate n zE).flatMap eC).toArray 76) = wa := ⟨_, rfl⟩
    rw [hwa]
    have HA0 := Lib.hid (show Nw w wa by rw [← hwa]; exact nw_alloc _ _)
    have HR0 := Lib.hid (show RowE wa w.heap.size (List.replicate n zE) by rw [← hwa]; exact Blk.new _ _ _)
    obtain ⟨G, hG⟩ : ∃ G, w.heap.size = G := ⟨_, rfl⟩
    rw [hG] at HR0 ⊢
    have HG := Lib.hid hG
    clear hwa hmk h2 hG
    go_loopw [14] (fun i wr => ∃ (k : Nat) (M : List Ed), i = .int .i64 k ∧ k ≤ n ∧ M.length = n ∧ (∀ j, j < k → M[j]? = some (edgeP l j)) ∧ RowE wr G M ∧ Nw w wr) (fun i _ => n - (intOf i).toNat)
    case atStart => exact ⟨0, _, rfl, Nat.zero_le _, List.length_replicate, fun j h => absurd h (Nat.not_lt_zero _), HR0.out, HA0.out⟩
    case round =>
      obtain ⟨k, M, rfl, hk, hml, hall, hrow, hnw⟩ := hrel
      have HML := Lib.hid hml
      have HALL := Lib.hid hall
      have HROW := Lib.hid hrow
      clear hml hall hrow
      have HK := Lib.hid hnw
      clear hnw
      by_cases hkn : k < n
      · have i0 : (0 : Int) ≤ (k : Int) := by omega
        have i1 : (k : Int) < (n : Int) := by omega
        obtain ⟨s4, hs4⟩ : ∃ s : Nat, k + 1 = s := ⟨_, rfl⟩
        have a4 : IntKind.i64.wrap ((k : Int) + 1) = (s4 : Int) := by rw [IntKind.wrap_i64]; omega
        have H4 := Lib.hid hs4
        have hn0 : 0 < n := by omega
        obtain ⟨s5, hs5⟩ : ∃ s : Nat, (k + 1) % n = s := ⟨_, rfl⟩
        have l5 : s5 < n := by rw [← hs5]; exact Nat.mod_lt _ hn0
        have a5 : (s4 : Int).tmod (n : Int) = (s5 : Int) := by rw [tmod_nat, ← hs4, hs5]
        have z0 : ¬ (n = 0) := by omega
        have b4 : (0 : Int) ≤ (s5 : Int) := by omega
        have b5 : (s5 : Int) < (n : Int) := by omega
        obtain ⟨g, o, rfl, hg, hc⟩ := src_at HV.out (by omega)
        obtain ⟨⟨ax, ay⟩, ha⟩ : ∃ p, at_ l k = p := ⟨_, rfl⟩
        obtain ⟨⟨bx, bz⟩, hb⟩ : ∃ p, at_ l s5 = p := ⟨_, rfl⟩
        have hE : edgeP l k = ((ax, ay), (bx, bz)) := by unfold edgeP; rw [HN.out, hs5, ha, hb]
        have HE := Lib.hid hE
        obtain ⟨y0, y1⟩ := hc wr HK.out k hkn
        rw [ha] at y0 y1
        have hH := Lib.hid hc
        have HL5 := Lib.hid l5
        have HB := Lib.hid hb
        have HGG := Lib.hid hg
        clear hc hg hs5 hs4 l5 ha hb hE
        go_upto_region 7 with fail
        generalize hwb : World.alloc _ (.cells #[.int .i64 ax, .int .i64 ay] _) = wb
        have HKB := Lib.hid (show Nw w wb by rw [← hwb]; exact HK.out.alloc _)
        obtain ⟨c0, c1⟩ : wb.cell? ⟨wr.heap.size, 0, none⟩ = some (.int .i64 ax) ∧ wb.cell? ⟨wr.heap.size, 1, none⟩ = some (.int .i64 ay) := by
          rw [← hwb]
          exact ⟨(Blk.new _ _ _).cell 0, (Blk.new _ _ _).cell 1⟩
        have HRB := Lib.hid (show RowE wb G M by rw [← hwb]; exact HROW.out.alloc _)
        have hKL : k < M.length := by rw [HML.out]; exact hkn
        obtain ⟨e0, he0⟩ : ∃ e, M[k]? = some e := ⟨_, List.getElem?_eq_getElem hKL⟩
        obtain ⟨⟨x0, x1, x2, x3⟩, y4, y5, y6, y7⟩ := HRB.out.at_ he0
        obtain ⟨c2, c3⟩ := hH.out wb HKB.out s5 HL5.out
        rw [HB.out] at c2 c3
        have hne : wr.heap.size ≠ G := by have := HK.out.size; have := HROW.out.lt; omega
        clear hwb y0 y1 he0 hKL
        go_region
        all_goals (
          generalize hwc : World.drew _ = wc
          have HKC := Lib.hid (show Nw w wc by
            rw [← hwc]
            have hG := HG.out
            exact (by repeat (first | exact HKB.out | refine Kp.drew ?_ | refine Kp.new ?_ (Nat.le_of_eq hG) _ _)))
          have HRC := Lib.hid (show RowE wc G (M.set k ((ax, ay), (bx, bz))) by
            rw [← hwc]
            exact (HRB.out.set_ k ax ay bx bz).drew)
          clear hwc x0 x1 x2 x3 y4 y5 y6 y7 c0 c1 c2 c3
          go_wp2_with fail
          go_roundw
          case rel =>
            refine ⟨k + 1, _, by rw [← H4.out], by omega, by rw [List.length_set]; exact HML.out, fun j hj => ?_, HRC.out, HKC.out⟩
            rcases Nat.lt_or_ge j k with h | h
            · rw [List.getElem?_set_ne (by omega)]
              exact HALL.out j h
            · obtain rfl : j = k := by omega
              rw [List.getElem?_set_self (by rw [HML.out]; exact hkn), HE.out]
          case measure => (have := H4.out; simp [intOf]; try omega))
      · obtain rfl : k = n := by omega
        have i5 : ¬ ((k : Int) < (k : Int)) := by omega
        have hsrc := HROW.out.src HML.out (by have := hmx.1; have := hmx.2.2; omega)
        go_wp2_with fail
        go_ret
        refine ⟨_, rfl, ?_, HK.out⟩
        rw [edges_ext (l := l) (M := M) (by rw [HN.out]; exact H2.out) (by rw [HN.out]; exact HML.out) (by rw [HN.out]; exact HALL.out)] at hsrc
        exact hsrc

end Go.Proofs.Ytlogihcmmoldkaa.W

namespace Go.Proofs.Ytlogihcmmoldkaa.W
open Go.RowKit Go.Proofs.Ytlogihcmmoldkaa.V Go.Proofs.Ytlogihcmmoldkaa.G

theorem clear_ring (ty : TypeId) (b o n c : Nat) (w : World) (hn : 0 < n) (hc : ∀ j, j < n * 2 → (w.cell? ⟨b, o + j, none⟩).isSome = true) (hf : ∀ j, j < n * 2 → w.frozen? ⟨b, o + j, none⟩ = false) :
    (Builtin.clear_ #[34] ty #[.slice (some ⟨b, o, none⟩) n c]).run Try.prog w = .ok (.tuple #[]) (w.setCells b o (List.replicate (n * 2) (.int .i64 0))) := by
  have hv : ∀ w, (zeroValue 23).run Try.prog w = .ok (vV 0 0) w := fun w => by
    obtain ⟨i0, hi, hz, _⟩ := vec_info
    simp [zeroValue, typeInfo, hi, hz]
  have hzc : (Builtin.zeroCells (vV 0 0).cells n).toList = List.replicate (n * 2) (.int .i64 0) := by
    simp [Builtin.zeroCells, Value.cells]
    apply List.ext_getElem
    · simp
    · intro i h1 h2
      rcases Nat.mod_two_eq_zero_or_one i with e | e <;> simp [e]
  have hst := run_storeCells_cells (P := Try.prog) b o (List.replicate (n * 2) (.int .i64 0)) 0 w (by simpa using hc) (by simpa using hf) (by intro v hv'; rw [List.eq_of_mem_replicate hv']; rfl)
  simp only [Nat.add_zero] at hst
  obtain ⟨m, rfl⟩ : ∃ m, n = m + 1 := ⟨n - 1, by omega⟩
  simp [Builtin.clear_, run_underlying Try.underlying34, hv, hzc, hst]

section
variable {w : World} {ops : Array Oper} {rest : List Oper} {o : Oper} {a : Act} {Q : Exit → Act → World → Prop}
theorem wp_clear_ring (hgd : o.guard = none) (s : Operand) (ho : o.op = .call { callee := .builtin .clear, args := #[s], argTypes := #[34] })
    (b f n c : Nat) (hs : a.eval s = .slice (some ⟨b, f, none⟩) n c) (hn : 0 < n) (hc : ∀ j, j < n * 2 → (w.cell? ⟨b, f + j, none⟩).isSome = true) (hf : ∀ j, j < n * 2 → w.frozen? ⟨b, f + j, none⟩ = false)
    (h : wpList Try.prog ops Q rest (a.put o.dst (.tuple #[])) (w.setCells b f (List.replicate (n * 2) (.int .i64 0)))) :
    wpList Try.prog ops Q (o :: rest) a w := by
  have hr := clear_ring o.type b f n c w hn hc hf
  refine wpList_plain hgd fun K hK => ?_
  unfold Oper.wp execOp
  simp only [ho, resolve, invoke, builtin, Sem.run_bind, Sem.run_pure, Result.andThen_ok, List.map_toArray, List.map_cons, List.map_nil, hs, hr]
  exact hK _ _ h
end

theorem vclone_any (l : List (Int × Int)) (v : Value) (w : World) (hv : SrcV w v l) (hl : l.length ≤ 1099511627776) : Calls Try.prog 44 #[v] w fun e w' => ∃ v', e = .returned v' ∧ OwnL w w' v' l ∧ Nw w w' := by
  obtain ⟨A, c, rfl⟩ := hv.shape
  rcases Nat.eq_zero_or_pos l.length with h0 | h0
  · obtain rfl : l = [] := List.eq_nil_of_length_eq_zero h0
    refine (clone_none A c w).mono ?_
    rintro e w' ⟨A', c', rfl, hc, hk⟩
    exact ⟨_, rfl, .inr ⟨rfl, A', c', rfl, hc⟩, hk⟩
  · obtain ⟨_, A', c', e, _, _, hc⟩ := id hv
    injection e with e1 e2 e3
    subst e1
    obtain ⟨g, o, rfl, _⟩ := hc h0
    refine (clone_any l g o c w hv hl).mono ?_
    rintro e w' ⟨k, cap, h1, h2, h3, h4, rfl, hH, hk⟩
    exact ⟨_, rfl, .inl ⟨k, cap, rfl, h1, h4, h2, h3, RowV.of_holds hH⟩, hk⟩
theorem kp_put (w : World) (n g : Nat) (d : Array (Int × Int)) : Kp (fun b => b = g) w (Sort.putRowK vC 2 (Sort.ahead w n) g 0 d) := by
  refine ⟨rfl, rfl, rfl, ?_, fun i hi hne => ?_⟩
  · unfold Sort.putRowK
    rw [Sort.size_putRow]
    exact Nat.le_refl _
  · unfold Sort.putRowK
    show (w.heap.modify g _)[i]? = _
    rw [Array.getElem?_modify]
    simp [Ne.symm hne]
/-- slices.Reverse of a row of the call's own -/
theorem sReverse_any (l : List (Int × Int)) (v : Value) (w0 w : World) (hv : OwnL w0 w v l) (h0 : Nw w0 w) (hl : l.length ≤ 1099511627776) : Calls Try.prog 48 #[v] w fun e w' => e = .returned (.tuple #[]) ∧ OwnL w0 w' v l.reverse ∧ Nw w0 w' := by
  rcases hv with ⟨k, cap, rfl, h1, h2, h3, h4, h5⟩ | ⟨rfl, A, c, rfl, h⟩
  · have hH := h5.holds
    have hcon := AnyQ.slices_Reverse Try.revRing 2 Try.isAgg23 Try.sizeOf23 vC (fun _ => rfl) (fun x v hv => by simp [vC] at hv; rcases hv with rfl | rfl <;> rfl) k 0 cap l.toArray w hH (by simp; omega)
    refine Calls.mono hcon ?_
    rintro e w' ⟨rfl, n, rfl⟩
    have hk := kp_put w n k l.toArray.reverse
    have hn : Nw w0 (Sort.putRowK vC 2 (Sort.ahead w n) k 0 l.toArray.reverse) := Kp.own h0 hk fun i hi => by rw [hi]; exact h1
    refine ⟨rfl, .inl ⟨k, cap, by rw [List.length_reverse], h1, Nat.lt_of_lt_of_le h2 hk.size, by rw [List.length_reverse]; exact h3, h4, RowV.of_holds ?_⟩, hn⟩
    have := Sort.holdsK_putRowK (enc := vC) (k := 2) (Sort.ahead w n) k 0 l.toArray l.toArray.reverse hH (by simp)
    rw [List.reverse_toArray] at this ⊢
    exact this
  · refine Calls.mono (AnyQ.slices_Reverse_empty Try.revRing A c w) ?_
    rintro e w' ⟨rfl, rfl⟩
    exact ⟨rfl, .inr ⟨rfl, A, c, rfl, h⟩, h0⟩
end Go.Proofs.Ytlogihcmmoldkaa.W
