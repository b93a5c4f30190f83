/-
  ring: Clean: what it returns. Condition: the list is not longer than 2^40.
  ring: the document's example holds: awake returns true. No condition.
  ring: the reference's Where and Few; the law RingWhere: it returns true. No condition but that the list is not longer than 2^40.
  SymmetryRing: the call returns true. Condition: the table of the quarter turns.
  The last step of each statement: where the call returns true and writes nothing that was there, the row's own post holds. Condition: the arguments' types are readable.
  The arguments of a statement: a slice whose elements are read reads as a list. No condition.
  The arguments of the statements on vectors: a vector, a box, an array of vectors by value, a list of vectors, an int. No condition.
  An argument that is a vector by value, and that its coordinates are ints. No condition.
  An argument that is a ring: a list of vectors in memory. No condition.
  Arguments that are a box by value whose numbers an int holds, and an array of three bytes by value. No condition.
-/
import Derived.Test.YtahamffngmdjfaaDoorK25
import Derived.Test.YtahamffngmdjfaaDoorK29
import Derived.Test.YtahamffngmdjfaaDoorK08
import Derived.Test.YtahamffngmdjfaaDoorK30
import Derived.Test.YtahamffngmdjfaaDoorK07
import Derived.Test.YtahamffngmdjfaaDoorK26
import Derived.Test.YtahamffngmdjfaaDoorRows
import Derived.WalkKit
import Derived.ProofKit
import Derived.SizedLaws
import Derived.OpenShut
import Derived.Lib.SmallJoins
import Derived.Test.YtahamffngmdjfaaDoorK01
import Derived.Deep.Slices
import Derived.ChangeMaps5
namespace Go.Proofs.YtahamffngmdjfaaDoor.W
open Go.RowKit Go.Proofs.YtahamffngmdjfaaDoor.V Go.Proofs.YtahamffngmdjfaaDoor.G


def lenV : Value → Nat
  | .slice _ n _ => n
  | _ => 0
theorem clean_len : ∀ (f : Nat) (l : List Pt), (cleanTo f l).length ≤ l.length
  | 0, l => Nat.le_refl _
  | f + 1, l => by
    unfold cleanTo
    split
    · rename_i h
      have := clean_len f (l.eraseIdx (need l))
      rw [List.length_eraseIdx_of_lt h] at this
      omega
    · exact Nat.le_refl _
theorem own_shape {w0 w : World} {v : Value} {l : List (Int × Int)} (h : OwnL w0 w v l) : ∃ A c, v = .slice A l.length c := h.src.shape
theorem own_back {w0 w1 w2 : World} {v : Value} {l : List (Int × Int)} (h : OwnL w1 w2 v l) (k : Nw w0 w1) : OwnL w0 w2 v l := by
  rcases h with ⟨kk, cap, h1, h2, h3⟩ | h
  · exact .inl ⟨kk, cap, h1, Nat.le_trans k.size h2, h3⟩
  · exact .inr h

end Go.Proofs.YtahamffngmdjfaaDoor.W

namespace Go.Proofs.YtahamffngmdjfaaDoor.W
open Go.RowKit Go.Proofs.YtahamffngmdjfaaDoor.V Go.Proofs.YtahamffngmdjfaaDoor.G


def sqL (n : Int) : List Pt := [(0, 0), (n, 0), (n, n), (0, n)]
def awL : List Pt := [(4, 4), (4, 0), (2, 0), (0, 0), (0, 4)]
theorem aw8_clean : cleanR awL = (sqL 4, 0) := by decide +kernel
theorem aw8_area : area2R (sqL 4) = 32 := by decide +kernel
theorem aw8_in : whereR (sqL 4) 2 2 1 = 2 := by decide +kernel
theorem aw8_on : whereR (sqL 4) 4 1 1 = 1 := by decide +kernel
theorem aw8_out : whereR (sqL 4) 5 5 1 = 0 := by decide +kernel
theorem aw8_valid : validR (sqL 4) = true := by decide +kernel
theorem aw8_convex : convexR (sqL 4) = true := by decide +kernel

end Go.Proofs.YtahamffngmdjfaaDoor.W

namespace Go.Proofs.YtahamffngmdjfaaDoor.W
open Go.RowKit Go.Proofs.YtahamffngmdjfaaDoor.V Go.Proofs.YtahamffngmdjfaaDoor.G


set_option maxRecDepth 100000 in
set_option maxHeartbeats 3200000 in
theorem few_any (l : List (Int × Int)) (v : Value) (w : World) (hv : SrcV w v l) : Calls Tryd.prog 26 #[v] w fun e w' => e = .returned (.bool (decide (l.length ≤ 60))) ∧ Nw w w' := by
  obtain ⟨A, c, rfl⟩ := hv.shape
  obtain ⟨n, hn⟩ : ∃ n, l.length = n := ⟨_, rfl⟩
  rw [hn]
  clear hv hn
  by_cases h : n ≤ 60
  · have h1 : ((n : Int) ≤ 60) := by omega
    rw [decide_eq_true h]
    go_enter Tryd.func26, Tryd.ntmps26
    go_wp2_with fail
    go_ret
    exact ⟨by simp, Kp.refl _ _⟩
  · have h1 : ¬ ((n : Int) ≤ 60) := by omega
    rw [decide_eq_false h]
    go_enter Tryd.func26, Tryd.ntmps26
    go_wp2_with fail
    go_ret
    exact ⟨by simp, Kp.refl _ _⟩
theorem within_8 {x y : Int} (h : withinV x y 8000 = false) : validP x y 1 = false := by
  rw [← Bool.not_eq_true] at h ⊢
  intro hc
  apply h
  unfold validP at hc
  rw [Bool.and_eq_true] at hc
  obtain ⟨-, ⟨h3, h4, h5, h6⟩, -⟩ := in_mid (m := 4000) (by omega) hc.1
  unfold withinV
  rw [show w64 (-8000) = -8000 from w64_id ⟨by omega, by omega⟩]
  simp
  omega

set_option maxRecDepth 100000 in
set_option maxHeartbeats 3200000 in
theorem rwhere8_any (l : List (Int × Int)) (v : Value) (x y : Int) (w : World) (hv : SrcV w v l) (hl : l.length ≤ 1099511627776) : Calls Tryd.prog 39 #[v, vV x y] w fun e w' => e = .returned (.int .i64 (whereR l x y 1)) ∧ Nw w w' := by
  have c0 := fun w1 => rwithin_any x y 8000 w1
  have c1 := fun w1 => rpointOf_any x y w1
  have c2 := fun w1 (h : Nw w w1) => rwherePoint_any l v x y 1 w1 (hv.nw h) hl
  have hb := Blk.new w 23 #[.int .i64 x, .int .i64 y]
  have h0 := nw_alloc w (.cells #[.int .i64 x, .int .i64 y] 23)
  clear hv
  obtain ⟨b, hbb⟩ : ∃ b, withinV x y 8000 = b := ⟨_, rfl⟩
  rw [hbb] at c0
  cases b
  · rw [show whereR l x y 1 = 0 by unfold whereR; rw [within_8 hbb, Bool.and_false]; rfl]
    clear hbb
    go_enter Tryd.func39, Tryd.ntmps39
    go_wp2_with fail
    with_reducible refine (c0 _).mono ?_
    rintro e w1 ⟨rfl, k1⟩
    go_wp2_with fail
    go_ret
    exact ⟨rfl, h0.tr k1⟩
  · clear hbb
    go_enter Tryd.func39, Tryd.ntmps39
    go_wp2_with fail
    with_reducible refine (c0 _).mono ?_
    rintro e w1 ⟨rfl, k1⟩
    obtain ⟨y0, y1, -, -⟩ := (hb.kp k1 id).two
    have h1 := h0.tr k1
    clear hb h0 k1 c0
    go_wp2_with fail
    with_reducible refine (c1 _).mono ?_
    rintro e w2 ⟨rfl, k2⟩
    go_wp2_with fail
    with_reducible refine (c2 _ (h1.tr k2)).mono ?_
    rintro e w3 ⟨rfl, k3⟩
    go_wp2_with fail
    go_ret
    exact ⟨rfl, (h1.tr k2).tr k3⟩

theorem onS_onP {a b : Pt} (ha : Lm a.1 a.2) (hb : Lm b.1 b.2) {x y : Int} (hp : Lm x y) : onS a.1 a.2 b.1 b.2 x y = onP (a, b) x y 1 := by
  have hv : validS a.1 a.2 b.1 b.2 = true := by unfold validS; rw [Bool.and_eq_true, within_lm, within_lm]; exact ⟨ha, hb⟩
  rw [on_boxS hv]
  unfold onP
  rw [Int.mul_one, Int.mul_one, Int.mul_one, Int.mul_one]
  congr 1
  rw [turn_lm ha hb hp]
  apply Bool.eq_iff_iff.2
  rw [beq_iff_eq, beq_iff_eq, sgn_zero_iff]
  show (b.1 - a.1) * (y - a.2) - (b.2 - a.2) * (x - a.1) = 0 ↔ (b.1 - a.1) * (y - a.2 * 1) - (b.2 - a.2) * (x - a.1 * 1) = 0
  rw [Int.mul_one, Int.mul_one]
theorem where_one {l : List Pt} {x y : Int} (hv : validR l = true) (hp : Lm x y) : (whereR l x y 1 == 1) = anyOn (edgesP l) x y 1 := by
  unfold whereR
  rw [hv, valid_int hp, Bool.and_self, if_pos rfl]
  cases anyOn (edgesP l) x y 1
  · rw [if_neg (by simp)]
    split <;> rfl
  · rfl

end Go.Proofs.YtahamffngmdjfaaDoor.W

namespace Go.Proofs.YtahamffngmdjfaaDoor.W
open Go.RowKit Go.Proofs.YtahamffngmdjfaaDoor.V Go.Proofs.YtahamffngmdjfaaDoor.G


set_option maxRecDepth 100000 in
set_option maxHeartbeats 3200000 in
theorem symmetryRing_any (t : Int) (l : List (Int × Int)) (v : Value) (w : World) (hT : TabQ w) (hv : SrcV w v l) : Calls Tryd.prog 5 #[.int .i64 t, v] w fun e w' => e = .returned (.bool true) ∧ Nw w w' := by
  have c0 := awake9_any w hT
  have cf := fun w1 (h : Nw w w1) => few_any l v w1 (hv.nw h)
  by_cases h60 : l.length ≤ 60
  · rw [decide_eq_true h60] at cf
    have c1 := fun w1 (h : Nw w w1) => tring_any t l v w1 (hT.nw h) (hv.nw h) (by omega)
    have c2 := fun w1 (h : Nw w w1) => rtring_any t l v w1 (hv.nw h) (by omega)
    obtain ⟨a, ha⟩ : ∃ a, (ringT t l).1 = a := ⟨_, rfl⟩
    obtain ⟨q, hq⟩ : ∃ a, (ringT t l).2 = a := ⟨_, rfl⟩
    rw [ha, hq] at c1 c2
    clear ha hq hv hT h60
    go_enter Tryd.func5, Tryd.ntmps5
    go_wp2_with fail
    with_reducible refine c0.mono ?_
    rintro e w1 ⟨rfl, k1⟩
    go_wp2_with fail
    with_reducible refine (cf _ k1).mono ?_
    rintro e w2 ⟨rfl, k2⟩
    have n2 := k1.tr k2
    go_wp2_with fail
    with_reducible refine (c1 _ n2).mono ?_
    rintro e w3 ⟨v3, rfl, s3, k3⟩
    have n3 := n2.tr k3
    go_wp2_with fail
    with_reducible refine (c2 _ n3).mono ?_
    rintro e w4 ⟨v4, rfl, s4, k4⟩
    have n4 := n3.tr k4
    have cs := rringSame_any a a v3 v4 w4 (s3.nw k4) s4
    rw [decide_eq_true rfl] at cs
    have eqq : (q == q) = true := by simp
    clear c1 c2 cf c0
    go_wp2_with fail
    with_reducible refine cs.mono ?_
    rintro e w5 ⟨rfl, k5⟩
    go_wp2_with fail
    go_ret
    exact ⟨rfl, n4.tr k5⟩
  · rw [decide_eq_false h60] at cf
    clear hv hT h60
    go_enter Tryd.func5, Tryd.ntmps5
    go_wp2_with fail
    with_reducible refine c0.mono ?_
    rintro e w1 ⟨rfl, k1⟩
    go_wp2_with fail
    with_reducible refine (cf _ k1).mono ?_
    rintro e w2 ⟨rfl, k2⟩
    go_wp2_with fail
    go_ret
    exact ⟨rfl, k1.tr k2⟩

end Go.Proofs.YtahamffngmdjfaaDoor.W

namespace Go.Proofs.YtahamffngmdjfaaDoor.W
open Go.ChangeShapes Go.WideShapes Go.ChangeAt Go.RowKit

theorem own : ownKnob Tryd.prog.godebug = none := by kernel_rfl
theorem laidOut : laidOutB Tryd.prog = true := by kernel_rfl

theorem args_below {H : Type} {enc : TypeId × Value → H} {W W' : World} (hb : Below W.heap.size W W') : ∀ (ts : List TypeId) (vs : List Value) (ds : List (DataW H)) (ps : List MemPlace),
    (∀ t ∈ ts, Tryd.prog.readableRec t = true ∧ t < Tryd.prog.types.size) → (∀ x ∈ ps, x.block < W.heap.size) →
    DataW.TrodAll enc Tryd.prog W 0 (fun _ => true) true ts vs ds ps → DataW.TrodAll enc Tryd.prog W' 0 (fun b => decide (b < W.heap.size)) true ts vs ds ps := by
  intro ts
  induction ts with
  | nil =>
    intro vs ds ps _ _ h
    obtain ⟨rfl, rfl, rfl⟩ := trodAll_nil h
    exact trodAll_mk0
  | cons t ts ih =>
    intro vs ds ps ht hlt h
    obtain ⟨v, vs', d, ds', p, q, rfl, rfl, rfl, h0, hr⟩ := trodAll_cons h
    refine trodAll_cons_mk (Below.trod laidOut (ht t (by simp)).1 (ht t (by simp)).2 h0 hb (fun x hx => hlt x (by simp [hx]))) (ih vs' ds' q (fun t' h' => ht t' (by simp [h'])) (fun x hx => hlt x (by simp [hx])) hr)

theorem law_post {H : Type} {enc : TypeId × Value → H} {f : Func} {s : ChangeSpec} {W W' : World} {args : Array Value} {ds gs : List (DataW H)} {before : List MemPlace}
    (hW : DataW.Whole enc Tryd.prog f.params.toList s.vars false W args.toList ds gs before) (hb : Below W.heap.size W W') (hv : s.vars = []) (hr : f.resultTypes = #[4])
    (ht : ∀ t ∈ f.params.toList, Tryd.prog.readableRec t = true ∧ t < Tryd.prog.types.size)
    (hs : gs = [] → (s.fn H (ds ++ gs)).results = [.lit (.bool true)] ∧ (s.fn H (ds ++ gs)).args = ds ∧ (s.fn H (ds ++ gs)).vars = []) :
    s.post enc Tryd.prog f false true false false W args (.bool true) W' := by
  have hlt := hW.lt
  have hW0 := hW
  obtain ⟨p, q, hA, hV, rfl, _, _⟩ := hW
  rw [hv] at hV
  obtain ⟨rfl, rfl⟩ := trodVars_none hV
  obtain ⟨h1, h2, h3⟩ := hs rfl
  refine ⟨ds, [], p ++ [], [], p, [], hW0, ?_, ?_, ?_, World.keptBut_mono (fun x hx => ?_) (hb.frame (· ∈ p ++ [])), fun h => by cases h⟩
  · rw [h1, hr]
    exact trodAll_cons_mk (shut_bool Tryd.underlying4 true) trodAll_mk0
  · rw [h2]
    exact args_below hb _ _ _ _ ht (fun x hx => hlt x (by simp [hx])) hA
  · rw [h3, hv]
    rfl
  · exact ⟨hx, .inr (.inl (by simpa using hx))⟩
end Go.Proofs.YtahamffngmdjfaaDoor.W

namespace Go.Proofs.YtahamffngmdjfaaDoor.W
open Go.ChangeShapes Go.WideShapes Go.ChangeAt Go.RowKit Go.Deep

theorem u64_of {x : Int} (h : (Lit.int .u64 x).wf = true) : 0 ≤ x ∧ x < 18446744073709551616 := by
  simp only [Lit.wf, Bool.and_eq_true, decide_eq_true_eq] at h
  have e1 : IntKind.u64.min = 0 := rfl
  have e2 : IntKind.u64.max = 18446744073709551615 := rfl
  exact ⟨by omega, by omega⟩
theorem u16_of {x : Int} (h : (Lit.int .u16 x).wf = true) : 0 ≤ x ∧ x < 65536 := by
  simp only [Lit.wf, Bool.and_eq_true, decide_eq_true_eq] at h
  have e1 : IntKind.u16.min = 0 := rfl
  have e2 : IntKind.u16.max = 65535 := rfl
  exact ⟨by omega, by omega⟩
theorem u8_of {x : Int} (h : (Lit.int .u8 x).wf = true) : 0 ≤ x ∧ x < 256 := by
  simp only [Lit.wf, Bool.and_eq_true, decide_eq_true_eq] at h
  have e1 : IntKind.u8.min = 0 := rfl
  have e2 : IntKind.u8.max = 255 := rfl
  exact ⟨by omega, by omega⟩
theorem i64_of {x : Int} (h : (Lit.int .i64 x).wf = true) : -9223372036854775808 ≤ x ∧ x ≤ 9223372036854775807 := by
  simp only [Lit.wf, Bool.and_eq_true, decide_eq_true_eq] at h
  have e1 : IntKind.i64.min = -9223372036854775808 := rfl
  have e2 : IntKind.i64.max = 9223372036854775807 := rfl
  exact ⟨by omega, by omega⟩

section
variable {H : Type} {enc : TypeId × Value → H} {W : World} {base : Nat} {v : Value} {d : DataW H} {p : List MemPlace}

set_option maxRecDepth 100000 in
theorem openRows {α : Type} [Inhabited α] {T E size : Nat} {f : α → List Value} {P : α → Prop} (hu : Tryd.prog.underlying T = some (.slice E)) (hC : Tryd.prog.cellsOf E = size) (hs0 : 0 < size) (hf : ∀ x, (f x).length = size)
    (hopen : ∀ n cs y, DataW.trod enc Tryd.prog W 0 (fun _ => true) true n E cs = some y → ∃ x, cs = f x ∧ P x)
    (hv : Value.okWide Tryd.prog W .any base T v) (h : DataW.Trod enc Tryd.prog W 0 (fun _ => true) true T v d p) :
    ∃ l : List α, Src W size v l.length (flat f l) ∧ (∀ x ∈ l, P x) ∧ (l = [] ∨ ∃ es sp, d = .slice es sp ∧ es.length = l.length) := by
  obtain ⟨a0, len0, cap0, rfl⟩ := okWide_slice hu hv
  obtain ⟨fuel, hf0⟩ := h
  rcases open_slice hu hf0 with ⟨hcs, hx⟩ | ⟨a, len, cap, m, n, D, Pl, hcs, hb, hl, hm, hmm, hx, hi⟩
  · simp [Value.cells] at hcs
    obtain ⟨rfl, rfl, rfl⟩ := hcs
    exact ⟨[], Src.nil W size, fun x hx => absurd hx List.not_mem_nil, .inl rfl⟩
  · simp [Value.cells] at hcs
    obtain ⟨rfl, rfl, rfl⟩ := hcs
    simp only [Prod.mk.injEq] at hx
    obtain ⟨rfl, rfl⟩ := hx
    simp only [if_true] at hmm
    have hel : ∀ i, i < len0 → ∃ x, P x ∧ ∀ j u, (f x)[j]? = some u → W.cell? (a.add (i * size + j)) = some u := fun i hlt => by
      obtain ⟨cs', hc, ht⟩ := hi i (by omega)
      obtain ⟨x, rfl, hp⟩ := hopen _ _ _ ht
      rw [hC] at hc
      obtain ⟨_, hcl, hat⟩ := World.cells?_some hc
      refine ⟨x, hp, fun j u hj => ?_⟩
      have hjl : j < size := by
        have := (List.getElem?_eq_some_iff.1 hj).1
        rw [hf] at this
        exact this
      rw [← Go.Deep.add_add, hat j hjl]
      exact hj
    let g : Nat → α := fun i => if h : i < len0 then Classical.choose (hel i h) else default
    have hg : ∀ i, i < len0 → P (g i) ∧ ∀ j u, (f (g i))[j]? = some u → W.cell? (a.add (i * size + j)) = some u := fun i hlt => by
      have : g i = Classical.choose (hel i hlt) := dif_pos hlt
      rw [this]
      exact Classical.choose_spec (hel i hlt)
    have hlen : ((List.range len0).map g).length = len0 := by simp
    refine ⟨(List.range len0).map g, ⟨?_, some a, cap0, by rw [hlen], by rw [hlen]; exact hl, hm, fun hn => ?_⟩, fun x hx => ?_, .inr ⟨_, _, rfl, by simp⟩⟩
    · rw [flat_length hf]
    · rw [hlen] at hn
      have hat : ∀ i j u, i < len0 → (f (g i))[j]? = some u → W.cell? (a.add (i * size + j)) = some u := fun i j u hlt hj => (hg i hlt).2 j u hj
      have hne : ∃ u, (f (g 0))[0]? = some u := ⟨_, List.getElem?_eq_getElem (by rw [hf]; exact hs0)⟩
      obtain ⟨u0, hu0⟩ := hne
      have h0 := hat 0 0 u0 hn hu0
      obtain ⟨gb, o, sp⟩ := a
      have hsp : sp = none := by simpa [Addr.add] using World.cell?_spot h0
      subst hsp
      have hbl : gb < W.heap.size := by
        have := World.block_lt_of_cell? W _ h0
        rwa [block_add] at this
      refine ⟨gb, o, rfl, hbl, fun j u hj => ?_⟩
      have hjl := (List.getElem?_eq_some_iff.1 hj).1
      rw [flat_length hf, hlen] at hjl
      have hq : j / size < len0 := Nat.div_lt_of_lt_mul (by rw [Nat.mul_comm]; exact hjl)
      have hjm := Nat.div_add_mod j size
      have hr : j % size < size := Nat.mod_lt _ hs0
      have hx : ((List.range len0).map g)[j / size]? = some (g (j / size)) := by rw [List.getElem?_map, List.getElem?_range hq]; rfl
      have ej : j = j / size * size + j % size := by rw [Nat.mul_comm]; exact hjm.symm
      rw [ej, flat_at hf (j % size) hx hr] at hj
      have := hat _ _ _ hq hj
      rw [← ej] at this
      rw [addr_lit _ j rfl] at this
      exact this
    · obtain ⟨i, hi', rfl⟩ := List.mem_map.1 hx
      exact (hg i (List.mem_range.1 hi')).1
end

theorem sizedLen {H : Type} {ts : List TypeId} {ds : List (DataW H)} {j : Nat} {t e : TypeId} {d : DataW H} {n b : Nat} (h : (DataW.weightsEach Tryd.prog ts ds).all (· ≤ reachBytes) = true) (ht : ts[j]? = some t) (hd : ds[j]? = some d) (hu : Tryd.prog.underlying t = some (.slice e))
    (hb : Tryd.prog.bytesOf e = b) (hb1 : 1 ≤ b) (hs : n = 0 ∨ ∃ es sp, d = .slice es sp ∧ es.length = n) : n ≤ 140737488355328 := by
  rcases hs with h0 | ⟨es, sp, rfl, rfl⟩
  · omega
  · have := sized_slice h ht hd hu
    rw [hb] at this
    simp only [reachBytes] at this
    have h2 : es.length ≤ (es.length + sp.length) * b := Nat.le_trans (Nat.le_add_right _ _) (Nat.le_mul_of_pos_right _ hb1)
    omega
end Go.Proofs.YtahamffngmdjfaaDoor.W

namespace Go.Proofs.YtahamffngmdjfaaDoor.W
open Go.ChangeShapes Go.WideShapes Go.ChangeAt Go.RowKit Go.Joins Go.Deep Go.Proofs.YtahamffngmdjfaaDoor.V

set_option maxRecDepth 100000
section
variable {H : Type} {enc : TypeId × Value → H} {W : World} {base : Nat} {v : Value} {d : DataW H} {p : List MemPlace}
theorem cellsOfInt : Tryd.prog.cellsOf 3 = 1 := by kernel_rfl
theorem cellsOfVec : Tryd.prog.cellsOf 23 = 2 := by kernel_rfl
theorem cellsOfBox : Tryd.prog.cellsOf 25 = 4 := by kernel_rfl

theorem trod_vec {n : Nat} {cs : List Value} {y : DataW H × List MemPlace} (h : DataW.trod enc Tryd.prog W 0 (fun _ => true) true n 23 cs = some y) : ∃ x : Int × Int, cs = vC x := by
  obtain ⟨y0, y1, m, _, hl, h0, h1⟩ := trod_struct2 Tryd.underlying23 h
  rw [cellsOfVec] at hl
  match cs, hl with
  | [a, b], _ =>
    have h0 : DataW.trod enc Tryd.prog W 0 (fun _ => true) true m 3 [a] = some y0 := h0
    have h1 : DataW.trod enc Tryd.prog W 0 (fun _ => true) true m 3 [b] = some y1 := h1
    obtain ⟨x0, e0, _, _⟩ := DataW.trod_int Tryd.underlying3 h0
    obtain ⟨x1, e1, _, _⟩ := DataW.trod_int Tryd.underlying3 h1
    simp at e0 e1
    subst e0 e1
    exact ⟨(x0, x1), rfl⟩
theorem okWide_struct {P : Program} {r : Reach} {fs : Array Field} {t : TypeId} {v : Value} (ht : P.underlying t = some (.struct fs)) (h : Value.okWide P W r base t v) : ∃ cs, v = .agg cs ∧ cs.size = P.cellsOf t := by
  simp only [Value.okWide, ht] at h
  obtain ⟨cs, h1, h2, _⟩ := h
  exact ⟨cs, h1, h2⟩
theorem okWide_arr {P : Program} {r : Reach} {n : Nat} {e t : TypeId} {v : Value} (ht : P.underlying t = some (.array n e)) (h : Value.okWide P W r base t v) : ∃ cs, v = .agg cs ∧ cs.size = P.cellsOf t := by
  simp only [Value.okWide, ht] at h
  obtain ⟨cs, h1, h2, _⟩ := h
  exact ⟨cs, h1, h2⟩
theorem open_vec (hv : Value.okWide Tryd.prog W .any base 23 v) (h : DataW.Trod enc Tryd.prog W 0 (fun _ => true) true 23 v d p) :
    ∃ n d : Int, v = vV n d := by
  obtain ⟨cs, rfl, hs⟩ := okWide_struct Tryd.underlying23 hv
  obtain ⟨fuel, hf⟩ := h
  obtain ⟨x, hx⟩ := trod_vec hf
  obtain ⟨l⟩ := cs
  exact ⟨x.1, x.2, by simp [Value.cells] at hx; rw [hx]⟩
theorem open_box (hv : Value.okWide Tryd.prog W .any base 25 v) (h : DataW.Trod enc Tryd.prog W 0 (fun _ => true) true 25 v d p) :
    ∃ a b c d : Int, v = bV a b c d := by
  obtain ⟨cs, rfl, hs⟩ := okWide_struct Tryd.underlying25 hv
  obtain ⟨fuel, hf⟩ := h
  obtain ⟨y0, y1, m, _, hl, h0, h1⟩ := trod_struct2 Tryd.underlying25 hf
  obtain ⟨l⟩ := cs
  rw [cellsOfBox] at hl
  match l, hl with
  | [a, b, c, e], _ =>
    have h0 : DataW.trod enc Tryd.prog W 0 (fun _ => true) true m 23 [a, b] = some y0 := h0
    have h1 : DataW.trod enc Tryd.prog W 0 (fun _ => true) true m 23 [c, e] = some y1 := h1
    obtain ⟨x0, e0⟩ := trod_vec h0
    obtain ⟨x1, e1⟩ := trod_vec h1
    simp at e0 e1
    obtain ⟨rfl, rfl⟩ := e0
    obtain ⟨rfl, rfl⟩ := e1
    exact ⟨_, _, _, _, rfl⟩
theorem open_arr4 (hv : Value.okWide Tryd.prog W .any base 93 v) (h : DataW.Trod enc Tryd.prog W 0 (fun _ => true) true 93 v d p) :
    ∃ a b c d e f g h : Int, v = .agg #[.int .i64 a, .int .i64 b, .int .i64 c, .int .i64 d, .int .i64 e, .int .i64 f, .int .i64 g, .int .i64 h] := by
  obtain ⟨cs, rfl, hs⟩ := okWide_arr Tryd.underlying93 hv
  obtain ⟨fuel, hf⟩ := h
  obtain ⟨xs, m, _, _, _, hl, hi⟩ := DataW.trod_array Tryd.underlying93 hf
  obtain ⟨l⟩ := cs
  have hs : l.length = 8 := hs.trans (show Tryd.prog.cellsOf 93 = 8 by kernel_rfl)
  match l, hs with
  | [a0, a1, a2, a3, a4, a5, a6, a7], _ =>
    have hg : ∀ i, i < 4 → ∃ y, DataW.trod enc Tryd.prog W 0 (fun _ => true) true m 23 (([a0, a1, a2, a3, a4, a5, a6, a7].drop (i * 2)).take 2) = some y := fun i hi' => by
      have h := hi i hi'
      rw [cellsOfVec, List.getElem?_eq_getElem (by omega)] at h
      exact ⟨_, h⟩
    obtain ⟨_, g0⟩ := hg 0 (by omega)
    obtain ⟨_, g1⟩ := hg 1 (by omega)
    obtain ⟨_, g2⟩ := hg 2 (by omega)
    obtain ⟨_, g3⟩ := hg 3 (by omega)
    obtain ⟨x0, e0⟩ := trod_vec g0
    obtain ⟨x1, e1⟩ := trod_vec g1
    obtain ⟨x2, e2⟩ := trod_vec g2
    obtain ⟨x3, e3⟩ := trod_vec g3
    simp at e0 e1 e2 e3
    obtain ⟨rfl, rfl⟩ := e0
    obtain ⟨rfl, rfl⟩ := e1
    obtain ⟨rfl, rfl⟩ := e2
    obtain ⟨rfl, rfl⟩ := e3
    exact ⟨_, _, _, _, _, _, _, _, rfl⟩
theorem open_vecs (hv : Value.okWide Tryd.prog W .any base 34 v) (h : DataW.Trod enc Tryd.prog W 0 (fun _ => true) true 34 v d p) :
    ∃ l : List (Int × Int), SrcV W v l ∧ (l = [] ∨ ∃ es sp, d = .slice es sp ∧ es.length = l.length) := by
  obtain ⟨l, h1, _, h2⟩ := openRows (P := fun _ => True) Tryd.underlying34 cellsOfVec (by omega) (f := vC) (fun _ => rfl) (fun n cs y h => by
    obtain ⟨x, hx⟩ := trod_vec h
    exact ⟨x, hx, trivial⟩) hv h
  exact ⟨l, h1, h2⟩
end
end Go.Proofs.YtahamffngmdjfaaDoor.W

namespace Go.Proofs.YtahamffngmdjfaaDoor.W
open Go.ChangeShapes Go.WideShapes Go.ChangeAt Go.RowKit Go.Joins Go.Deep Go.Proofs.YtahamffngmdjfaaDoor.V

set_option maxRecDepth 100000
section
variable {H : Type} {enc : TypeId × Value → H} {W : World} {base : Nat} {v : Value} {d : DataW H} {p : List MemPlace}
theorem trod_vec64 {n : Nat} {cs : List Value} {y : DataW H × List MemPlace} (h : DataW.trod enc Tryd.prog W 0 (fun _ => true) true n 23 cs = some y) : ∃ x : Int × Int, cs = vC x ∧ I64 x.1 ∧ I64 x.2 := by
  obtain ⟨y0, y1, m, _, hl, h0, h1⟩ := trod_struct2 Tryd.underlying23 h
  rw [cellsOfVec] at hl
  match cs, hl with
  | [a, b], _ =>
    have h0 : DataW.trod enc Tryd.prog W 0 (fun _ => true) true m 3 [a] = some y0 := h0
    have h1 : DataW.trod enc Tryd.prog W 0 (fun _ => true) true m 3 [b] = some y1 := h1
    obtain ⟨x0, e0, _, w0⟩ := DataW.trod_int Tryd.underlying3 h0
    obtain ⟨x1, e1, _, w1⟩ := DataW.trod_int Tryd.underlying3 h1
    simp at e0 e1
    subst e0 e1
    exact ⟨(x0, x1), rfl, i64_of w0, i64_of w1⟩
theorem open_vec64 (hv : Value.okWide Tryd.prog W .any base 23 v) (h : DataW.Trod enc Tryd.prog W 0 (fun _ => true) true 23 v d p) :
    ∃ n d : Int, v = vV n d ∧ I64 n ∧ I64 d := by
  obtain ⟨cs, rfl, hs⟩ := okWide_struct Tryd.underlying23 hv
  obtain ⟨fuel, hf⟩ := h
  obtain ⟨x, hx, h1, h2⟩ := trod_vec64 hf
  obtain ⟨l⟩ := cs
  exact ⟨x.1, x.2, by simp [Value.cells] at hx; rw [hx], h1, h2⟩
theorem open_vecs64 (hv : Value.okWide Tryd.prog W .any base 34 v) (h : DataW.Trod enc Tryd.prog W 0 (fun _ => true) true 34 v d p) :
    ∃ l : List (Int × Int), SrcV W v l ∧ (∀ x ∈ l, I64 x.1 ∧ I64 x.2) ∧ (l = [] ∨ ∃ es sp, d = .slice es sp ∧ es.length = l.length) :=
  openRows (P := fun x => I64 x.1 ∧ I64 x.2) Tryd.underlying34 cellsOfVec (by omega) (f := vC) (fun _ => rfl) (fun n cs y h => trod_vec64 h) hv h
theorem bytesOfVec : Tryd.prog.bytesOf 23 = 16 := by kernel_rfl
end
end Go.Proofs.YtahamffngmdjfaaDoor.W

namespace Go.Proofs.YtahamffngmdjfaaDoor.W
open Go.ChangeShapes Go.WideShapes Go.ChangeAt Go.RowKit Go.Joins Go.Deep Go.Proofs.YtahamffngmdjfaaDoor.V

set_option maxRecDepth 100000
section
variable {H : Type} {enc : TypeId × Value → H} {W : World} {base : Nat} {v : Value} {d : DataW H} {p : List MemPlace}
theorem open_ring64 (hv : Value.okWide Tryd.prog W .any base 35 v) (h : DataW.Trod enc Tryd.prog W 0 (fun _ => true) true 35 v d p) :
    ∃ l : List (Int × Int), SrcV W v l ∧ (∀ x ∈ l, I64 x.1 ∧ I64 x.2) ∧ (l = [] ∨ ∃ es sp, d = .slice es sp ∧ es.length = l.length) :=
  openRows (P := fun x => I64 x.1 ∧ I64 x.2) Tryd.underlying35 cellsOfVec (by omega) (f := vC) (fun _ => rfl) (fun n cs y h => trod_vec64 h) hv h
end
end Go.Proofs.YtahamffngmdjfaaDoor.W

namespace Go.Proofs.YtahamffngmdjfaaDoor.W
open Go.ChangeShapes Go.WideShapes Go.ChangeAt Go.RowKit Go.Joins Go.Deep Go.Proofs.YtahamffngmdjfaaDoor.V

set_option maxRecDepth 100000
section
variable {H : Type} {enc : TypeId × Value → H} {W : World} {base : Nat} {v : Value} {d : DataW H} {p : List MemPlace}
theorem open_box64 (hv : Value.okWide Tryd.prog W .any base 25 v) (h : DataW.Trod enc Tryd.prog W 0 (fun _ => true) true 25 v d p) :
    ∃ a b c d : Int, v = bV a b c d ∧ (I64 a ∧ I64 b) ∧ I64 c ∧ I64 d := by
  obtain ⟨cs, rfl, hs⟩ := okWide_struct Tryd.underlying25 hv
  obtain ⟨fuel, hf⟩ := h
  obtain ⟨y0, y1, m, _, hl, h0, h1⟩ := trod_struct2 Tryd.underlying25 hf
  obtain ⟨l⟩ := cs
  rw [cellsOfBox] at hl
  match l, hl with
  | [a, b, c, e], _ =>
    have h0 : DataW.trod enc Tryd.prog W 0 (fun _ => true) true m 23 [a, b] = some y0 := h0
    have h1 : DataW.trod enc Tryd.prog W 0 (fun _ => true) true m 23 [c, e] = some y1 := h1
    obtain ⟨x0, e0, i0⟩ := trod_vec64 h0
    obtain ⟨x1, e1, i1⟩ := trod_vec64 h1
    simp at e0 e1
    obtain ⟨rfl, rfl⟩ := e0
    obtain ⟨rfl, rfl⟩ := e1
    exact ⟨_, _, _, _, rfl, i0, i1⟩
theorem cellsOfU8 : Tryd.prog.cellsOf 5 = 1 := by kernel_rfl
theorem open_arr8 (hv : Value.okWide Tryd.prog W .any base 42 v) (h : DataW.Trod enc Tryd.prog W 0 (fun _ => true) true 42 v d p) :
    ∃ a b c : Int, v = .agg #[.int .u8 a, .int .u8 b, .int .u8 c] ∧ (0 ≤ a ∧ a < 256) ∧ (0 ≤ b ∧ b < 256) ∧ 0 ≤ c ∧ c < 256 := by
  obtain ⟨cs, rfl, hs⟩ := okWide_arr Tryd.underlying42 hv
  obtain ⟨fuel, hf⟩ := h
  obtain ⟨xs, m, _, _, _, hl, hi⟩ := DataW.trod_array Tryd.underlying42 hf
  obtain ⟨l⟩ := cs
  have hs : l.length = 3 := hs.trans (show Tryd.prog.cellsOf 42 = 3 by kernel_rfl)
  match l, hs with
  | [a0, a1, a2], _ =>
    have hg : ∀ i, i < 3 → ∃ y, DataW.trod enc Tryd.prog W 0 (fun _ => true) true m 5 (([a0, a1, a2].drop (i * 1)).take 1) = some y := fun i hi' => by
      have h := hi i hi'
      rw [cellsOfU8, List.getElem?_eq_getElem (by omega)] at h
      exact ⟨_, h⟩
    obtain ⟨_, g0⟩ := hg 0 (by omega)
    obtain ⟨_, g1⟩ := hg 1 (by omega)
    obtain ⟨_, g2⟩ := hg 2 (by omega)
    obtain ⟨x0, e0, _, w0⟩ := DataW.trod_int Tryd.underlying5 g0
    obtain ⟨x1, e1, _, w1⟩ := DataW.trod_int Tryd.underlying5 g1
    obtain ⟨x2, e2, _, w2⟩ := DataW.trod_int Tryd.underlying5 g2
    simp at e0 e1 e2
    subst e0 e1 e2
    exact ⟨x0, x1, x2, rfl, u8_of w0, u8_of w1, u8_of w2⟩
end
end Go.Proofs.YtahamffngmdjfaaDoor.W
