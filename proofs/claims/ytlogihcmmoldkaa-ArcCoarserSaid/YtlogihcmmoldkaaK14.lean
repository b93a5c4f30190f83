/-
  ring: slices.Delete of one element of a row of the call's own; Reverse. Condition: the list is not longer than 2^40.
  ring: slices.Grow of nothing, slices.Concat of two lists. Condition: the lists are not longer than 2^20.
  ring: the reference's Edges and Reverse: what they return. Condition: the list is not longer than 2^40.
-/
import Derived.Test.YtlogihcmmoldkaaK13
import Derived.Deep.RegionLaw
namespace Go.Proofs.Ytlogihcmmoldkaa.W
open Go.RowKit Go.Proofs.Ytlogihcmmoldkaa.V Go.Proofs.Ytlogihcmmoldkaa.G


set_option maxRecDepth 100000 in
set_option maxHeartbeats 6400000 in
theorem sDelete_any (l : List (Int × Int)) (v : Value) (w0 w : World) (hv : OwnL w0 w v l) (h0 : Nw w0 w) (hl : l.length ≤ 1099511627776) (i J : Nat) (hi : i < l.length) (hJ : i + 1 = J) : Calls Try.prog 46 #[v, .int .i64 i, .int .i64 J] w fun e w' => ∃ v', e = .returned v' ∧ OwnL w0 w' v' (l.eraseIdx i) ∧ Nw w0 w' := by
  have hmix := mixed7
  rcases hv with ⟨k, cap, rfl, h1, h2, h3, h4, h5⟩ | ⟨rfl, _⟩
  case inr => exact absurd hi (Nat.not_lt_zero _)
  obtain ⟨i0, hin, hz, hs, hb⟩ := vec_info
  obtain ⟨n, hn⟩ : ∃ n, l.length = n := ⟨_, rfl⟩
  obtain ⟨news, hnews⟩ : ∃ news, (l.drop J).flatMap vC = news := ⟨_, rfl⟩
  have hcells : ∀ t u, news[t]? = some u → w.cell? ⟨k, J * 2 + t, none⟩ = some u := fun t u hu => by
    rw [← hnews] at hu
    have ht : t < (l.drop J).length * 2 := by
      have := (List.getElem?_eq_some_iff.1 hu).1
      rwa [flatV_len] at this
    have hq : t / 2 < (l.drop J).length := by omega
    have hx : (l.drop J)[t / 2]? = some ((l.drop J)[t / 2]'hq) := List.getElem?_eq_getElem hq
    obtain ⟨f1, f2⟩ := flatV_at _ (t / 2) _ hx
    have hl' : l[J + t / 2]? = some ((l.drop J)[t / 2]'hq) := by rw [← hx, List.getElem?_drop]
    obtain ⟨⟨a, b⟩, _⟩ := h5 _ _ hl'
    rcases Nat.mod_two_eq_zero_or_one t with e | e
    · rw [show t / 2 * 2 = t by omega, hu] at f1
      rw [show J * 2 + t = (J + t / 2) * 2 by omega, a, f1]
    · rw [show t / 2 * 2 + 1 = t by omega, hu] at f2
      rw [show J * 2 + t = (J + t / 2) * 2 + 1 by omega, b, f2]
  have hlen : news.length = (n - J) * 2 := by rw [← hnews, flatV_len, List.length_drop, hn]
  rw [hn] at hi h3 ⊢
  obtain ⟨A, hA, hsrc⟩ : ∃ A : Addr, (if cap = J then some (⟨k, 0, none⟩ : Addr) else some ⟨k, J * 2, none⟩) = some A ∧ (∀ t u, news[t]? = some u → w.drew.cell? (A.add t) = some u) := by
    by_cases h : cap = J
    · refine ⟨⟨k, 0, none⟩, by simp [h], fun t u hu => ?_⟩
      have : news = [] := List.eq_nil_of_length_eq_zero (by rw [hlen]; omega)
      rw [this] at hu
      simp at hu
    · refine ⟨⟨k, J * 2, none⟩, by simp [h], fun t u hu => ?_⟩
      have hadd : (⟨k, J * 2, none⟩ : Addr).add t = ⟨k, J * 2 + t, none⟩ := by
        unfold Addr.add
        split <;> simp_all
      rw [hadd]
      exact hcells t u hu
  replace hsrc := Lib.hid hsrc
  have s1 := Lib.hid hlen
  have s2 := Lib.hid (show ∀ u ∈ news, u.oneCell' = true by rw [← hnews]; exact flatV_one _)
  have s3 := Lib.hid (show ∀ t, t < news.length → (w.drew.cell? ⟨k, 0 + i * 2 + t, none⟩).isSome = true ∧ w.drew.frozen? ⟨k, 0 + i * 2 + t, none⟩ = false by
    intro t ht
    rw [hlen] at ht
    rw [Nat.zero_add]
    exact h5.some_ (i := i * 2 + t) (by rw [hn]; omega))
  obtain ⟨W1, hW1⟩ : ∃ W1, W1 = w.drew.setCells k (0 + i * 2) news := ⟨_, rfl⟩
  obtain ⟨z, hzl⟩ : ∃ z, l[n - 1]? = some z := ⟨_, List.getElem?_eq_getElem (by omega)⟩
  have hE : l.eraseIdx i = l.take i ++ l.drop J := by rw [List.eraseIdx_eq_take_drop_succ, hJ]
  have hR1 : RowV W1 k (l.eraseIdx i ++ [z]) := by
    rw [hW1, ← hnews, Nat.zero_add]
    have h := RowV.sets (l.drop J) w.drew l i h5.drew (by rw [List.length_drop, hn]; omega)
    have e : l.drop (i + (l.drop J).length) = [z] := by
      rw [List.length_drop, hn, show i + (n - J) = n - 1 by omega, List.drop_eq_getElem_cons (by omega)]
      obtain ⟨hh, he⟩ := List.getElem?_eq_some_iff.1 hzl
      rw [he, show n - 1 + 1 = l.length by omega, List.drop_length]
    rw [e, ← hE] at h
    exact h
  have hK1 : Kp (fun b => b = k) w W1 := by rw [hW1]; exact (Kp.refl _ w).drew.tr (kp_sets _ _ _ _)
  have HR1 := Lib.hid hR1
  have HK1 := Lib.hid hK1
  have HL := Lib.hid (show (l.eraseIdx i).length = n - 1 by rw [List.length_eraseIdx_of_lt (by rw [hn]; exact hi), hn])
  have hW := Lib.hid hW1
  have HIN := Lib.hid (And.intro hin hs)
  have H12 := Lib.hid (And.intro h1 (And.intro h2 h4))
  have H0 := Lib.hid h0
  have hic : i ≤ cap := by omega
  have hjc : J ≤ cap := by omega
  have hij : i ≤ J := by omega
  have hjn : J ≤ n := by omega
  have hne : ¬ i = J := by omega
  have hb3 : n - J ≤ cap := by omega
  have hn1 : n - (i + (n - J)) = 1 := by omega
  have hcl : ∀ ty, (Builtin.clear_ #[34] ty #[.slice (some ⟨k, (i + (n - J)) * 2, none⟩) (n - (i + (n - J))) (cap - (i + (n - J)))]).run Try.prog W1 = .ok (.tuple #[]) (W1.setCells k ((i + (n - J)) * 2) (List.replicate ((n - (i + (n - J))) * 2) (.int .i64 0))) := fun ty => by
    have hL2 : (l.eraseIdx i ++ [z]).length = n := by rw [List.length_append, List.length_eraseIdx_of_lt (by rw [hn]; exact hi), hn]; simp; omega
    exact clear_ring ty k _ _ _ W1 (by omega) (fun j hj => (hR1.some_ (i := (i + (n - J)) * 2 + j) (by rw [hL2]; omega)).1) (fun j hj => (hR1.some_ (i := (i + (n - J)) * 2 + j) (by rw [hL2]; omega)).2)
  clear hn1
  clear hcells hlen hnews h5 hW1 hR1 hK1 hzl hE h1 h2 h0 hin hz hs hb hl hn
  go_enter Try.func46, Try.ntmps46
  go_wp2_with fail
  go_region_law (refine step_append_room rfl (.tmp 22) (.tmp 25) 34 rfl 23 i0 2 Try.underlying34 HIN.out.1 HIN.out.2 k 0 i cap (by simp [Act.eval, Act.put]) A (n - J) (cap - J) news (by simp [Act.eval, Act.put]) s1.out hsrc.out s2.out (by omega) s3.out ?_; rw [← hW.out])
  go_wp2_with fail
  go_ret
  have e1 : i + (n - J) = n - 1 := by omega
  have e2 : n - (i + (n - J)) = 1 := by omega
  have e3 : i + 1 ≤ n := hi
  have hR := HR1.out
  have hLL := HL.out
  have hset := RowV.sets [(0, 0)] _ _ (n - 1) hR (by rw [List.length_append, hLL]; simp)
  rw [List.take_left' hLL] at hset
  have hS : W1.setCells k ((i + (n - J)) * 2) (List.replicate ((n - (i + (n - J))) * 2) (.int .i64 0)) = W1.setCells k ((n - 1) * 2) ([((0 : Int), (0 : Int))].flatMap vC) := by rw [e1]; rw [show n - (n - 1) = 1 by omega]; rfl
  have hkk := (HK1.out).tr (kp_sets k ((n - 1) * 2) ([((0 : Int), (0 : Int))].flatMap vC) W1)
  rw [hS]
  rw [List.append_assoc] at hset
  refine ⟨_, rfl, .inl ⟨k, cap, by rw [hLL, e1]; rfl, H12.out.1, Nat.lt_of_lt_of_le H12.out.2.1 hkk.size, by rw [hLL]; omega, H12.out.2.2, hset.pre⟩, Kp.own H0.out hkk fun b hb => by rw [hb]; exact H12.out.1⟩

end Go.Proofs.Ytlogihcmmoldkaa.W

namespace Go.Proofs.Ytlogihcmmoldkaa.W
open Go.RowKit Go.Proofs.Ytlogihcmmoldkaa.V Go.Proofs.Ytlogihcmmoldkaa.G


theorem own_ownl {w0 w : World} {v : Value} {l : List (Int × Int)} (h : w.ownsRow w0.heap.size 23 2 v l.length (l.flatMap vC)) : OwnL w0 w v l := by
  have hs := own_src h
  rcases h.2 with ⟨rfl, h0⟩ | ⟨g, cap, cur, rfl, hb, hg, hcap, hm, hsz, ht⟩
  · obtain rfl : l = [] := List.eq_nil_of_length_eq_zero h0
    exact .inr ⟨rfl, none, 0, rfl, Nat.zero_le _⟩
  · refine .inl ⟨g, cap, rfl, hb, (Array.getElem?_eq_some_iff.1 hg).1, hcap, hm, fun i p hp => ?_⟩
    obtain ⟨f1, f2⟩ := flatV_at l i p hp
    have hi := (List.getElem?_eq_some_iff.1 hp).1
    obtain ⟨_, A', c', e, _, _, hc⟩ := hs
    injection e with e1 _ _
    obtain ⟨g', o', e2, _, hc⟩ := hc (by omega)
    rw [e2] at e1
    injection e1 with e1
    injection e1 with e3 e4
    subst e3 e4
    have h1 := hc _ _ f1
    have h2 := hc _ _ f2
    rw [Nat.zero_add] at h1 h2
    have hf : ∀ j, w.frozen? ⟨g, j, none⟩ = false := fun j => by simp [World.frozen?, hg]
    exact ⟨⟨h1, h2⟩, hf _, hf _⟩
theorem infoRing : (Try.prog.info? 23).map (fun i => (i.zero, i.size, i.bytes)) = some (some (.agg #[.int .i64 0, .int .i64 0]), 2, 16) := infoVec
/-- slices.Grow(nil, n): an empty row with room -/
theorem sGrow_any (n : Nat) (hn : n ≤ 1099511627776) (w : World) : Calls Try.prog 81 #[.slice none 0 0, .int .i64 n] w fun e w' => ∃ v', e = .returned v' ∧ w'.ownsRow w.heap.size 23 2 v' 0 [] ∧ Nw w w' := by
  rcases Nat.eq_zero_or_pos n with h0 | h0
  · subst h0
    refine Calls.mono (Any8.slices_Grow_room Try.growRing none 0 0 0 w (Nat.le_refl _) (by omega) (by omega) (Nat.le_refl _)) ?_
    rintro e w' ⟨rfl, rfl⟩
    exact ⟨_, rfl, World.ownsRow_nil _ _ _ _, Kp.refl _ _⟩
  · obtain ⟨i0, hi, hz, hs, hb⟩ := vec_info
    refine Calls.mono (Any8.slices_Grow_grow Try.growRing i0 _ hi hz (by omega) none 0 0 n [] w (Nat.le_refl _) (by omega) (by rw [hb]; omega) (by omega) (by simp) (fun _ => rfl) (fun a h => by cases h)) ?_
    rintro e w' ⟨rfl, rfl⟩
    refine ⟨_, rfl, ?_, (Kp.refl _ w).drew.alloc _⟩
    refine World.ownsRow_made w.drew _ _ (Nat.le_refl _) ?_ ?_
    · exact grownCap_le_maxLen w _ _ _ (by unfold maxLen; omega)
    · have hge := grownCap_ge w (0 + n) 0 (Try.growRing_ren.t 25)
      simp [Builtin.zeroCells, Value.cells]
      simp at hge
      omega

set_option maxRecDepth 100000 in
set_option maxHeartbeats 6400000 in
theorem sConcat_any (l1 l2 : List (Int × Int)) (u v : Value) (w : World) (hu : SrcV w u l1) (hv : SrcV w v l2) (h1 : l1.length ≤ 1048576) (h2 : l2.length ≤ 1048576) (g : Nat) (hg : Blk w g 34 #[u, v]) :
    Calls Try.prog 69 #[.slice (some ⟨g, 0, none⟩) 2 2] w fun e w' => ∃ v', e = .returned v' ∧ OwnL w w' v' (l1 ++ l2) ∧ Nw w w' := by
  obtain ⟨A1, c1, rfl⟩ := hu.shape
  obtain ⟨A2, c2, rfl⟩ := hv.shape
  obtain ⟨n1, hn1⟩ : ∃ n, l1.length = n := ⟨_, rfl⟩
  obtain ⟨n2, hn2⟩ : ∃ n, l2.length = n := ⟨_, rfl⟩
  replace hu := src_n hu hn1
  replace hv := src_n hv hn2
  rw [hn1] at h1 hg
  rw [hn2] at h2 hg
  have HU := Lib.hid hu
  have HV := Lib.hid hv
  have HN := Lib.hid (And.intro hn1 hn2)
  have HG := Lib.hid hg
  clear hu hv hn1 hn2 hg
  obtain ⟨n, hn⟩ : ∃ n, n1 + n2 = n := ⟨_, rfl⟩
  have hgr := fun w1 => sGrow_any n (by omega) w1
  go_enter Try.func69, Try.ntmps69
  go_wp2_with fail
  go_loopw [3, 11] (fun s i wr => ∃ k : Nat, i = .int .i64 k ∧ k ≤ 2 ∧ s = .int .i64 ((if k = 0 then 0 else if k = 1 then n1 else n : Nat) : Int) ∧ Nw w wr) (fun s i _ => 2 - (intOf i).toNat)
  case atStart => exact ⟨0, rfl, by omega, rfl, (by repeat (first | exact Kp.refl _ _ | refine Kp.alloc ?_ _ | refine Kp.drew ?_))⟩
  case round =>
    obtain ⟨k, rfl, hk, rfl, hnw⟩ := hrel
    have HK := Lib.hid hnw
    clear hnw
    have hb := Blk.kp HG.out HK.out id
    obtain ⟨y0, y1, _, _⟩ := hb.two
    clear hb
    rcases (show k = 0 ∨ k = 1 ∨ k = 2 by omega) with rfl | rfl | rfl
    · have e0 : IntKind.i64.wrap (0 + (n1 : Int)) = (n1 : Int) := by rw [IntKind.wrap_i64]; omega
      have e1 : ¬ ((n1 : Int) < 0) := by omega
      go_wp2_with fail
      go_roundw
      case rel => exact ⟨1, rfl, by omega, rfl, (by repeat (first | exact HK.out | refine Kp.alloc ?_ _ | refine Kp.drew ?_))⟩
      case measure => simp [intOf]
    · have e0 : IntKind.i64.wrap ((n1 : Int) + (n2 : Int)) = (n : Int) := by rw [IntKind.wrap_i64]; omega
      have e1 : ¬ ((n : Int) < 0) := by omega
      go_wp2_with fail
      go_roundw
      case rel => exact ⟨2, rfl, by omega, rfl, (by repeat (first | exact HK.out | refine Kp.alloc ?_ _ | refine Kp.drew ?_))⟩
      case measure => simp [intOf]
    · go_wp2_with fail
      with_reducible refine (hgr _).mono ?_
      rintro e w5 ⟨v5, rfl, o5, k5⟩
      have HK5 := Lib.hid (HK.out.tr k5)
      have HO5 := Lib.hid (own_less o5 HK.out.size)
      clear o5 k5 hgr
      go_wp2_with fail
      go_loopw [6, 27] (fun s i wx => ∃ k : Nat, i = .int .i64 k ∧ k ≤ 2 ∧ wx.ownsRow w.heap.size 23 2 s (if k = 0 then 0 else if k = 1 then n1 else n1 + n2) (if k = 0 then [] else if k = 1 then l1.flatMap vC else l1.flatMap vC ++ l2.flatMap vC) ∧ Nw w wx) (fun s i _ => 2 - (intOf i).toNat)
      case atStart => exact ⟨0, rfl, by omega, HO5.out, HK5.out⟩
      case round =>
        obtain ⟨k, rfl, hk, own, hnw⟩ := hrel
        have HKX := Lib.hid hnw
        have hb := Blk.kp HG.out hnw id
        obtain ⟨y0, y1, _, _⟩ := hb.two
        clear hb hnw
        have hB := HKX.out.size
        rcases (show k = 0 ∨ k = 1 ∨ k = 2 by omega) with rfl | rfl | rfl
        · have HOX := Lib.hid (show wr.ownsRow w.heap.size 23 2 _ 0 [] from own)
          clear own
          go_wp2_with (at_builtin; refine wp_appG rfl (.tmp 31) (.tmp 32) 34 23 2 16 (.agg #[.int .i64 0, .int .i64 0]) rfl Try.underlying34 infoVec rfl (by omega) w.heap.size 0 n1 _ _ [] (l1.flatMap vC) (by rfl) HOX.out (by rfl) (HU.out.nw HKX.out) (flatV_one _) (by omega) (by omega) hB ?_; intro v6 w6 own6 gr6)
          have HK6 := Lib.hid (gr6.nw HKX.out (own_from HOX.out))
          simp only [Nat.zero_add, List.nil_append] at own6
          have HO6 := Lib.hid own6
          clear own6 gr6
          go_wp2_with fail
          go_roundw
          case rel => exact ⟨1, rfl, by omega, HO6.out, HK6.out⟩
          case measure => simp [intOf]
        · have HOX := Lib.hid (show wr.ownsRow w.heap.size 23 2 _ n1 (l1.flatMap vC) from own)
          clear own
          go_wp2_with (at_builtin; refine wp_appG rfl (.tmp 31) (.tmp 32) 34 23 2 16 (.agg #[.int .i64 0, .int .i64 0]) rfl Try.underlying34 infoVec rfl (by omega) w.heap.size n1 n2 _ _ (l1.flatMap vC) (l2.flatMap vC) (by rfl) HOX.out (by rfl) (HV.out.nw HKX.out) (flatV_one _) (by omega) (by omega) hB ?_; intro v6 w6 own6 gr6)
          have HK6 := Lib.hid (gr6.nw HKX.out (own_from HOX.out))
          have HO6 := Lib.hid own6
          clear own6 gr6
          go_wp2_with fail
          go_roundw
          case rel => exact ⟨2, rfl, by omega, HO6.out, HK6.out⟩
          case measure => simp [intOf]
        · have HOX := Lib.hid (show wr.ownsRow w.heap.size 23 2 _ (n1 + n2) (l1.flatMap vC ++ l2.flatMap vC) from own)
          clear own
          go_wp2_with fail
          go_ret
          refine ⟨_, rfl, own_ownl ?_, HKX.out⟩
          rw [List.length_append, HN.out.1, HN.out.2, List.flatMap_append]
          exact HOX.out

end Go.Proofs.Ytlogihcmmoldkaa.W

namespace Go.Proofs.Ytlogihcmmoldkaa.W
open Go.RowKit Go.Proofs.Ytlogihcmmoldkaa.V Go.Proofs.Ytlogihcmmoldkaa.G


def edgesTo (l : List Pt) (k : Nat) : List Ed := (List.range k).map (edgeP l)
theorem edgesTo_succ (l : List Pt) (k : Nat) : edgesTo l (k + 1) = edgesTo l k ++ [edgeP l k] := by unfold edgesTo; rw [List.range_succ, List.map_append]; rfl
theorem infoSeg : (Try.prog.info? 76).map (fun i => (i.zero, i.size, i.bytes)) = some (some (.agg #[.int .i64 0, .int .i64 0, .int .i64 0, .int .i64 0]), 4, 32) := by kernel_rfl

section
variable {w : World} {ops : Array Oper} {o : Oper} {a : Act} {K : Act → World → Prop} {Q : Exit → Act → World → Prop} {E : Prop}
/-- an append of whatever source, as a step of a region that draws its order -/
theorem step_appG (hgd : o.guard = none) (s x : Operand) (t e : TypeId) (size bts : Nat) (z : Value)
    (ho : o.op = .call { callee := .builtin .append, args := #[s, x], argTypes := #[t, t] })
    (hu : Try.prog.underlying t = some (.slice e)) (hinfo : (Try.prog.info? e).map (fun i => (i.zero, i.size, i.bytes)) = some (some z, size, bts)) (hz : z.cells.size = size) (hsz : 0 < size)
    (B n m : Nat) (v u : Value) (vs us : List Value) (hs : a.eval s = v) (hown : w.ownsRow B e size v n vs) (hx : a.eval x = u) (hsrc : Src w size u m us) (hone : ∀ u ∈ us, u.oneCell' = true)
    (hlen : (n + m) * bts ≤ 140737488355328) (hn : n + m ≤ 9223372036854775807) (hB : B ≤ w.heap.size)
    (h : ∀ v' w', w'.ownsRow B e size v' (n + m) (vs ++ us) → Grew w w' v v' → K (a.put o.dst v') w') :
    if Region.wanted o (yielded ops a.tmps) = true then Oper.wp Try.prog o a w K Q else E := by
  have hw : Region.wanted o (yielded ops a.tmps) = true := by simp [Region.wanted, hgd]
  rw [if_pos hw]
  obtain ⟨v', w', hr, h1, h2⟩ := run_appG o.type t e size bts z hu hinfo hz hsz B n m v u vs us hown hsrc hone hlen hn hB
  unfold Oper.wp execOp
  simp only [ho, resolve, invoke, builtin, Sem.run_bind, Sem.run_pure, Result.andThen_ok, List.map_toArray, List.map_cons, List.map_nil, hs, hx, hr]
  exact h v' w' h1 h2
end
/-- a new slice of one element -/
theorem src_new {w : World} {g : Nat} {t : TypeId} {cs : List Value} (h : Blk w g t cs.toArray) : Src w cs.length (.slice (some ⟨g, 0, none⟩) 1 1) 1 cs := by
  refine ⟨by omega, _, _, rfl, Nat.le_refl _, by unfold maxLen; omega, fun _ => ⟨g, 0, rfl, h.lt, fun j u hu => ?_⟩⟩
  rw [Nat.zero_add, h.cell j, ← hu]
  exact List.getElem?_toArray

set_option maxRecDepth 100000 in
set_option maxHeartbeats 6400000 in
theorem redges_any (l : List (Int × Int)) (v : Value) (w : World) (hv : SrcV w v l) (hl : l.length ≤ 1099511627776) : Calls Try.prog 71 #[v] w fun e w' => ∃ v', e = .returned v' ∧ SrcE w' v' (edgesP l) ∧ Nw w w' := by
  obtain ⟨A, c, rfl⟩ := hv.shape
  obtain ⟨n, hn⟩ : ∃ n, l.length = n := ⟨_, rfl⟩
  replace hv := src_n hv hn
  rw [hn] at hl ⊢
  have HV := Lib.hid hv
  have HN := Lib.hid hn
  have hmx := src_max hv
  clear hv hn
  have hmix := mixed7
  by_cases h2 : n < 2
  · have f2 : ((n : Int) < 2) := by omega
    go_enter Try.func71, Try.ntmps71
    go_wp2_with fail
    go_ret
    refine ⟨_, rfl, ?_, Kp.refl _ _⟩
    rw [show edgesP l = [] by unfold edgesP; rw [if_pos (by rw [HN.out]; exact h2)]]
    exact Src.nil _ _
  · have f2 : ¬ ((n : Int) < 2) := by omega
    have hE : edgesP l = edgesTo l n := by unfold edgesP edgesTo; rw [if_neg (by rw [HN.out]; exact h2), HN.out]
    rw [hE]
    have hEl : ∀ k, (edgesTo l k).length = k := fun k => by unfold edgesTo; simp
    clear h2 hE
    go_enter Try.func71, Try.ntmps71
    go_wp2_with fail
    go_loopw [3, 4] (fun ov i wr => ∃ k : Nat, i = .int .i64 k ∧ k ≤ n ∧ wr.ownsRow w.heap.size 76 4 ov k ((edgesTo l k).flatMap eC) ∧ Nw w wr) (fun ov i _ => n - (intOf i).toNat)
    case atStart => exact ⟨0, rfl, Nat.zero_le _, World.ownsRow_nil _ _ _ _, Kp.refl _ _⟩
    case round =>
      obtain ⟨k, rfl, hk, hown, hnw⟩ := hrel
      obtain ⟨A6, c6, rfl⟩ := (own_src hown).shape
      have HO := Lib.hid hown
      clear hown
      have HK := Lib.hid hnw
      clear hnw
      by_cases hkn : k < n
      · have i0 : (0 : Int) ≤ (k : Int) := by omega
        have i1 : (k : Int) < (n : Int) := by omega
        obtain ⟨s4, hs4⟩ : ∃ s : Nat, k + 1 = s := ⟨_, rfl⟩
        have a4 : IntKind.i64.wrap ((k : Int) + 1) = (s4 : Int) := by rw [IntKind.wrap_i64]; omega
        have H4 := Lib.hid hs4
        have hn0 : 0 < n := by omega
        obtain ⟨s5, hs5⟩ : ∃ s : Nat, (k + 1) % n = s := ⟨_, rfl⟩
        have l5 : s5 < n := by rw [← hs5]; exact Nat.mod_lt _ hn0
        have a5 : (s4 : Int).tmod (n : Int) = (s5 : Int) := by rw [tmod_nat, ← hs4, hs5]
        have z0 : ¬ (n = 0) := by omega
        have b4 : (0 : Int) ≤ (s5 : Int) := by omega
        have b5 : (s5 : Int) < (n : Int) := by omega
        obtain ⟨g, o, rfl, hg, hc⟩ := src_at HV.out (by omega)
        obtain ⟨⟨ax, ay⟩, ha⟩ : ∃ p, at_ l k = p := ⟨_, rfl⟩
        obtain ⟨⟨bx, bz⟩, hb⟩ : ∃ p, at_ l s5 = p := ⟨_, rfl⟩
        have hE : edgeP l k = ((ax, ay), (bx, bz)) := by unfold edgeP; rw [HN.out, hs5, ha, hb]
        have HE := Lib.hid hE
        obtain ⟨y0, y1⟩ := hc wr HK.out k hkn
        obtain ⟨y2, y3⟩ := hc wr HK.out s5 l5
        rw [ha] at y0 y1
        rw [hb] at y2 y3
        have hB := HK.out.size
        clear hc hg hs5 hs4 l5 ha hb hE
        go_upto_region 7 with fail
        go_region_law (refine step_appG (by rfl) (.tmp 14) (.tmp 28) 72 76 4 32 (.agg #[.int .i64 0, .int .i64 0, .int .i64 0, .int .i64 0]) (by rfl) Try.underlying72 infoSeg rfl (by omega) w.heap.size k 1 (.slice A6 k c6) (.slice (some ⟨wr.heap.size, 0, none⟩) 1 1) ((edgesTo l k).flatMap eC) [.int .i64 ax, .int .i64 ay, .int .i64 bx, .int .i64 bz] (by rfl) (own_nw HO.out ((nw_alloc _ _).drew)) (by rfl) (src_new (Blk.new _ _ _).drew) (by intro u hu; simp at hu; rcases hu with rfl | rfl | rfl | rfl <;> rfl) (by omega) (by omega) (by simp; omega) ?_; intro v6 w6 own6 gr6)
        all_goals (
          have HK6 := Lib.hid (gr6.nw (HK.out.alloc _).drew (own_from HO.out))
          have HO6 := Lib.hid own6
          clear own6 gr6 y0 y1 y2 y3
          go_wp2_with fail
          go_roundw
          case rel =>
            refine ⟨k + 1, by rw [← H4.out], by omega, ?_, HK6.out⟩
            rw [edgesTo_succ, HE.out, List.flatMap_append]
            exact HO6.out
          case measure => (have := H4.out; simp [intOf]; try omega))
      · obtain rfl : k = n := by omega
        have i5 : ¬ ((k : Int) < (k : Int)) := by omega
        go_wp2_with fail
        go_ret
        refine ⟨_, rfl, ?_, HK.out⟩
        show Src _ 4 _ (edgesTo l k).length _
        rw [hEl]
        exact own_src HO.out

set_option maxRecDepth 100000 in
set_option maxHeartbeats 6400000 in
theorem rreverse_any (l : List (Int × Int)) (v : Value) (w : World) (hv : SrcV w v l) (hl : l.length ≤ 1099511627776) : Calls Try.prog 54 #[v] w fun e w' => ∃ v', e = .returned v' ∧ SrcV w' v' l.reverse ∧ Nw w w' := by
  obtain ⟨A, c, rfl⟩ := hv.shape
  obtain ⟨n, hn⟩ : ∃ n, l.length = n := ⟨_, rfl⟩
  replace hv := src_n hv hn
  rw [hn] at hl ⊢
  have HV := Lib.hid hv
  have HN := Lib.hid hn
  have hmx := src_max hv
  clear hv hn
  have hmix := mixed7
  have e0 : IntKind.i64.wrap ((n : Int) - 1) = (n : Int) - 1 := by rw [IntKind.wrap_i64]; omega
  go_enter Try.func54, Try.ntmps54
  go_wp2_with fail
  go_loopw [3, 4] (fun ov i wr => ∃ (m : Nat) (x : Int), i = .int .i64 x ∧ x = (m : Int) - 1 ∧ m ≤ n ∧ wr.ownsRow w.heap.size 23 2 ov (n - m) (((l.drop m).reverse).flatMap vC) ∧ Nw w wr) (fun ov i _ => (intOf i + 1).toNat)
  case atStart => exact ⟨n, (n : Int) - 1, rfl, rfl, Nat.le_refl _, by rw [List.drop_of_length_le (by rw [HN.out]; exact Nat.le_refl _), Nat.sub_self]; exact World.ownsRow_nil _ _ _ _, Kp.refl _ _⟩
  case round =>
    obtain ⟨m, x, rfl, hx, hm, hown, hnw⟩ := hrel
    obtain ⟨A6, c6, rfl⟩ := (own_src hown).shape
    have HO := Lib.hid hown
    have HK := Lib.hid hnw
    have HX := Lib.hid hx
    clear hown hnw
    rcases Nat.eq_zero_or_pos m with h0 | h0
    · subst h0
      have hx0 : ¬ (0 ≤ x) := by omega
      have hx1 : decide (0 ≤ x) = false := decide_eq_false hx0
      clear hx
      go_wp2_with fail
      go_ret
      refine ⟨_, rfl, ?_, HK.out⟩
      have h := own_src HO.out
      rw [List.drop_zero] at h
      show Src _ 2 _ l.reverse.length _
      rw [List.length_reverse, HN.out]
      exact h
    · obtain ⟨J, hJ⟩ : ∃ J, m = J + 1 := ⟨m - 1, by omega⟩
      subst hJ
      obtain rfl : x = (J : Int) := by omega
      have i0 : (0 : Int) ≤ (J : Int) := by omega
      have i1 : (J : Int) < (n : Int) := by omega
      have e1 : IntKind.i64.wrap ((J : Int) - 1) = (J : Int) - 1 := by rw [IntKind.wrap_i64]; omega
      obtain ⟨g, o, rfl, hg, hc⟩ := src_at HV.out (by omega)
      obtain ⟨⟨ax, ay⟩, ha⟩ : ∃ p, at_ l J = p := ⟨_, rfl⟩
      obtain ⟨y0, y1⟩ := hc wr HK.out J (by omega)
      rw [ha] at y0 y1
      have hdr : (l.drop J).reverse = (l.drop (J + 1)).reverse ++ [(ax, ay)] := by
        have hJl : J < l.length := by rw [HN.out]; omega
        have : l[J] = (ax, ay) := by
          have h := at_some hJl
          rw [ha] at h
          exact (List.getElem?_eq_some_iff.1 h).2
        rw [List.drop_eq_getElem_cons hJl, List.reverse_cons, this]
      have HDR := Lib.hid hdr
      have hB := HK.out.size
      have hq : n - (J + 1) + 1 = n - J := by omega
      have hq2 : n - (J + 1) ≤ 1099511627776 := by omega
      clear hc hg ha hdr hx
      generalize hqq : n - (J + 1) = q at *
      clear hqq
      go_wp2_with (at_builtin; refine wp_pushG rfl (.tmp 12) (.tmp 17) 34 23 2 16 (.agg #[.int .i64 0, .int .i64 0]) rfl Try.underlying34 infoVec rfl (by omega) w.heap.size q _ _ [.int .i64 ax, .int .i64 ay] (by rfl) HO.out rfl (by intro u hu; simp at hu; rcases hu with rfl | rfl <;> rfl) (by rfl) (by omega) (by omega) hB ?_; intro v6 w6 own6 gr6)
      have HK6 := Lib.hid (gr6.nw HK.out (own_from HO.out))
      have HO6 := Lib.hid own6
      clear own6 gr6 y0 y1
      go_wp2_with fail
      go_roundw
      case rel =>
        refine ⟨J, (J : Int) - 1, rfl, rfl, by omega, ?_, HK6.out⟩
        rw [HDR.out, List.flatMap_append, ← hq]
        exact HO6.out
      case measure => (simp [intOf]; try omega)

end Go.Proofs.Ytlogihcmmoldkaa.W
