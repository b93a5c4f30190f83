/-
  Heap[fretsaw/fretsawref03.Item]: Sorted. Conditions: the list is read, of fewer than 2^40 elements.
-/
import Derived.Test.YtfboahapbgjhnaaHIg
namespace Go.Proofs.Ytfboahapbgjhnaa.W
open Go.RowKit Go.Proofs.Ytfboahapbgjhnaa.Pl

theorem infoVI : (Try.prog.info? 27).map (fun i => (i.zero, i.size, i.bytes)) = some (some (.agg #[.int .i64 0, .int .i64 0]), 2, 16) := by kernel_rfl
/-- a row of elements that the call owns -/
def OwnVI (w : World) (B : Nat) (v : Value) (l : List (Int × Int)) : Prop := w.ownsRow B 27 2 v l.length (flat cvI l)
theorem OwnVI.nil (w : World) (B : Nat) : OwnVI w B (.slice none 0 0) [] := World.ownsRow_nil _ _ _ _
theorem OwnVI.src {w : World} {B : Nat} {v : Value} {l : List (Int × Int)} (h : OwnVI w B v l) : SrcI w v l := own_src h
theorem OwnVI.kp {S : Nat → Prop} {w w' : World} {B : Nat} {v : Value} {l : List (Int × Int)} (h : OwnVI w B v l) (hk : Kp S w w') (hv : ∀ g, v.ownBlock = some g → ¬ S g) : OwnVI w' B v l := own_kp h hk hv
theorem OwnVI.nw {w w' : World} {B : Nat} {v : Value} {l : List (Int × Int)} (h : OwnVI w B v l) (hk : Nw w w') : OwnVI w' B v l := own_nw h hk
theorem OwnVI.far {w : World} {B C H p : Nat} {v vh : Value} {l : List (Int × Int)} {q : List Ent} (h : OwnVI w B v l) (hh : HpI C w H vh q p) : ∀ k, Ft H vh k → v.ownBlock ≠ some k := by
  obtain ⟨l2, ha, _⟩ := hh
  intro k e
  rcases e with rfl | e
  · exact own_ne h ha.blk (by decide)
  · exact own_own h ha.own (by decide) k e
/-- the variable of a loop over a heap -/
def VarI (w : World) (B : Nat) (u v : Value) (x : Int × Int) : Prop :=
  ∃ b, u = .pointer (some ⟨b, 0, none⟩) ∧ Blk w b 27 #[.int .i64 x.1, .int .i64 x.2] ∧ B ≤ b ∧ v.ownBlock ≠ some b
/-- what holds between two rounds of a loop that empties the heap in block H into the slice v: u is the variable of the element, o says whether there is one; fin is what comes out in all -/
def DrI (w0 : World) (H p : Nat) (v u : Value) (acc : List (Int × Int)) (q : List Ent) (w : World) : Prop :=
  ∃ (vh : Value), OwnVI w w0.heap.size v acc ∧ HpI 0 w H vh q.tail p ∧ (∀ k, Ft H vh k → w0.heap.size ≤ k) ∧ Nw w0 w ∧ VarI w w0.heap.size u v (hdv q)

set_option maxRecDepth 100000 in
set_option maxHeartbeats 1600000 in
theorem sortedI_any (v : Value) (l : List (Int × Int)) (w : World) (hs : SrcI w v l) (hlen : l.length ≤ 1099511627775) :
    Calls Try.prog 23 #[(.func (.func 12) #[] #[]), v] w fun e w' => ∃ u, e = .returned u ∧ OwnVI w' w.heap.size u (sortV rkI l []) ∧ Nw w w' := by
  obtain ⟨A, cap, rfl⟩ := hs.shape
  obtain ⟨fin, hfin⟩ : ∃ fin, sortV rkI l [] = fin := ⟨_, rfl⟩
  obtain ⟨q0, hq⟩ : ∃ q, allQ rkI l 0 [] = q := ⟨_, rfl⟩
  have hqf : q0.map (·.1) = fin := by rw [← hq, allQ_map, ← hfin]; rfl
  have hql : q0.length = l.length := by rw [← hq, allQ_length]; simp
  have HQ := Lib.hid hq
  have HQF := Lib.hid hqf
  have HQL := Lib.hid hql
  rw [hfin]
  clear hq hfin hqf hql
  go_enter Try.func23, Try.ntmps23
  go_wp2_with (first
    | (go_at_call 22; ((with_reducible refine (fromI_any _ l _ hs (by omega)).mono ?_); rintro e w1 ⟨rfl, vh, hh1, hf1, hk1⟩; rw [HQ.out] at hh1))
    | (go_at_call 13; ((with_reducible refine (popI_any 0 w.heap.size 0 l.length vh q0 _ hh1 (cntI_t _ _ _) (by rw [HQL.out]; omega)).mono ?_); rintro e w2 ⟨rfl, vh2, c2, hh2, hk2, hv2, _, _⟩)))
  have hk2' : Nw w w2 := hk1.trans hk2 (fun i hi e => e.elim (fun e => absurd hi (Nat.not_lt.2 (hf1 i e))) id)
  have hf2 : ∀ k, Ft w.heap.size vh2 k → w.heap.size ≤ k := fun k e => e.elim (fun e => Nat.le_of_eq e.symm) (fun e => hf1 k (.inr (hv2 ▸ e)))
  go_loopg [5, 7, 8] q0.length (fun gg s u o wr => ∃ (acc : List (Int × Int)) (q : List Ent), o = .bool (nemp q) ∧ q.length ≤ gg ∧ acc ++ q.map (·.1) = fin ∧ DrI w w.heap.size l.length s u acc q wr)
  case atStart =>
    refine ⟨[], q0, rfl, Nat.le_refl _, HQF.out, vh2, OwnVI.nil _ _, ?_, hf2, ?_, ?_⟩
    · exact hh2.nw ((Kp.refl _ w2).alloc _)
    · exact hk2'.alloc _
    · exact ⟨w2.heap.size, rfl, Blk.new w2 _ _, hk2'.size, by simp [Value.ownBlock]⟩
  case round =>
    obtain ⟨acc, q, rfl, hgg, hfin, vh3, ho, hh3, hf3, hk3, hvar⟩ := hrel
    have HH3 := Lib.hid hh3
    have HF3 := Lib.hid hf3
    have HK3 := Lib.hid hk3
    have HFIN := Lib.hid hfin
    have HO := Lib.hid ho
    have HQL0 := Lib.hid (show fin.length = l.length by rw [← HQF.out, List.length_map, HQL.out])
    obtain ⟨A4, c4, rfl⟩ := (own_src ho).shape
    cases hq : nemp q with
    | false =>
      obtain rfl := nemp_f hq
      rw [List.map_nil, List.append_nil] at hfin
      have HF := Lib.hid hfin
      clear hfin hh3 hf3 hk3 ho hvar hq
      go_wp2
      go_ret
      exact ⟨_, rfl, HF.out ▸ HO.out, HK3.out⟩
    | true =>
      obtain ⟨x, r, rfl⟩ := nemp_t hq
      obtain ⟨vx, hvx⟩ : ∃ vx, hdv (x :: r) = vx := ⟨_, rfl⟩
      rw [hvx] at hvar
      have hfin' : (acc ++ [vx]) ++ r.map (·.1) = fin := by rw [← hfin, ← hvx, List.map_cons]; simp [hdv]
      have HFIN2 := Lib.hid hfin'
      have hlen4 : acc.length + 1 + r.length ≤ 1099511627776 := by
        have := congrArg List.length hfin'
        simp only [List.length_append, List.length_cons, List.length_nil, List.length_map] at this
        have := HQL0.out
        omega
      have hrl : r.length + 1 ≤ gk := by simp at hgg; exact hgg
      clear hfin hfin' hh3 hf3 hk3 hq hvx hgg
      obtain ⟨b, rfl, hbx, hBb, hvb⟩ := hvar
      obtain ⟨x0, x1, x2, x3⟩ := hbx.two
      go_wp2_with (first
        | (at_builtin; refine wp_pushG rfl (.tmp 23) (.tmp 25) 29 27 2 16 (.agg #[.int .i64 0, .int .i64 0]) rfl Try.underlying29 infoVI rfl (by omega) w.heap.size acc.length _ (flat cvI acc) [.int .i64 vx.1, .int .i64 vx.2] rfl HO.out rfl ?_ rfl ?_ ?_ (HK3.out.size) ?_; (intro u hu; simp at hu; rcases hu with rfl | rfl <;> rfl); omega; omega; intro v5 w5 own5 gr5; have hbx5 := hbx.kp gr5.by_ hvb; (obtain ⟨y0, y1, y2, y3⟩ := hbx5.two)))
      obtain ⟨wy, hwy⟩ : ∃ wy, w5.alloc (.cells #[.int .i64 vx.1, .int .i64 vx.2] 27) = wy := ⟨_, rfl⟩
      have hky : Nw w5 wy := hwy ▸ (Kp.refl _ w5).alloc _
      have hby : Blk wy w5.heap.size 27 #[.int .i64 vx.1, .int .i64 vx.2] := hwy ▸ Blk.new w5 _ _
      rw [hwy]
      have hh5 := (HH3.out.kp gr5.by_ (fun k e e2 => HO.out.far HH3.out k e e2)).nw hky
      have hrow5 : OwnVI w5 w.heap.size v5 (acc ++ [vx]) := by
        unfold OwnVI
        rw [flat_snoc, List.length_append]
        exact own5
      have hlt5' := (HH3.out.kp gr5.by_ (fun k e e2 => HO.out.far HH3.out k e e2)).lt
      clear hwy
      refine (popI_any 0 w.heap.size 0 l.length vh3 r wy hh5 (cntI_t _ _ _) (by omega)).mono ?_
      rintro e w6 ⟨rfl, vh6, c6, hh6, hk6, hv6, _, _⟩
      have hb6 := hby.kp hk6 (fun e => e.elim (fun e => absurd (hlt5' _ e) (Nat.lt_irrefl _)) (fun e => e.elim))
      obtain ⟨z0, z1, z2, z3⟩ := hb6.two
      have hk56 : Nw w w6 := ((HK3.out.trans gr5.by_ (fun i hi e => absurd hi (Nat.not_lt.2 (own_from HO.out i e)))).tr hky).trans hk6 (fun i hi e => e.elim (fun e => absurd hi (Nat.not_lt.2 (HF3.out i e))) id)
      have hf6 : ∀ k, Ft w.heap.size vh6 k → w.heap.size ≤ k := fun k e => e.elim (fun e => Nat.le_of_eq e.symm) (fun e => HF3.out k (.inr (hv6 ▸ e)))
      have hrow6 := (hrow5.nw hky).kp hk6 (fun g e e2 => e2.elim (fun e2 => (hrow5.nw hky).far hh5 g e2 e) (fun e => e.elim))
      have hk7 := kp_two w6 w5.heap.size (.int .i64 (hdv r).1) (.int .i64 (hdv r).2)
      have hb7 := hb6.lay2 (.int .i64 (hdv r).1) (.int .i64 (hdv r).2)
      have hv5b : v5.ownBlock ≠ some w5.heap.size := fun e => absurd (own_lt hrow5 _ e) (Nat.lt_irrefl _)
      have hrow7 := hrow6.kp hk7 (fun g e e2 => hv5b (by rw [← e2]; exact e))
      have hw5 : w.heap.size ≤ w5.heap.size := Nat.le_trans HK3.out.size gr5.size
      have hh7 := hh6.kp hk7 (fun k e e2 => by
        have : k < w5.heap.size := by
          rcases e with e | e
          · have := hlt5' k (.inl e)
            omega
          · exact hlt5' k (.inr (hv6 ▸ e))
        omega)
      have hk67 : Nw w ((w6.setCell ⟨w5.heap.size, 0, none⟩ (.int .i64 (hdv r).1)).setCell ⟨w5.heap.size, 1, none⟩ (.int .i64 (hdv r).2)) := hk56.trans hk7 (fun i hi e => by omega)
      have HH7 := Lib.hid hh7
      have HR7 := Lib.hid hrow7
      have HB7 := Lib.hid hb7
      have HK67 := Lib.hid hk67
      have hrl' : r.length < gk := hrl
      clear hh7 hrow7 hb7 hk67 hrow6 hrow5 hk7 hb6 hby hky hh5 hh6 hk6 own5 gr5
      go_wp2_with fail
      go_roundg r.length
      case measure => exact hrl'
      case rel => exact ⟨acc ++ [vx], r, rfl, Nat.le_refl _, HFIN2.out, vh6, HR7.out, HH7.out, hf6, HK67.out, ⟨w5.heap.size, rfl, HB7.out, hw5, hv5b⟩⟩
end Go.Proofs.Ytfboahapbgjhnaa.W
