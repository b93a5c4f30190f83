/-
  Heap[int]: Sorted. Conditions: the list is read, of fewer than 2^40 elements.
-/
import Derived.Test.YtfboahapbgjhnaaHNg
namespace Go.Proofs.Ytfboahapbgjhnaa.W
open Go.RowKit Go.Proofs.Ytfboahapbgjhnaa.Pl

theorem infoVN : (Try.prog.info? 3).map (fun i => (i.zero, i.size, i.bytes)) = some (some (.int .i64 0), 1, 8) := by kernel_rfl
/-- a row of elements that the call owns -/
def OwnVN (w : World) (B : Nat) (v : Value) (l : List (Int × Int)) : Prop := w.ownsRow B 3 1 v l.length (flat cvN l)
theorem OwnVN.nil (w : World) (B : Nat) : OwnVN w B (.slice none 0 0) [] := World.ownsRow_nil _ _ _ _
theorem OwnVN.src {w : World} {B : Nat} {v : Value} {l : List (Int × Int)} (h : OwnVN w B v l) : SrcN w v l := own_src h
theorem OwnVN.kp {S : Nat → Prop} {w w' : World} {B : Nat} {v : Value} {l : List (Int × Int)} (h : OwnVN w B v l) (hk : Kp S w w') (hv : ∀ g, v.ownBlock = some g → ¬ S g) : OwnVN w' B v l := own_kp h hk hv
theorem OwnVN.nw {w w' : World} {B : Nat} {v : Value} {l : List (Int × Int)} (h : OwnVN w B v l) (hk : Nw w w') : OwnVN w' B v l := own_nw h hk
theorem OwnVN.far {w : World} {B C H p : Nat} {v vh : Value} {l : List (Int × Int)} {q : List Ent} (h : OwnVN w B v l) (hh : HpN C w H vh q p) : ∀ k, Ft H vh k → v.ownBlock ≠ some k := by
  obtain ⟨l2, ha, _⟩ := hh
  intro k e
  rcases e with rfl | e
  · exact own_ne h ha.blk (by decide)
  · exact own_own h ha.own (by decide) k e
/-- the variable of a loop over a heap -/
def VarN (_w : World) (_B : Nat) (u _v : Value) (x : Int × Int) : Prop := u = .int .i64 x.1
/-- what holds between two rounds of a loop that empties the heap in block H into the slice v: u is the variable of the element, o says whether there is one; fin is what comes out in all -/
def DrN (w0 : World) (H p : Nat) (v u : Value) (acc : List (Int × Int)) (q : List Ent) (w : World) : Prop :=
  ∃ (vh : Value), OwnVN w w0.heap.size v acc ∧ HpN 0 w H vh q.tail p ∧ (∀ k, Ft H vh k → w0.heap.size ≤ k) ∧ Nw w0 w ∧ VarN w w0.heap.size u v (hdv q)

set_option maxRecDepth 100000 in
set_option maxHeartbeats 1600000 in
theorem sortedN_any (v : Value) (l : List (Int × Int)) (w : World) (hs : SrcN w v l) (hlen : l.length ≤ 1099511627775) :
    Calls Try.prog 30 #[(.func (.func 31) #[] #[]), v] w fun e w' => ∃ u, e = .returned u ∧ OwnVN w' w.heap.size u (sortV rkN l []) ∧ Nw w w' := by
  obtain ⟨A, cap, rfl⟩ := hs.shape
  obtain ⟨fin, hfin⟩ : ∃ fin, sortV rkN l [] = fin := ⟨_, rfl⟩
  obtain ⟨q0, hq⟩ : ∃ q, allQ rkN l 0 [] = q := ⟨_, rfl⟩
  have hqf : q0.map (·.1) = fin := by rw [← hq, allQ_map, ← hfin]; rfl
  have hql : q0.length = l.length := by rw [← hq, allQ_length]; simp
  have HQ := Lib.hid hq
  have HQF := Lib.hid hqf
  have HQL := Lib.hid hql
  rw [hfin]
  clear hq hfin hqf hql
  go_enter Try.func30, Try.ntmps30
  go_wp2_with (first
    | (go_at_call 38; ((with_reducible refine (fromN_any _ l _ hs (by omega)).mono ?_); rintro e w1 ⟨rfl, vh, hh1, hf1, hk1⟩; rw [HQ.out] at hh1))
    | (go_at_call 39; ((with_reducible refine (popN_any 0 w.heap.size 0 l.length vh q0 _ hh1 (cntN_t _ _ _) (by rw [HQL.out]; omega)).mono ?_); rintro e w2 ⟨rfl, vh2, c2, hh2, hk2, hv2, _, _⟩)))
  have hk2' : Nw w w2 := hk1.trans hk2 (fun i hi e => e.elim (fun e => absurd hi (Nat.not_lt.2 (hf1 i e))) id)
  have hf2 : ∀ k, Ft w.heap.size vh2 k → w.heap.size ≤ k := fun k e => e.elim (fun e => Nat.le_of_eq e.symm) (fun e => hf1 k (.inr (hv2 ▸ e)))
  go_loopg [5, 7, 8] q0.length (fun gg s u o wr => ∃ (acc : List (Int × Int)) (q : List Ent), o = .bool (nemp q) ∧ q.length ≤ gg ∧ acc ++ q.map (·.1) = fin ∧ DrN w w.heap.size l.length s u acc q wr)
  case atStart =>
    refine ⟨[], q0, rfl, Nat.le_refl _, HQF.out, vh2, OwnVN.nil _ _, ?_, hf2, ?_, ?_⟩
    · exact hh2
    · exact hk2'
    · rfl
  case round =>
    obtain ⟨acc, q, rfl, hgg, hfin, vh3, ho, hh3, hf3, hk3, hvar⟩ := hrel
    have HH3 := Lib.hid hh3
    have HF3 := Lib.hid hf3
    have HK3 := Lib.hid hk3
    have HFIN := Lib.hid hfin
    have HO := Lib.hid ho
    have HQL0 := Lib.hid (show fin.length = l.length by rw [← HQF.out, List.length_map, HQL.out])
    obtain ⟨A4, c4, rfl⟩ := (own_src ho).shape
    cases hq : nemp q with
    | false =>
      obtain rfl := nemp_f hq
      rw [List.map_nil, List.append_nil] at hfin
      have HF := Lib.hid hfin
      clear hfin hh3 hf3 hk3 ho hvar hq
      go_wp2
      go_ret
      exact ⟨_, rfl, HF.out ▸ HO.out, HK3.out⟩
    | true =>
      obtain ⟨x, r, rfl⟩ := nemp_t hq
      obtain ⟨vx, hvx⟩ : ∃ vx, hdv (x :: r) = vx := ⟨_, rfl⟩
      rw [hvx] at hvar
      have hfin' : (acc ++ [vx]) ++ r.map (·.1) = fin := by rw [← hfin, ← hvx, List.map_cons]; simp [hdv]
      have HFIN2 := Lib.hid hfin'
      have hlen4 : acc.length + 1 + r.length ≤ 1099511627776 := by
        have := congrArg List.length hfin'
        simp only [List.length_append, List.length_cons, List.length_nil, List.length_map] at this
        have := HQL0.out
        omega
      have hrl : r.length + 1 ≤ gk := by simp at hgg; exact hgg
      clear hfin hfin' hh3 hf3 hk3 hq hvx hgg
      obtain rfl := hvar
      go_wp2_with (first
        | (at_builtin; refine wp_pushG rfl (.tmp 23) (.tmp 25) 62 3 1 8 (.int .i64 0) rfl Try.underlying62 infoVN rfl (by omega) w.heap.size acc.length _ (flat cvN acc) [.int .i64 vx.1] rfl HO.out rfl ?_ rfl ?_ ?_ (HK3.out.size) ?_; (intro u hu; simp at hu; subst hu; rfl); omega; omega; intro v5 w5 own5 gr5))
      have hh5 := HH3.out.kp gr5.by_ (fun k e e2 => HO.out.far HH3.out k e e2)
      have hrow5 : OwnVN w5 w.heap.size v5 (acc ++ [vx]) := by
        unfold OwnVN
        rw [flat_snoc, List.length_append]
        exact own5
      refine (popN_any 0 w.heap.size 0 l.length vh3 r w5 hh5 (cntN_t _ _ _) (by omega)).mono ?_
      rintro e w6 ⟨rfl, vh6, c6, hh6, hk6, hv6, _, _⟩
      have hk56 : Nw w w6 := (HK3.out.trans gr5.by_ (fun i hi e => absurd hi (Nat.not_lt.2 (own_from HO.out i e)))).trans hk6 (fun i hi e => e.elim (fun e => absurd hi (Nat.not_lt.2 (HF3.out i e))) id)
      have hf6 : ∀ k, Ft w.heap.size vh6 k → w.heap.size ≤ k := fun k e => e.elim (fun e => Nat.le_of_eq e.symm) (fun e => HF3.out k (.inr (hv6 ▸ e)))
      have hrow6 := hrow5.kp hk6 (fun g e e2 => e2.elim (fun e2 => hrow5.far hh5 g e2 e) (fun e => e.elim))
      have hrl' : r.length < gk := hrl
      go_wp2_with fail
      go_roundg r.length
      case measure => exact hrl'
      case rel => exact ⟨acc ++ [vx], r, rfl, Nat.le_refl _, HFIN2.out, vh6, hrow6, hh6, hf6, hk56, rfl⟩
end Go.Proofs.Ytfboahapbgjhnaa.W
