/-
  hull, plain: the hull of a hull's vertices in another order, of a reversed list, of two lists together. Conditions: as stated.
  hull: HullAgain: the call returns true. No condition.
-/
import Derived.Test.YthbgapcplgigoaaK16
import Derived.Test.YthbgapcplgigoaaK24
import Derived.Test.YthbgapcplgigoaaK29
namespace Go.Proofs.Ythbgapcplgigoaa.G
open Go.RowKit Go.Proofs.Ythbgapcplgigoaa.V Go.Proofs.Ythbgapcplgigoaa.W

def rotT (r : List Pt) (t : Nat) : Nat → List Pt
  | 0 => []
  | k + 1 => rotT r t k ++ [at_ r ((k + t) % r.length), at_ r k]
theorem rotT_len (r : List Pt) (t : Nat) : ∀ k, (rotT r t k).length = 2 * k
  | 0 => rfl
  | k + 1 => by
    unfold rotT
    rw [List.length_append, rotT_len r t k]
    simp
    omega
theorem rotT_in (r : List Pt) (t : Nat) (h : 0 < r.length) : ∀ k, k ≤ r.length → (∀ x ∈ rotT r t k, x ∈ r) ∧ ∀ i, i < k → at_ r i ∈ rotT r t k
  | 0, _ => ⟨fun x hx => (by cases hx), fun i hi => absurd hi (Nat.not_lt_zero i)⟩
  | k + 1, hk => by
    obtain ⟨a, b⟩ := rotT_in r t h k (by omega)
    unfold rotT
    refine ⟨fun x hx => ?_, fun i hi => ?_⟩
    · rcases List.mem_append.1 hx with h1 | h1
      · exact a x h1
      · simp only [List.mem_cons, List.not_mem_nil, or_false] at h1
        rcases h1 with rfl | rfl
        · exact at_mem (Nat.mod_lt _ h)
        · exact at_mem (by omega)
    · by_cases e : i = k
      · subst e
        simp
      · exact List.mem_append_left _ (b i (by omega))
theorem rotT_mem {r : List Pt} {t : Nat} (h : 0 < r.length) {x : Pt} : x ∈ rotT r t r.length ↔ x ∈ r := by
  obtain ⟨a, b⟩ := rotT_in r t h r.length (Nat.le_refl _)
  refine ⟨a x, fun hx => ?_⟩
  obtain ⟨i, hi, rfl⟩ := vx_at hx
  exact b i hi
/-- a list with this hull, and no more than 160 points -/
theorem hullH_of {m r : List Pt} (h : HullP m r) (hs : allS m = true) (h1 : m.length ≤ 160) : hullH m = (r, 0) := by
  rcases hullH_small hs h1 with ⟨f, _⟩ | ⟨r', h', e, _⟩
  · exact absurd f h.bend
  · rw [e, hull_unique h h']
theorem again_rot {l r : List Pt} {t : Nat} (h : HullP l r) (hs : allS r = true) (h1 : r.length ≤ 30) : hullH (rotT r t r.length) = (r, 0) := by
  have h0 : 0 < r.length := by have := h.conv.1; omega
  refine hullH_of (HullP.iff (fun x => (rotT_mem h0).symm) h.self) (allS_iff.2 fun p hp => allS_iff.1 hs p ((rotT_mem h0).1 hp)) (by rw [rotT_len]; omega)
theorem again_rev {l r : List Pt} (h : HullP l r) (hs : allS l = true) (h1 : l.length ≤ 30) : hullH l.reverse = (r, 0) :=
  hullH_of (HullP.iff (fun x => List.mem_reverse.symm) h) (allS_iff.2 fun p hp => allS_iff.1 hs p (List.mem_reverse.1 hp)) (by rw [List.length_reverse]; omega)
theorem again_both {l m r s : List Pt} (h : HullP l r) (g : HullP m s) (hl : allS l = true) (hm : allS m = true) (hr : allS r = true) (hs : allS s = true) (h1 : l.length ≤ 30) (h2 : m.length ≤ 30) (h3 : r.length ≤ 30) (h4 : s.length ≤ 30) :
    ∃ x, hullH (l ++ m) = (x, 0) ∧ hullH (r ++ s) = (x, 0) := by
  obtain ⟨a, b⟩ := h.both g
  have app : ∀ {u v : List Pt}, allS u = true → allS v = true → allS (u ++ v) = true := fun {u v} hu hv => allS_iff.2 fun p hp => by
    rcases List.mem_append.1 hp with k | k
    · exact allS_iff.1 hu p k
    · exact allS_iff.1 hv p k
  exact ⟨_, hullH_of a (app hl hm) (by rw [List.length_append]; omega), hullH_of b (app hr hs) (by rw [List.length_append]; omega)⟩
end Go.Proofs.Ythbgapcplgigoaa.G

namespace Go.Proofs.Ythbgapcplgigoaa.W
open Go.RowKit Go.Proofs.Ythbgapcplgigoaa.V Go.Proofs.Ythbgapcplgigoaa.G


theorem app_types {w : World} (ty t tx e : TypeId) (b : Option Addr) (n c : Nat) (u : Value) (hu : Try.prog.underlying t = some (.slice e)) (hx : Try.prog.underlying tx = some (.slice e)) :
    (Builtin.append_ #[t, tx] ty #[.slice b n c, u]).run Try.prog w = (Builtin.append_ #[t, t] ty #[.slice b n c, u]).run Try.prog w := by
  simp [Builtin.append_, run_underlying hu, run_underlying hx]
section
variable {w : World} {ops : Array Oper} {rest : List Oper} {o : Oper} {a : Act} {K : Act → World → Prop} {Q : Exit → Act → World → Prop} {E : Prop}
theorem wp_appG2 (hgd : o.guard = none) (s x : Operand) (t tx e : TypeId) (size bts : Nat) (z : Value)
    (ho : o.op = .call { callee := .builtin .append, args := #[s, x], argTypes := #[t, tx] })
    (hu : Try.prog.underlying t = some (.slice e)) (hux : Try.prog.underlying tx = some (.slice e)) (hinfo : (Try.prog.info? e).map (fun i => (i.zero, i.size, i.bytes)) = some (some z, size, bts)) (hz : z.cells.size = size) (hsz : 0 < size)
    (B n m : Nat) (v u : Value) (vs us : List Value) (hs : a.eval s = v) (hown : w.ownsRow B e size v n vs) (hx : a.eval x = u) (hsrc : Src w size u m us) (hone : ∀ u ∈ us, u.oneCell' = true)
    (hlen : (n + m) * bts ≤ 140737488355328) (hn : n + m ≤ 9223372036854775807) (hB : B ≤ w.heap.size)
    (h : ∀ v' w', w'.ownsRow B e size v' (n + m) (vs ++ us) → Grew w w' v v' → wpList Try.prog ops Q rest (a.put o.dst v') w') :
    wpList Try.prog ops Q (o :: rest) a w := by
  obtain ⟨v', w', hr, h1, h2⟩ := run_appG o.type t e size bts z hu hinfo hz hsz B n m v u vs us hown hsrc hone hlen hn hB
  obtain ⟨b0, n0, c0, rfl⟩ : ∃ b0 n0 c0, v = .slice b0 n0 c0 := by
    rcases hown.2 with ⟨rfl, _⟩ | ⟨g, cap, cur, rfl, _⟩
    · exact ⟨_, _, _, rfl⟩
    · exact ⟨_, _, _, rfl⟩
  have hr2 := (app_types o.type t tx e b0 n0 c0 u hu hux).trans hr
  refine wpList_plain hgd fun K hK => ?_
  unfold Oper.wp execOp
  simp only [ho, resolve, invoke, builtin, Sem.run_bind, Sem.run_pure, Result.andThen_ok, List.map_toArray, List.map_cons, List.map_nil, hs, hx, hr2]
  exact hK _ _ (h v' w' h1 h2)
end
theorem flat_one (l : List (Int × Int)) : ∀ u ∈ l.flatMap vC, u.oneCell' = true := by
  intro u hu
  obtain ⟨p, _, hp⟩ := List.mem_flatMap.1 hu
  simp at hp
  rcases hp with rfl | rfl <;> rfl
theorem own_empty (w : World) (B : Nat) (hB : B ≤ w.heap.size) : (w.alloc (.cells #[] 32)).ownsRow B 32 2 (.slice (some ⟨w.heap.size, 0, none⟩) 0 0) 0 [] :=
  ⟨rfl, .inr ⟨w.heap.size, 0, #[], rfl, hB, Blk.new w _ _, Nat.le_refl _, Nat.zero_le _, rfl, rfl⟩⟩

set_option maxRecDepth 100000 in
set_option maxHeartbeats 12800000 in
theorem hullAgain_any (l m : List (Int × Int)) (tv : Int) (v u : Value) (ht : 0 ≤ tv ∧ tv < 256) (w : World) (hv : SrcV w v l) (hu : SrcV w u m) : Calls Try.prog 7 #[v, u, .int .u8 tv] w fun e w' => e = .returned (.bool true) ∧ Nw w w' := by
  have hmix := mixed7
  obtain ⟨A, c, rfl⟩ := hv.shape
  obtain ⟨n, hn⟩ : ∃ n, l.length = n := ⟨_, rfl⟩
  replace hv := src_n hv hn
  have HV := Lib.hid hv
  have HN := Lib.hid hn
  have HSV := Lib.hid (src_v hv hn)
  have hmx := src_max hv
  rw [hn]
  clear hv hn
  obtain ⟨B, d, rfl⟩ := hu.shape
  obtain ⟨n2, hn2⟩ : ∃ n, m.length = n := ⟨_, rfl⟩
  replace hu := src_n hu hn2
  have HU := Lib.hid hu
  have HN2 := Lib.hid hn2
  have HSU := Lib.hid (src_v hu hn2)
  have hmx2 := src_max hu
  rw [hn2]
  clear hu hn2
  obtain ⟨sa, hsa⟩ : ∃ b, (allS l && decide (l.length ≤ 30)) = b := ⟨_, rfl⟩
  have csa := fun w1 (h : Nw w w1) => small_any l (.slice A n c) w1 (HSV.out.nw h)
  rw [hsa] at csa
  have Hsa := Lib.hid hsa
  clear hsa
  obtain ⟨sb, hsb⟩ : ∃ b, (allS m && decide (m.length ≤ 30)) = b := ⟨_, rfl⟩
  have csb := fun w1 (h : Nw w w1) => small_any m (.slice B n2 d) w1 (HSU.out.nw h)
  rw [hsb] at csb
  have Hsb := Lib.hid hsb
  clear hsb
  have chl := fun w1 (h : Nw w w1) => hull_any l (.slice A n c) w1 (HSV.out.nw h)
  have chm := fun w1 (h : Nw w w1) => hull_any m (.slice B n2 d) w1 (HSU.out.nw h)
  obtain ⟨tn, htn⟩ : ∃ t : Nat, tv = (t : Int) := ⟨tv.toNat, by omega⟩
  subst htn
  have HTN := Lib.hid (show tn < 256 by omega)
  clear ht
  go_enter Try.func7, Try.ntmps7
  go_wp2_with fail
  refine (awakeH_any _).mono ?_
  rintro e w1 ⟨rfl, k1⟩
  go_wp2_with fail
  refine (csa _ k1).mono ?_
  rintro e w2 ⟨rfl, k2⟩
  have HK2 := Lib.hid (k1.tr k2)
  clear k1 k2 csa
  cases sa
  · go_wp2_with fail
    go_ret
    exact ⟨rfl, HK2.out⟩
  go_wp2_with fail
  refine (csb _ HK2.out).mono ?_
  rintro e w3 ⟨rfl, k3⟩
  have HK3 := Lib.hid (HK2.out.tr k3)
  clear k3 csb
  cases sb
  · go_wp2_with fail
    go_ret
    exact ⟨rfl, HK3.out⟩
  obtain ⟨hs_l, h30_l⟩ : allS l = true ∧ l.length ≤ 30 := by
    have := Hsa.out
    rw [Bool.and_eq_true, decide_eq_true_eq] at this
    exact this
  obtain ⟨hs_m, h30_m⟩ : allS m = true ∧ m.length ≤ 30 := by
    have := Hsb.out
    rw [Bool.and_eq_true, decide_eq_true_eq] at this
    exact this
  have HSL := Lib.hid hs_l
  have HSMM := Lib.hid hs_m
  by_cases h15 : 15 < n
  · have f1 : ((n : Int) > 15) := by omega
    clear hs_l hs_m h30_l h30_m
    go_wp2_with fail
    go_ret
    exact ⟨rfl, HK3.out⟩
  have f1 : ¬ ((n : Int) > 15) := by omega
  by_cases h25 : 15 < n2
  · have f2 : ((n2 : Int) > 15) := by omega
    clear hs_l hs_m h30_l h30_m
    go_wp2_with fail
    go_ret
    exact ⟨rfl, HK3.out⟩
  have f2 : ¬ ((n2 : Int) > 15) := by omega
  have H15 := Lib.hid (show n ≤ 15 ∧ n2 ≤ 15 from ⟨by omega, by omega⟩)
  clear h15 h25
  go_wp2_with fail
  refine (chl _ HK3.out).mono ?_
  rintro e w4 ⟨v4, rfl, s4', k4⟩
  have HK4 := Lib.hid (HK3.out.tr k4)
  have HS40 := Lib.hid s4'
  obtain ⟨A3, c3, e3⟩ := s4'.shape
  subst e3
  clear k4 s4' f1 f2
  rcases hullH_small hs_l (by omega) with ⟨hf, he⟩ | ⟨r, hh, he, hcv, hsr⟩
  · rw [he]
    clear hf he hs_l hs_m h30_l h30_m
    go_wp2_with fail
    go_ret
    exact ⟨rfl, HK4.out⟩
  rw [he] at HS40 ⊢
  simp only at HS40
  obtain ⟨rn, hrn⟩ : ∃ x, r.length = x := ⟨_, rfl⟩
  have hr15 : rn ≤ 15 := by rw [← hrn]; have := hull_sub hh (fun _ h => h); have := H15.out.1; rw [HN.out] at *; omega
  have hr3 : 3 ≤ rn := by rw [← hrn]; exact hh.conv.1
  have HRN := Lib.hid hrn
  have HS4 := Lib.hid (show SrcV w4 (.slice A3 rn c3) r from hrn ▸ HS40.out)
  have HR4 := Lib.hid (src_n (show SrcV w4 (.slice A3 r.length c3) r from HS40.out) hrn)
  have hmx3 := src_max HR4.out
  rw [hrn]
  have HHH := Lib.hid hh
  have HSR := Lib.hid hsr
  have hro := again_rot (t := tn) hh hsr (by omega)
  have hre := again_rev hh hs_l h30_l
  rw [hrn] at hro
  have HRO := Lib.hid hro
  have HRE := Lib.hid hre
  have HRL := Lib.hid (rotT_len r tn rn)
  have hbt : ∀ s, HullP m s → allS s = true → s.length ≤ 30 → ∃ x, hullH (l ++ m) = (x, 0) ∧ hullH (r ++ s) = (x, 0) := fun s g hs h4 => again_both hh g hs_l hs_m hsr hs h30_l h30_m (by omega) h4
  have HBT := Lib.hid hbt
  have H30M := Lib.hid h30_m
  have a0 : IntKind.i64.wrap (tn : Int) = (tn : Int) := by have := HTN.out; rw [IntKind.wrap_i64]; omega
  clear hs_l hs_m h30_l h30_m he hh hcv hsr hro hre hbt hrn HS40 chl
  go_wp2_with fail
  go_loopw [9, 11] (fun ov i wr => ∃ k : Nat, i = .int .i64 k ∧ k ≤ rn ∧ wr.ownsRow w4.heap.size 32 2 ov (2 * k) ((rotT r tn k).flatMap vC) ∧ Nw w4 wr) (fun ov i _ => rn - (intOf i).toNat)
  case atStart => exact ⟨0, rfl, Nat.zero_le _, World.ownsRow_nil _ _ _ _, Kp.refl _ _⟩
  case round =>
    obtain ⟨k, rfl, hk, hown, hnw⟩ := hrel
    obtain ⟨A6, c6, rfl⟩ := (own_src hown).shape
    have HO := Lib.hid hown
    have HK := Lib.hid hnw
    clear hown hnw
    by_cases hkn : k < rn
    · have i0 : (0 : Int) ≤ (k : Int) := by omega
      have i1 : (k : Int) < (rn : Int) := by omega
      have hn0 : 0 < rn := by omega
      obtain ⟨s4, hs4⟩ : ∃ s : Nat, k + 1 = s := ⟨_, rfl⟩
      have a4 : IntKind.i64.wrap ((k : Int) + 1) = (s4 : Int) := by rw [IntKind.wrap_i64]; omega
      have H4 := Lib.hid hs4
      obtain ⟨s6, hs6⟩ : ∃ s : Nat, k + tn = s := ⟨_, rfl⟩
      have a6 : IntKind.i64.wrap ((k : Int) + (tn : Int)) = (s6 : Int) := by have := HTN.out; rw [IntKind.wrap_i64]; omega
      obtain ⟨s5, hs5⟩ : ∃ s : Nat, (k + tn) % rn = s := ⟨_, rfl⟩
      have l5 : s5 < rn := by rw [← hs5]; exact Nat.mod_lt _ hn0
      have a5 : (s6 : Int).tmod (rn : Int) = (s5 : Int) := by rw [tmod_nat, ← hs6, hs5]
      have z0 : ¬ (rn = 0) := by omega
      have b4 : (0 : Int) ≤ (s5 : Int) := by omega
      have b5 : (s5 : Int) < (rn : Int) := by omega
      obtain ⟨g, o, e0, hg, hc⟩ := src_at HR4.out (by omega)
      subst e0
      obtain ⟨⟨ax, ay⟩, ha⟩ : ∃ p, at_ r s5 = p := ⟨_, rfl⟩
      obtain ⟨⟨bx, bz⟩, hb⟩ : ∃ p, at_ r k = p := ⟨_, rfl⟩
      obtain ⟨y0, y1⟩ := hc wr HK.out s5 l5
      obtain ⟨y2, y3⟩ := hc wr HK.out k hkn
      rw [ha] at y0 y1
      rw [hb] at y2 y3
      have HTK := Lib.hid (show rotT r tn (k + 1) = rotT r tn k ++ [(ax, ay), (bx, bz)] by show rotT r tn k ++ [at_ r ((k + tn) % r.length), at_ r k] = _; rw [HRN.out, hs5, ha, hb])
      have hB := HK.out.size
      have hk15 := hr15
      clear hs4 hs6 hs5 hc hg ha hb
      go_upto_region 12 with fail
      go_region_law (refine step_appG (by rfl) (.tmp 56) (.tmp 71) 22 32 2 16 (.agg #[.int .i64 0, .int .i64 0]) (by rfl) Try.underlying22 infoP rfl (by omega) w4.heap.size (2 * k) 2 (.slice A6 (2 * k) c6) (.slice (some ⟨wr.heap.size, 0, none⟩) 2 2) ((rotT r tn k).flatMap vC) ([((ax, ay) : Int × Int), (bx, bz)].flatMap vC) (by rfl) (own_nw HO.out ((nw_alloc _ _).drew)) (by rfl) (src_blk (l := [((ax, ay) : Int × Int), (bx, bz)]) (Blk.new _ _ _).drew (by simp)) (flat_one _) (by omega) (by omega) (by simp; omega) ?_; intro v6 w6 own6 gr6)
      all_goals (
        have HK6 := Lib.hid (gr6.nw (HK.out.alloc _).drew (own_from HO.out))
        have HO6 := Lib.hid own6
        clear own6 gr6 y0 y1 y2 y3
        go_wp2_with fail
        go_roundw
        case rel =>
          refine ⟨k + 1, by rw [← H4.out], by omega, ?_, HK6.out⟩
          rw [HTK.out, List.flatMap_append, show 2 * (k + 1) = 2 * k + 2 by omega]
          exact HO6.out
        case measure => (have := H4.out; simp [intOf]; try omega))
    · obtain rfl : k = rn := by omega
      have i5 : ¬ ((k : Int) < (k : Int)) := by omega
      have hsr2 : SrcV wr (.slice A6 (2 * k) c6) (rotT r tn k) := by
        show Src _ 2 _ (rotT r tn k).length _
        rw [HRL.out]
        exact own_src HO.out
      have HROT := Lib.hid hsr2
      have HK5 := Lib.hid (HK4.out.tr HK.out)
      have HKr := Lib.hid HK.out
      obtain ⟨w5, hw5⟩ : ∃ x, x = wr := ⟨_, rfl⟩
      subst hw5
      have e0 : IntKind.i64.wrap ((n : Int) - 1) = (n : Int) - 1 := by have := H15.out; rw [IntKind.wrap_i64]; omega
      clear hsr2 HO HK
      go_wp2_with fail
      clear i5
      go_loopw [10, 12] (fun ov i wr => ∃ (q : Nat) (x : Int), i = .int .i64 x ∧ x = (q : Int) - 1 ∧ q ≤ n ∧ wr.ownsRow w5.heap.size 32 2 ov (n - q) (((l.drop q).reverse).flatMap vC) ∧ Nw w5 wr) (fun ov i _ => (intOf i + 1).toNat)
      case atStart => exact ⟨n, (n : Int) - 1, rfl, rfl, Nat.le_refl _, by rw [List.drop_of_length_le (by rw [HN.out]; exact Nat.le_refl _), Nat.sub_self]; exact World.ownsRow_nil _ _ _ _, Kp.refl _ _⟩
      case round =>
        obtain ⟨q, x, rfl, hx, hq, hown, hnw⟩ := hrel
        obtain ⟨A7, c7, rfl⟩ := (own_src hown).shape
        have HO := Lib.hid hown
        have HK := Lib.hid hnw
        clear hown hnw
        rcases Nat.eq_zero_or_pos q with h0 | h0
        · subst h0
          have hx0 : ¬ (0 ≤ x) := by omega
          have hx1 : decide (0 ≤ x) = false := decide_eq_false hx0
          have hrv : SrcV wr (.slice A7 n c7) l.reverse := by
            have h := own_src HO.out
            rw [List.drop_zero] at h
            show Src _ 2 _ l.reverse.length _
            rw [List.length_reverse, HN.out]
            exact h
          have HREV := Lib.hid hrv
          have HK6 := Lib.hid (HK5.out.tr HK.out)
          have HK45 := Lib.hid (HKr.out.tr HK.out)
          have HK56 := Lib.hid HK.out
          simp only [Nat.sub_zero]
          obtain ⟨w6, hw6⟩ : ∃ x, x = wr := ⟨_, rfl⟩
          subst hw6
          have cro := hull_any (rotT r tn k) (.slice A6 (2 * k) c6) w6 (HROT.out.nw HK.out)
          have cre := fun w1 (h : Nw w6 w1) => hull_any l.reverse (.slice A7 n c7) w1 (HREV.out.nw h)
          rw [HRO.out] at cro
          rw [HRE.out] at cre
          simp only at cro cre
          clear hx hrv HO HK
          go_wp2_with fail
          refine cro.mono ?_
          rintro e w7 ⟨v7, rfl, s7, k7⟩
          obtain ⟨A8, c8, e8⟩ := s7.shape
          subst e8
          have HS7 := Lib.hid s7
          have HK7 := Lib.hid k7
          clear s7 k7 cro
          go_wp2_with fail
          refine (cre _ HK7.out).mono ?_
          rintro e w8 ⟨v8, rfl, s8, k8⟩
          obtain ⟨A9, c9, e9⟩ := s8.shape
          subst e9
          have HS8 := Lib.hid s8
          have HK8 := Lib.hid (HK7.out.tr k8)
          have csa := same_any r _ _ w8 (HS7.out.nw k8) (HS4.out.nw (HK45.out.tr HK8.out))
          have csb := fun w1 (h : Nw w8 w1) => same_any r _ _ w1 (HS8.out.nw h) (HS4.out.nw (HK45.out.tr (HK8.out.tr h)))
          clear s8 k8 cre
          go_wp2_with fail
          refine csa.mono ?_
          rintro e w9 ⟨rfl, k9⟩
          clear csa
          go_wp2_with fail
          refine (csb _ k9).mono ?_
          rintro e w10 ⟨rfl, k10⟩
          have HK10 := Lib.hid (HK8.out.tr (k9.tr k10))
          clear csb k9 k10
          go_wp2_with fail
          refine (chm _ (HK6.out.tr HK10.out)).mono ?_
          rintro e w11 ⟨v11, rfl, s11, k11⟩
          have HK11 := Lib.hid (HK10.out.tr k11)
          have HS110 := Lib.hid s11
          obtain ⟨A12, c12, e12⟩ := s11.shape
          subst e12
          clear s11 k11 chm
          rcases hullH_small HSMM.out (by have := H30M.out; omega) with ⟨hf2, he2⟩ | ⟨s, hh2, he2, hcv2, hsr2⟩
          · rw [he2]
            clear hf2 he2
            go_wp2_with fail
            go_ret
            exact ⟨rfl, HK6.out.tr HK11.out⟩
          rw [he2] at HS110 ⊢
          simp only at HS110
          obtain ⟨sn, hsn⟩ : ∃ x, s.length = x := ⟨_, rfl⟩
          have hs15 : sn ≤ 15 := by rw [← hsn]; have := hull_sub hh2 (fun _ h => h); have := H15.out.2; rw [HN2.out] at *; omega
          have HSN := Lib.hid hsn
          rw [hsn]
          have HS11 := Lib.hid (show Src w11 2 (.slice A12 sn c12) sn (s.flatMap vC) from (src_n (show SrcV w11 (.slice A12 s.length c12) s from HS110.out) hsn))
          obtain ⟨xx, hx1', hx2'⟩ := HBT.out s hh2 hsr2 (by omega)
          have HX1 := Lib.hid hx1'
          have HX2 := Lib.hid hx2'
          clear he2 hh2 hcv2 hsr2 hsn hx1' hx2' HS110
          have HSL11 := Lib.hid (show Src w11 2 (.slice A n c) n (l.flatMap vC) from Src.nw HV.out (HK6.out.tr HK11.out))
          have HSM11 := Lib.hid (show Src w11 2 (.slice B n2 d) n2 (m.flatMap vC) from Src.nw HU.out (HK6.out.tr HK11.out))
          have HSR11 := Lib.hid (show Src w11 2 (.slice A3 k c3) k (r.flatMap vC) from Src.nw HR4.out (HK45.out.tr HK11.out))
          obtain ⟨hn15, hm15⟩ := H15.out
          go_wp2_with (first
            | (at_builtin; refine wp_appG rfl (.tmp 123) (.tmp 124) 22 32 2 16 (.agg #[.int .i64 0, .int .i64 0]) rfl Try.underlying22 infoP rfl (by omega) w11.heap.size 0 n (.slice (some ⟨w11.heap.size, 0, none⟩) 0 0) (.slice A n c) [] (l.flatMap vC) rfl (own_empty w11 w11.heap.size (Nat.le_refl _)) rfl (HSL11.out.nw (nw_alloc _ _)) (flat_one _) (by omega) (by omega) (by simp) ?_; intro v13 w13 own13 gr13; (have hN13 : Nw w11 w13 := gr13.nw (nw_alloc _ _) (fun k e => by have e1 : w11.heap.size = k := (by simpa [Value.ownBlock] using e); omega)); (have ow13 : w13.ownsRow w11.heap.size 32 2 v13 n (l.flatMap vC) := by simpa using own13); clear own13 gr13; (obtain ⟨A13, c13, rfl⟩ := (own_src ow13).shape))
            | (at_builtin; refine wp_appG rfl (.tmp 125) (.tmp 126) 22 32 2 16 (.agg #[.int .i64 0, .int .i64 0]) rfl Try.underlying22 infoP rfl (by omega) w11.heap.size n n2 (.slice A13 n c13) (.slice B n2 d) (l.flatMap vC) (m.flatMap vC) rfl ow13 rfl (HSM11.out.nw hN13) (flat_one _) (by omega) (by omega) hN13.size ?_; intro v14 w14 own14 gr14; (have hN14 : Nw w11 w14 := gr14.nw hN13 (own_from ow13)); clear gr14; (obtain ⟨A14, c14, rfl⟩ := (own_src own14).shape)))
          have hs14 : SrcV w14 (.slice A14 (n + n2) c14) (l ++ m) := by
            have := own_src own14
            rw [← List.flatMap_append] at this
            show Src _ 2 _ (l ++ m).length _
            rw [List.length_append, HN.out, HN2.out]
            exact this
          have chb := hull_any (l ++ m) _ w14 hs14
          rw [HX1.out] at chb
          simp only at chb
          have HK14 := Lib.hid hN14
          clear hs14 own14 ow13 hN13 hN14
          refine chb.mono ?_
          rintro e w15 ⟨v15, rfl, s15, k15⟩
          obtain ⟨A15, c15, e15⟩ := s15.shape
          subst e15
          have HK15 := Lib.hid (HK14.out.tr k15)
          have HS15 := Lib.hid s15
          have HSR15 := Lib.hid (HSR11.out.nw HK15.out)
          have HSS15 := Lib.hid (HS11.out.nw HK15.out)
          clear s15 k15 chb
          go_wp2_with (first
            | (at_builtin; refine wp_appG2 rfl (.tmp 132) (.tmp 133) 22 25 32 2 16 (.agg #[.int .i64 0, .int .i64 0]) rfl Try.underlying22 Try.underlying25 infoP rfl (by omega) w15.heap.size 0 k (.slice (some ⟨w15.heap.size, 0, none⟩) 0 0) (.slice A3 k c3) [] (r.flatMap vC) rfl (own_empty w15 w15.heap.size (Nat.le_refl _)) rfl (HSR15.out.nw (nw_alloc _ _)) (flat_one _) (by omega) (by omega) (by simp) ?_; intro v16 w16 own16 gr16; (have hN16 : Nw w15 w16 := gr16.nw (nw_alloc _ _) (fun k e => by have e1 : w15.heap.size = k := (by simpa [Value.ownBlock] using e); omega)); (have ow16 : w16.ownsRow w15.heap.size 32 2 v16 k (r.flatMap vC) := by simpa using own16); clear own16 gr16; (obtain ⟨A16, c16, rfl⟩ := (own_src ow16).shape))
            | (at_builtin; refine wp_appG2 rfl (.tmp 134) (.tmp 135) 22 25 32 2 16 (.agg #[.int .i64 0, .int .i64 0]) rfl Try.underlying22 Try.underlying25 infoP rfl (by omega) w15.heap.size k sn (.slice A16 k c16) (.slice A12 sn c12) (r.flatMap vC) (s.flatMap vC) rfl ow16 rfl (HSS15.out.nw hN16) (flat_one _) (by omega) (by omega) hN16.size ?_; intro v17 w17 own17 gr17; (have hN17 : Nw w15 w17 := gr17.nw hN16 (own_from ow16)); clear gr17; (obtain ⟨A17, c17, rfl⟩ := (own_src own17).shape)))
          have hs17 : SrcV w17 (.slice A17 (k + sn) c17) (r ++ s) := by
            have := own_src own17
            rw [← List.flatMap_append] at this
            show Src _ 2 _ (r ++ s).length _
            rw [List.length_append, HRN.out, HSN.out]
            exact this
          have chd := hull_any (r ++ s) _ w17 hs17
          rw [HX2.out] at chd
          simp only at chd
          have HK17 := Lib.hid hN17
          clear hs17 own17 ow16 hN16 hN17
          refine chd.mono ?_
          rintro e w18 ⟨v18, rfl, s18, k18⟩
          obtain ⟨A18, c18, e18⟩ := s18.shape
          subst e18
          have HK18 := Lib.hid (HK17.out.tr k18)
          have csc := same_any xx _ _ w18 (HS15.out.nw HK18.out) s18
          clear s18 k18 chd
          go_wp2_with fail
          refine csc.mono ?_
          rintro e w19 ⟨rfl, k19⟩
          go_wp2_with fail
          go_ret
          exact ⟨rfl, HK6.out.tr (HK11.out.tr (HK15.out.tr (HK18.out.tr k19)))⟩
        · obtain ⟨J, hJ⟩ : ∃ J, q = J + 1 := ⟨q - 1, by omega⟩
          subst hJ
          obtain rfl : x = (J : Int) := by omega
          have i0 : (0 : Int) ≤ (J : Int) := by omega
          have i1 : (J : Int) < (n : Int) := by omega
          have e1 : IntKind.i64.wrap ((J : Int) - 1) = (J : Int) - 1 := by have := H15.out; rw [IntKind.wrap_i64]; omega
          obtain ⟨g, o, e0', hg, hc⟩ := src_at HV.out (by omega)
          subst e0'
          obtain ⟨⟨ax, ay⟩, ha⟩ : ∃ p, at_ l J = p := ⟨_, rfl⟩
          obtain ⟨y0, y1⟩ := hc wr (HK5.out.tr HK.out) J (by omega)
          rw [ha] at y0 y1
          have hdr : (l.drop J).reverse = (l.drop (J + 1)).reverse ++ [(ax, ay)] := by
            have hJl : J < l.length := by rw [HN.out]; omega
            have : l[J] = (ax, ay) := by
              have h := at_some hJl
              rw [ha] at h
              exact (List.getElem?_eq_some_iff.1 h).2
            rw [List.drop_eq_getElem_cons hJl, List.reverse_cons, this]
          have HDR := Lib.hid hdr
          have hB := HK.out.size
          have hq1 : n - (J + 1) + 1 = n - J := by omega
          have hq2 : n - (J + 1) ≤ 15 := by have := H15.out; omega
          clear hc hg ha hdr hx
          generalize hqq : n - (J + 1) = qz at *
          clear hqq
          go_wp2_with (at_builtin; refine wp_pushG rfl (.tmp 80) (.tmp 85) 22 32 2 16 (.agg #[.int .i64 0, .int .i64 0]) rfl Try.underlying22 infoP rfl (by omega) w5.heap.size qz _ _ [.int .i64 ax, .int .i64 ay] (by rfl) HO.out rfl (by intro u hu; simp at hu; rcases hu with rfl | rfl <;> rfl) (by rfl) (by omega) (by omega) hB ?_; intro v6 w6 own6 gr6)
          have HK6 := Lib.hid (gr6.nw HK.out (own_from HO.out))
          have HO6 := Lib.hid own6
          clear own6 gr6 y0 y1
          go_wp2_with fail
          go_roundw
          case rel =>
            refine ⟨J, (J : Int) - 1, rfl, rfl, by omega, ?_, HK6.out⟩
            rw [HDR.out, List.flatMap_append, ← hq1]
            exact HO6.out
          case measure => (simp [intOf]; try omega)

end Go.Proofs.Ythbgapcplgigoaa.W
