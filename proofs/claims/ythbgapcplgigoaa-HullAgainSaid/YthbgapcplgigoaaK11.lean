/-
  hull: the closure of bothChains: it adds the chain of the points to the ring. Conditions: the points are within the limits, and lie in a block that is not the ring's.
-/
import Derived.Test.YthbgapcplgigoaaK09
import Derived.Test.YthbgapcplgigoaaK10
namespace Go.Proofs.Ythbgapcplgigoaa.W
open Go.RowKit Go.Proofs.Ythbgapcplgigoaa.V Go.Proofs.Ythbgapcplgigoaa.G


theorem elemR : Try.prog.elem 25 = 32 := by kernel_rfl
theorem run_cutR (W : World) (g m c s : Nat) (h : s ≤ c) : (Instr.slice 25 (.slice (some ⟨g, 0, none⟩) m c) none (some (.int .i64 (s : Int))) none).run Try.prog W = .ok (.slice (some ⟨g, 0, none⟩) s c) W := by
  rw [run_slice_h W 25 (some ⟨g, 0, none⟩) m c (by rw [elemR]; exact Try.underlying25) .i64 (s : Int) (by omega) (by omega), elemR, run_size infoP]
  simp [Result.andThen, sliced, Addr.add]
theorem run_cut0 (W : World) : (Instr.slice 25 (.slice none 0 0) none (some (.int .i64 ((0 : Nat) : Int))) none).run Try.prog W = .ok (.slice none 0 0) W := by
  rw [run_slice_h W 25 none 0 0 (by rw [elemR]; exact Try.underlying25) .i64 ((0 : Nat) : Int) (by omega) (by omega), elemR, run_size infoP]
  simp [Result.andThen, sliced]
/-- how long the slice in a box is -/
def rlen (R : Nat) (w : World) : Nat := match w.cell? ⟨R, 0, none⟩ with
  | some (.slice _ n _) => n
  | _ => 0
theorem rlen_eq {R : Nat} {w : World} {t : TypeId} {A : Option Addr} {n c : Nat} (h : Blk w R t #[.slice A n c]) : rlen R w = n := by
  unfold rlen
  rw [h.cell 0]
  rfl
theorem rev_pre (base T : List Pt) (b : Pt) : (base ++ (b :: T).reverse).take (base.length + T.length) = base ++ T.reverse := by
  rw [List.reverse_cons, ← List.append_assoc]
  refine List.take_left' ?_
  simp
theorem rev_at1 (base T : List Pt) (b : Pt) : at_ (base ++ (b :: T).reverse) (base.length + T.length) = b := by
  refine at_of ?_
  rw [List.reverse_cons, ← List.append_assoc, List.getElem?_append_right (by simp)]
  simp
theorem rev_at2 (base T : List Pt) (a b : Pt) : at_ (base ++ (b :: a :: T).reverse) (base.length + T.length) = a := by
  have h := rev_at1 base T a
  rw [show base ++ (b :: a :: T).reverse = (base ++ (a :: T).reverse) ++ [b] by simp]
  refine at_of ?_
  have g := at_some (l := base ++ (a :: T).reverse) (i := base.length + T.length) (by simp)
  rw [h] at g
  rw [List.getElem?_append_left (by simp), g]
theorem pop_len (p : Pt) : ∀ S : List Pt, (popC p S).length ≤ S.length
  | [] => Nat.le_refl _
  | [_] => Nat.le_refl _
  | b :: a :: r => by
    unfold popC
    split
    · exact Nat.le_trans (pop_len p (a :: r)) (Nat.le_succ _)
    · exact Nat.le_refl _
theorem fold_sub {P : Pt → Prop} : ∀ (l S : List Pt), (∀ x ∈ S, P x) → (∀ x ∈ l, P x) → (∀ x ∈ l.foldl stepC S, P x) ∧ (l.foldl stepC S).length ≤ S.length + l.length
  | [], S, h, _ => ⟨h, Nat.le_refl _⟩
  | p :: l, S, h, hl => by
    obtain ⟨a, b⟩ := fold_sub l (stepC S p) (fun x hx => by
      rcases List.mem_cons.1 hx with rfl | hx
      · exact hl _ List.mem_cons_self
      · exact h x (popC_mem S hx)) (fun x hx => hl x (List.mem_cons_of_mem _ hx))
    refine ⟨a, ?_⟩
    have := pop_len p S
    have e : (stepC S p).length = (popC p S).length + 1 := rfl
    rw [List.foldl_cons, List.length_cons]
    omega
theorem rev_len (base T : List Pt) : (base ++ T.reverse).length = base.length + T.length := by simp
theorem rev_end (base : List Pt) (S : List Pt) (h : S ≠ []) : (base ++ S.reverse).take (base.length + S.length - 1) = base ++ S.reverse.dropLast := by
  cases S with
  | nil => exact absurd rfl h
  | cons b T =>
    rw [List.length_cons, show base.length + (T.length + 1) - 1 = base.length + T.length by omega, rev_pre]
    simp

set_option maxRecDepth 100000 in
set_option maxHeartbeats 12800000 in
theorem addChain_any (R P B : Nat) (rv pv : Value) (base pts : List Pt) (w : World) (hR : Blk w R 25 #[rv]) (hP : Blk w P 22 #[pv]) (hRB : R < B) (hB : B ≤ w.heap.size) (hrow : OwnVV w B rv base) (hsrc : SrcV w pv pts)
    (hsB : ∀ g, pv.ownBlock = some g → 0 < pts.length → g < B ∧ g ≠ R) (hlen : base.length + pts.length ≤ 1000) (hs : allS pts = true) :
    Calls Try.prog 55 #[.pointer (some ⟨R, 0, none⟩), .pointer (some ⟨P, 0, none⟩)] w fun e w' => e = .returned (.tuple #[]) ∧ ∃ rv', Blk w' R 25 #[rv'] ∧ OwnVV w' B rv' (base ++ (chainC pts).reverse.dropLast) ∧ Kp (fun k => k = R ∨ B ≤ k) w w' := by
  have hmix := mixed7
  obtain ⟨A, c, rfl⟩ := hsrc.shape
  obtain ⟨Ar, cr, rfl⟩ := hrow.src.shape
  obtain ⟨n, hn⟩ : ∃ n, pts.length = n := ⟨_, rfl⟩
  obtain ⟨f, hf⟩ : ∃ n, base.length = n := ⟨_, rfl⟩
  replace hsrc := src_n hsrc hn
  obtain ⟨out, hout⟩ : ∃ o, base ++ (chainC pts).reverse.dropLast = o := ⟨_, rfl⟩
  rw [hout]
  have HOUT := Lib.hid (show base ++ (pts.foldl stepC []).reverse.dropLast = out from hout)
  clear hout
  rw [hn] at hP hlen
  rw [hf] at hR hlen
  rw [hn] at hsB
  have HSB := Lib.hid hsB
  have HV := Lib.hid hsrc
  have HN := Lib.hid hn
  have HF := Lib.hid hf
  have HLN := Lib.hid hlen
  have HSS := Lib.hid hs
  have HRB := Lib.hid hRB
  have HBS := Lib.hid hB
  have hmx := src_max hsrc
  have HR := Lib.hid hR
  have HOR := Lib.hid (show OwnVV w B (.slice Ar f cr) base from hf ▸ hrow)
  obtain ⟨r0, r1⟩ := hR.one
  obtain ⟨p0, p1⟩ := hP.one
  obtain ⟨f2, hf2⟩ : ∃ x, f + 2 = x := ⟨_, rfl⟩
  have af : IntKind.i64.wrap ((f : Int) + 2) = (f2 : Int) := by rw [IntKind.wrap_i64]; omega
  have HF2 := Lib.hid hf2
  clear hsB hsrc hn hf hlen hs hRB hB hR hP hrow hf2
  go_enter Try.func55, Try.ntmps55
  go_wp2_with fail
  clear r0 r1 p0 p1
  go_loopw [9] (fun i wr => ∃ (k : Nat) (rv' : Value) (S : List Pt), i = .int .i64 k ∧ k ≤ n ∧ S = (pts.take k).foldl stepC [] ∧ Blk wr R 25 #[rv'] ∧ OwnVV wr B rv' (base ++ S.reverse) ∧ Kp (fun j => j = R ∨ B ≤ j) w wr) (fun i _ => n - (intOf i).toNat)
  case atStart => exact ⟨0, _, [], rfl, Nat.zero_le _, rfl, HR.out, by simpa using HOR.out, Kp.refl _ _⟩
  case round =>
    obtain ⟨k, rv', S, rfl, hk, hS, hbr, how, hkp⟩ := hrel
    have HS := Lib.hid hS
    have HBR := Lib.hid hbr
    have HOW := Lib.hid how
    have HKP := Lib.hid hkp
    clear hS hbr how hkp
    by_cases hkn : k < n
    · have i0 : (0 : Int) ≤ (k : Int) := by omega
      have i1 : (k : Int) < (n : Int) := by omega
      obtain ⟨s4, hs4⟩ : ∃ s : Nat, k + 1 = s := ⟨_, rfl⟩
      have a4 : IntKind.i64.wrap ((k : Int) + 1) = (s4 : Int) := by rw [IntKind.wrap_i64]; omega
      have H4 := Lib.hid hs4
      obtain ⟨⟨px, py⟩, hp⟩ : ∃ p, at_ pts k = p := ⟨_, rfl⟩
      have hsw : SrcN wr A n c pts := Src.kp HV.out HKP.out (fun g _ e => by
        obtain ⟨h1, h2⟩ := HSB.out g e (by omega)
        intro h
        rcases h with h | h
        · exact h2 h
        · omega)
      obtain ⟨g0, o0, rfl, hg0, hc0⟩ := src_at hsw (by omega)
      obtain ⟨y0, y1⟩ := hc0 wr (Kp.refl _ _) k hkn
      rw [hp] at y0 y1
      have HP := Lib.hid hp
      clear hs4 hp hsw hg0 hc0
      go_upto_region 4 with fail
      generalize hwb : World.alloc _ (.cells #[.int .i64 px, .int .i64 py] _) = wb
      obtain ⟨TT, hTT⟩ : ∃ x, wr.heap.size = x := ⟨_, rfl⟩
      have HBT := Lib.hid (show Blk wb TT 32 #[.int .i64 px, .int .i64 py] by rw [← hwb, ← hTT]; exact Blk.new _ _ _)
      have HTB := Lib.hid (show B ≤ TT by have := HKP.out.size; have := HBS.out; omega)
      have HWB := Lib.hid (show Nw wr wb by rw [← hwb]; exact nw_alloc _ _)
      have HKB := Lib.hid (HKP.out.tr (Nw.kp HWB.out))
      rw [hTT]
      clear hwb y0 y1 hTT
      have HSM := Lib.hid (show (∀ x ∈ S, x ∈ pts) ∧ S.length ≤ k from by
        rw [HS.out]
        obtain ⟨a, b⟩ := fold_sub (P := fun x => x ∈ pts) (pts.take k) [] (fun x hx => by cases hx) (fun x hx => List.mem_of_mem_take hx)
        exact ⟨a, by rw [List.length_take] at b; simp at b; omega⟩)
      go_loopw [] (fun wx => ∃ (rv' : Value) (T' : List Pt), popC (px, py) T' = popC (px, py) S ∧ (∀ x ∈ T', x ∈ pts) ∧ T'.length ≤ k ∧ Blk wx R 25 #[rv'] ∧ OwnVV wx B rv' (base ++ T'.reverse) ∧ Blk wx TT 32 #[.int .i64 px, .int .i64 py] ∧ Kp (fun j => j = R ∨ B ≤ j) w wx) (fun wx => rlen R wx)
      case atStart => exact ⟨rv', S, rfl, HSM.out.1, HSM.out.2, HBR.out.kp HWB.out id, HOW.out.nw HWB.out, HBT.out, HKB.out⟩
      case round =>
        obtain ⟨rv2, T', hpt, hmem, hlt, hbr, how, hbt, hkp⟩ := hrel
        obtain ⟨A', c', rfl⟩ := how.src.shape
        obtain ⟨m, hm⟩ : ∃ m, (base ++ T'.reverse).length = m := ⟨_, rfl⟩
        have hm2 := rev_len base T'
        rw [hm, HF.out] at hm2
        rw [hm] at hbr
        have HM := Lib.hid hm
        have HPT := Lib.hid hpt
        have HBX := Lib.hid hbr
        have HOX := Lib.hid (show OwnVV wr B (.slice A' m c') (base ++ T'.reverse) from hm ▸ how)
        have HBTX := Lib.hid hbt
        have HKX := Lib.hid hkp
        have HLL := Lib.hid (show m + 1 ≤ 1000 by have := HLN.out; omega)
        have HLM := Lib.hid (show (base ++ T'.reverse).length + 1 ≤ 1000 by rw [HM.out]; exact HLL.out)
        have qr := fun p : KeptW wr => (HBX.out.kept p).cell 0
        have HNO := Lib.hid (show ¬ (Value.slice A' m c').ownBlock = some R from fun e => by have := own_from HOX.out R e; have := HRB.out; omega)
        clear hm hpt hbr how hbt hkp
        obtain ⟨wx, rfl⟩ : ∃ x, x = wr := ⟨_, rfl⟩
        rcases T' with _ | ⟨⟨bx, bz⟩, _ | ⟨⟨ax, ay⟩, r⟩⟩
        · have hge : ¬ (f2 ≤ m) := by have := HF2.out; simp at hm2; omega
          have hgd : decide (f2 ≤ m) = false := decide_eq_false hge
          have HPE := Lib.hid (show popC (px, py) ([] : List Pt) = [] from rfl)
          clear hm2
          go_upto_region 4 with fail
          refine wp_region_kept (Kp.refl _ _) (by assumption) (by kernel_rfl) ?_
          repeat (with_reducible refine wpQuiet_step (fun K hK => ?_); go_simp; first | ((with_reducible refine hK _ ?_); clear hK K) | (with_reducible apply Exists.intro; (with_reducible refine ⟨fun _ => ?_, hK _ ?_⟩); (fail); clear hK K) | (simp only [undef, reduceCtorEq, if_false]; (with_reducible refine hK _ ?_); clear hK K))
          with_reducible refine wpQuiet_nil ?_
          rintro _ ⟨p, rfl⟩
          have HBR := Lib.hid (HBX.out.kp p.since id)
          have HOW := Lib.hid (HOX.out.nw p.since)
          have HBT := Lib.hid (HBTX.out.kp p.since id)
          have HKY := Lib.hid (HKX.out.tr (Nw.kp p.since))
          generalize p.wd = wy at HBR HOW HBT HKY ⊢
          have HOWM := Lib.hid (show World.ownsRow wy B 32 2 _ m (flat vC _) from by
            have h := HOW.out
            unfold OwnVV at h
            rw [HM.out] at h
            exact h)
          clear qr
          obtain ⟨r0, r1⟩ := HBR.out.one
          obtain ⟨e0, e1, _, _⟩ := HBT.out.two
          have hsz : B ≤ wy.heap.size := Nat.le_trans HBS.out HKY.out.size
          have hlen1 := HLL.out
          go_wp2_with (first
            | (at_builtin; refine wp_pushG rfl (.tmp 40) (.tmp 42) 25 32 2 16 (.agg #[.int .i64 0, .int .i64 0]) rfl Try.underlying25 infoP rfl (by omega) B m _ (flat vC (base ++ ([] : List Pt).reverse)) [.int .i64 px, .int .i64 py] rfl HOWM.out rfl ?_ rfl ?_ ?_ hsz ?_; (intro u hu; simp at hu; rcases hu with rfl | rfl <;> rfl); omega; omega; intro v5 w5 own5 gr5; (have hb5 := HBR.out.kp gr5.by_ (fun e => HNO.out e)); (obtain ⟨d7, g7⟩ := hb5.one); (obtain ⟨A', c', rfl⟩ := (own_src own5).shape)))
          have HB5 := Lib.hid hb5
          have HO5 := Lib.hid own5
          have HK5 := Lib.hid (HKY.out.trans gr5.by_ (fun j hj e => .inr (own_from HOW.out j e)))
          clear own5 hb5
          go_roundw
          case rel =>
            refine ⟨k + 1, _, (px, py) :: ([] : List Pt), by rw [← H4.out], by omega, ?_, HB5.out.set_ 0 _, ?_, ?_⟩
            · rw [take_at (by rw [HN.out]; exact hkn), List.foldl_append, ← HS.out, HP.out]
              show _ = (px, py) :: popC (px, py) S
              rw [← HPT.out, HPE.out]
            · have hx := HO5.out
              have hx2 : OwnVV w5 B (.slice A' (m + 1) c') (base ++ ((px, py) :: ([] : List Pt)).reverse) := by
                unfold OwnVV
                rw [show base ++ ((px, py) :: ([] : List Pt)).reverse = (base ++ ([] : List Pt).reverse) ++ [(px, py)] by simp, List.length_append, flat_app, HM.out]
                exact hx
              exact hx2.kp (kp_set w5 R 0 _) (fun g e e2 => by
                have := own_from hx g e
                rw [e2] at this
                exact absurd HRB.out (by omega))
            · exact HK5.out.trans (kp_set w5 R 0 _) (fun j hj e => .inl e)
          case measure => (have := H4.out; simp [intOf]; try omega)
        · have hge : ¬ (f2 ≤ m) := by have := HF2.out; simp at hm2; omega
          have hgd : decide (f2 ≤ m) = false := decide_eq_false hge
          have HPE := Lib.hid (show popC (px, py) [((bx, bz) : Pt)] = [(bx, bz)] from rfl)
          clear hm2
          go_upto_region 4 with fail
          refine wp_region_kept (Kp.refl _ _) (by assumption) (by kernel_rfl) ?_
          repeat (with_reducible refine wpQuiet_step (fun K hK => ?_); go_simp; first | ((with_reducible refine hK _ ?_); clear hK K) | (with_reducible apply Exists.intro; (with_reducible refine ⟨fun _ => ?_, hK _ ?_⟩); (fail); clear hK K) | (simp only [undef, reduceCtorEq, if_false]; (with_reducible refine hK _ ?_); clear hK K))
          with_reducible refine wpQuiet_nil ?_
          rintro _ ⟨p, rfl⟩
          have HBR := Lib.hid (HBX.out.kp p.since id)
          have HOW := Lib.hid (HOX.out.nw p.since)
          have HBT := Lib.hid (HBTX.out.kp p.since id)
          have HKY := Lib.hid (HKX.out.tr (Nw.kp p.since))
          generalize p.wd = wy at HBR HOW HBT HKY ⊢
          have HOWM := Lib.hid (show World.ownsRow wy B 32 2 _ m (flat vC _) from by
            have h := HOW.out
            unfold OwnVV at h
            rw [HM.out] at h
            exact h)
          clear qr
          obtain ⟨r0, r1⟩ := HBR.out.one
          obtain ⟨e0, e1, _, _⟩ := HBT.out.two
          have hsz : B ≤ wy.heap.size := Nat.le_trans HBS.out HKY.out.size
          have hlen1 := HLL.out
          go_wp2_with (first
            | (at_builtin; refine wp_pushG rfl (.tmp 40) (.tmp 42) 25 32 2 16 (.agg #[.int .i64 0, .int .i64 0]) rfl Try.underlying25 infoP rfl (by omega) B m _ (flat vC (base ++ [((bx, bz) : Pt)].reverse)) [.int .i64 px, .int .i64 py] rfl HOWM.out rfl ?_ rfl ?_ ?_ hsz ?_; (intro u hu; simp at hu; rcases hu with rfl | rfl <;> rfl); omega; omega; intro v5 w5 own5 gr5; (have hb5 := HBR.out.kp gr5.by_ (fun e => HNO.out e)); (obtain ⟨d7, g7⟩ := hb5.one); (obtain ⟨A', c', rfl⟩ := (own_src own5).shape)))
          have HB5 := Lib.hid hb5
          have HO5 := Lib.hid own5
          have HK5 := Lib.hid (HKY.out.trans gr5.by_ (fun j hj e => .inr (own_from HOW.out j e)))
          clear own5 hb5
          go_roundw
          case rel =>
            refine ⟨k + 1, _, (px, py) :: [((bx, bz) : Pt)], by rw [← H4.out], by omega, ?_, HB5.out.set_ 0 _, ?_, ?_⟩
            · rw [take_at (by rw [HN.out]; exact hkn), List.foldl_append, ← HS.out, HP.out]
              show _ = (px, py) :: popC (px, py) S
              rw [← HPT.out, HPE.out]
            · have hx := HO5.out
              have hx2 : OwnVV w5 B (.slice A' (m + 1) c') (base ++ ((px, py) :: [((bx, bz) : Pt)]).reverse) := by
                unfold OwnVV
                rw [show base ++ ((px, py) :: [((bx, bz) : Pt)]).reverse = (base ++ [((bx, bz) : Pt)].reverse) ++ [(px, py)] by simp, List.length_append, flat_app, HM.out]
                exact hx
              exact hx2.kp (kp_set w5 R 0 _) (fun g e e2 => by
                have := own_from hx g e
                rw [e2] at this
                exact absurd HRB.out (by omega))
            · exact HK5.out.trans (kp_set w5 R 0 _) (fun j hj e => .inl e)
          case measure => (have := H4.out; simp [intOf]; try omega)
        · have hge : f2 ≤ m := by have := HF2.out; simp at hm2; omega
          have hgd : decide (f2 ≤ m) = true := decide_eq_true hge
          obtain ⟨s1, hs1⟩ : ∃ x, f + (r.length + 1) = x := ⟨_, rfl⟩
          obtain ⟨s2, hs2⟩ : ∃ x, f + r.length = x := ⟨_, rfl⟩
          simp only [List.length_cons] at hm2
          have l1 : s1 < m := by omega
          have l2 : s2 < m := by omega
          have a1 : IntKind.i64.wrap ((m : Int) - 1) = (s1 : Int) := by have := HLL.out; rw [IntKind.wrap_i64]; omega
          have a2 : IntKind.i64.wrap ((m : Int) - 2) = (s2 : Int) := by have := HLL.out; rw [IntKind.wrap_i64]; omega
          obtain ⟨g, cap, e, hgB, hgl, hnc, hcm, hrv⟩ := own_holds (HM.out ▸ HOX.out) (by rw [HM.out]; omega)
          rw [HM.out] at e hnc
          simp only [Value.slice.injEq, true_and] at e
          obtain ⟨rfl, rfl⟩ := e
          obtain ⟨g', o', e, _, hc⟩ := src_at (src_n (HM.out ▸ HOX.out).src HM.out) (by omega)
          simp only [Option.some.injEq, Addr.mk.injEq, and_true] at e
          obtain ⟨rfl, rfl⟩ := e
          have at1 := rev_at1 base ((ax, ay) :: r) (bx, bz)
          have at2 := rev_at2 base r (ax, ay) (bx, bz)
          rw [HF.out, List.length_cons, hs1] at at1
          rw [HF.out, hs2] at at2
          have q0 := fun p : KeptW wx => (hc p.wd p.since s2 l2).1
          have q1 := fun p : KeptW wx => (hc p.wd p.since s2 l2).2
          have q2 := fun p : KeptW wx => (hc p.wd p.since s1 l1).1
          have q3 := fun p : KeptW wx => (hc p.wd p.since s1 l1).2
          rw [at2] at q0 q1
          rw [at1] at q2 q3
          simp only [Nat.zero_add] at q0 q1 q2 q3
          have q4 := fun p : KeptW wx => (HBTX.out.kept p).cell 0
          have q5 := fun p : KeptW wx => (HBTX.out.kept p).cell 1
          have b0 : (0 : Int) ≤ (s1 : Int) := by omega
          have b1 : (s1 : Int) < (m : Int) := by omega
          have b2 : (0 : Int) ≤ (s2 : Int) := by omega
          have b3 : (s2 : Int) < (m : Int) := by omega
          have ct := fun w1 => turn_any ax ay bx bz px py w1
          obtain ⟨t, ht⟩ : ∃ t, turnV ax ay bx bz px py = t := ⟨_, rfl⟩
          rw [ht] at ct
          obtain ⟨bb, hbb⟩ : ∃ b, decide (t ≤ 0) = b := ⟨_, rfl⟩
          have HT := Lib.hid (show popC (px, py) (((bx, bz) : Pt) :: (ax, ay) :: r) = if bb then popC (px, py) ((ax, ay) :: r) else (bx, bz) :: (ax, ay) :: r from by
            have ok : ∀ x ∈ pts, sOk x = true := allS_iff.1 HSS.out
            have h1 := turn_small (a := (ax, ay)) (b := (bx, bz)) (c := (px, py)) (ok _ (hmem _ (by simp))) (ok _ (hmem _ (by simp))) (by rw [← HP.out]; exact allS_at HSS.out (by rw [HN.out]; exact hkn))
            have h2 : turnP (ax, ay) (bx, bz) (px, py) = t := ht
            rw [h2] at h1
            have h3 := sgn_pos (crsP (ax, ay) (bx, bz) (px, py))
            rw [popC, ← hbb]
            by_cases h : crsP (ax, ay) (bx, bz) (px, py) ≤ 0
            · rw [if_pos h, if_pos (decide_eq_true (by omega))]
            · rw [if_neg h, if_neg (by rw [decide_eq_true_eq]; omega)])
          have HS1 := Lib.hid hs1
          have HMM := Lib.hid (show (∀ x ∈ (((ax, ay) : Pt) :: r), x ∈ pts) ∧ (((ax, ay) : Pt) :: r).length ≤ k from ⟨fun x hx => hmem x (List.mem_cons_of_mem _ hx), by simp at hlt ⊢; omega⟩)
          clear at1 at2 hc hrv hs1 hs2 ht hmem hlt hm2 hgB hgl hcm
          go_upto_region 4 with fail
          refine wp_region_kept (Kp.refl _ _) (by assumption) (by kernel_rfl) ?_
          repeat (with_reducible refine wpQuiet_step (fun K hK => ?_); go_simp; first | ((with_reducible refine hK _ ?_); clear hK K) | (with_reducible apply Exists.intro; (with_reducible refine ⟨fun _ => ?_, hK _ ?_⟩); ((first | (go_at_call 51; with_reducible exact Calls.kept_of (ct _)) | fail)); clear hK K) | (simp only [undef, reduceCtorEq, if_false]; (with_reducible refine hK _ ?_); clear hK K))
          with_reducible refine wpQuiet_nil ?_
          rintro _ ⟨p, rfl⟩
          have HBR := Lib.hid (HBX.out.kp p.since id)
          have HOW := Lib.hid (HOX.out.nw p.since)
          have HBT := Lib.hid (HBTX.out.kp p.since id)
          have HKY := Lib.hid (HKX.out.tr (Nw.kp p.since))
          generalize p.wd = wy at HBR HOW HBT HKY ⊢
          have HOWM := Lib.hid (show World.ownsRow wy B 32 2 _ m (flat vC _) from by
            have h := HOW.out
            unfold OwnVV at h
            rw [HM.out] at h
            exact h)
          clear q0 q1 q2 q3 q4 q5 qr ct
          cases bb
          · have HPE := Lib.hid (show popC (px, py) (((bx, bz) : Pt) :: (ax, ay) :: r) = (bx, bz) :: (ax, ay) :: r from HT.out)
            obtain ⟨r0, r1⟩ := HBR.out.one
            obtain ⟨e0, e1, _, _⟩ := HBT.out.two
            have hsz : B ≤ wy.heap.size := Nat.le_trans HBS.out HKY.out.size
            have hlen1 := HLL.out
            go_wp2_with (first
              | (at_builtin; refine wp_pushG rfl (.tmp 40) (.tmp 42) 25 32 2 16 (.agg #[.int .i64 0, .int .i64 0]) rfl Try.underlying25 infoP rfl (by omega) B m _ (flat vC (base ++ (((bx, bz) : Pt) :: (ax, ay) :: r).reverse)) [.int .i64 px, .int .i64 py] rfl HOWM.out rfl ?_ rfl ?_ ?_ hsz ?_; (intro u hu; simp at hu; rcases hu with rfl | rfl <;> rfl); omega; omega; intro v5 w5 own5 gr5; (have hb5 := HBR.out.kp gr5.by_ (fun e => HNO.out e)); (obtain ⟨d7, g7⟩ := hb5.one); (obtain ⟨A', c', rfl⟩ := (own_src own5).shape)))
            have HB5 := Lib.hid hb5
            have HO5 := Lib.hid own5
            have HK5 := Lib.hid (HKY.out.trans gr5.by_ (fun j hj e => .inr (own_from HOW.out j e)))
            clear own5 hb5
            go_roundw
            case rel =>
              refine ⟨k + 1, _, (px, py) :: (((bx, bz) : Pt) :: (ax, ay) :: r), by rw [← H4.out], by omega, ?_, HB5.out.set_ 0 _, ?_, ?_⟩
              · rw [take_at (by rw [HN.out]; exact hkn), List.foldl_append, ← HS.out, HP.out]
                show _ = (px, py) :: popC (px, py) S
                rw [← HPT.out, HPE.out]
              · have hx := HO5.out
                have hx2 : OwnVV w5 B (.slice A' (m + 1) c') (base ++ ((px, py) :: (((bx, bz) : Pt) :: (ax, ay) :: r)).reverse) := by
                  unfold OwnVV
                  rw [show base ++ ((px, py) :: (((bx, bz) : Pt) :: (ax, ay) :: r)).reverse = (base ++ (((bx, bz) : Pt) :: (ax, ay) :: r).reverse) ++ [(px, py)] by simp, List.length_append, flat_app, HM.out]
                  exact hx
                exact hx2.kp (kp_set w5 R 0 _) (fun g e e2 => by
                  have := own_from hx g e
                  rw [e2] at this
                  exact absurd HRB.out (by omega))
              · exact HK5.out.trans (kp_set w5 R 0 _) (fun j hj e => .inl e)
            case measure => (have := H4.out; simp [intOf]; try omega)
          · obtain ⟨r0, r1⟩ := HBR.out.one
            have hrun := fun W => run_cutR W g m c' s1 (by omega)
            go_wp2_with fail
            go_roundw
            case rel =>
              refine ⟨.slice (some ⟨g, 0, none⟩) s1 c', (ax, ay) :: r, ?_, HMM.out.1, HMM.out.2, HBR.out.set_ 0 _, ?_, HBT.out.far (fun e => by have := HTB.out; have := HRB.out; simp at e; omega) _, HKY.out.trans (kp_set wy R 0 _) (fun j hj e => .inl e)⟩
              · rw [← HPT.out]
                exact HT.out.symm
              · have ho := own_cut (n := m) (k := s1) HOWM.out (by omega)
                rw [flat_take (f := vC) (size := 2) (fun _ => rfl)] at ho
                have e : (base ++ (((bx, bz) : Pt) :: (ax, ay) :: r).reverse).take s1 = base ++ (((ax, ay) : Pt) :: r).reverse := by
                  have h := rev_pre base ((ax, ay) :: r) (bx, bz)
                  rw [HF.out, List.length_cons, HS1.out] at h
                  exact h
                rw [e] at ho
                have hl2 : (base ++ (((ax, ay) : Pt) :: r).reverse).length = s1 := by rw [rev_len, HF.out, List.length_cons, HS1.out]
                have ho2 : OwnVV wy B (.slice (some ⟨g, 0, none⟩) s1 c') (base ++ (((ax, ay) : Pt) :: r).reverse) := by
                  unfold OwnVV
                  rw [hl2]
                  exact ho
                exact ho2.kp (kp_set wy R 0 _) (fun gg e e2 => by
                  have h1 := own_from ho2 gg e
                  have h2 : gg = R := e2
                  have h3 := HRB.out
                  omega)
            case measure =>
              rw [rlen_eq HBX.out, rlen_eq (HBR.out.set_ 0 _)]
              omega
    · obtain rfl : k = n := by omega
      have i5 : ¬ ((k : Int) < (k : Int)) := by omega
      have HSE := Lib.hid (show S = pts.foldl stepC [] by rw [HS.out, List.take_of_length_le (by rw [HN.out]; exact Nat.le_refl _)])
      have hlS : S.length ≤ k := by
        rw [HS.out]
        have := (fold_sub (P := fun _ => True) (pts.take k) [] (fun _ _ => trivial) (fun _ _ => trivial)).2
        rw [List.length_take] at this
        simp at this
        omega
      obtain ⟨A', c', rfl⟩ := HOW.out.src.shape
      obtain ⟨m, hm⟩ : ∃ m, (base ++ S.reverse).length = m := ⟨_, rfl⟩
      have hm2 := rev_len base S
      rw [hm, HF.out] at hm2
      have HM := Lib.hid hm
      have HBR1 := Lib.hid (show Blk wr R 25 #[.slice A' m c'] from hm ▸ HBR.out)
      have HOW1 := Lib.hid (show OwnVV wr B (.slice A' m c') (base ++ S.reverse) from hm ▸ HOW.out)
      have HOWM := Lib.hid (show World.ownsRow wr B 32 2 (.slice A' m c') m (flat vC (base ++ S.reverse)) from by
        have h := HOW1.out
        unfold OwnVV at h
        rw [HM.out] at h
        exact h)
      obtain ⟨r0, r1⟩ := HBR1.out.one
      have hlen := HLN.out
      have own_ne' : ∀ {v : Value} {l : List Pt}, OwnVV wr B v l → ∀ gg, v.ownBlock = some gg → ¬ gg = R := fun h gg e e2 => by
        have h1 := own_from h gg e
        have h3 := HRB.out
        omega
      clear hm HBR HOW
      obtain ⟨s1, hs1, hsm, hE⟩ : ∃ s1 : Nat, max (f : Int) ((m : Int) - 1) = (s1 : Int) ∧ s1 ≤ m ∧ (base ++ S.reverse).take s1 = out := by
        by_cases hS0 : S = []
        · refine ⟨f, by rw [hS0, List.length_nil] at hm2; omega, by omega, ?_⟩
          rw [← HOUT.out, ← HSE.out, hS0, ← HF.out]
          simp
        · have hS1 : 0 < S.length := List.length_pos_iff.2 hS0
          refine ⟨m - 1, by omega, by omega, ?_⟩
          rw [← HOUT.out, ← HSE.out, ← rev_end base S hS0, HF.out, ← hm2]
      obtain ⟨x, hx⟩ : ∃ x, (m : Int) - 1 = x := ⟨_, rfl⟩
      have a1 : IntKind.i64.wrap ((m : Int) - 1) = x := by rw [IntKind.wrap_i64]; omega
      rw [hx] at hs1
      have hl2 : out.length = s1 := by
        rw [← hE, List.length_take, HM.out]
        omega
      have HL2 := Lib.hid hl2
      have HE := Lib.hid hE
      have hfm : f ≤ m := by omega
      clear hE hl2 hm2 hlS hlen hx HSE
      rcases own_forms HOWM.out with ⟨e, h0⟩ | ⟨g, cap, e, hnc, hcm, hgl⟩
      · simp only [Value.slice.injEq] at e
        obtain ⟨rfl, -, rfl⟩ := e
        subst h0
        obtain rfl : s1 = 0 := by omega
        have hm0 : max (f : Int) (-1) = 0 := by omega
        have hrun := fun W => run_cut0 W
        have ho : OwnVV wr B (.slice none 0 0) out := by
          have : out = [] := List.length_eq_zero_iff.1 HL2.out
          rw [this]
          exact OwnVV.nil _ _
        have HO := Lib.hid ho
        clear ho hsm hfm
        go_wp2_with fail
        first | refine bodyPost_ret (results_none rfl _ _ _) rfl ?_ | refine bodyPost_end (results_none rfl _ _ _) rfl ?_
        exact ⟨rfl, _, HBR1.out.set_ 0 _, HO.out.kp (kp_set wr R 0 _) (fun gg e e2 => own_ne' HO.out gg e e2), HKP.out.trans (kp_set wr R 0 _) (fun j hj e => .inl e)⟩
      · simp only [Value.slice.injEq, true_and] at e
        obtain ⟨rfl, rfl⟩ := e
        have hrun := fun W => run_cutR W g m c' s1 (by omega)
        have ho := own_cut (n := m) (k := s1) HOWM.out (by omega)
        rw [flat_take (f := vC) (size := 2) (fun _ => rfl), HE.out] at ho
        have ho2 : OwnVV wr B (.slice (some ⟨g, 0, none⟩) s1 c') out := by
          unfold OwnVV
          rw [HL2.out]
          exact ho
        have HO := Lib.hid ho2
        have b0 : (0 : Int) ≤ (s1 : Int) := by omega
        have b1 : (s1 : Int) ≤ (c' : Int) := by omega
        clear ho ho2 hsm hgl hfm
        go_wp2_with fail
        first | refine bodyPost_ret (results_none rfl _ _ _) rfl ?_ | refine bodyPost_end (results_none rfl _ _ _) rfl ?_
        exact ⟨rfl, _, HBR1.out.set_ 0 _, HO.out.kp (kp_set wr R 0 _) (fun gg e e2 => own_ne' HO.out gg e e2), HKP.out.trans (kp_set wr R 0 _) (fun j hj e => .inl e)⟩

end Go.Proofs.Ythbgapcplgigoaa.W
