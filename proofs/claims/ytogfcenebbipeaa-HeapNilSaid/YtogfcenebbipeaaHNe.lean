/-
  Heap[int]: Push. Conditions: the heap's block is known; fewer than 2^40 elements.
-/
import Derived.Test.YtogfcenebbipeaaHNd
namespace Go.Proofs.Ytogfcenebbipeaa.W
open Go.RowKit Go.Proofs.Ytogfcenebbipeaa.Pl

theorem infoN : (Try.prog.info? 94).map (fun i => (i.zero, i.size, i.bytes)) = some (some (.agg #[.int .i64 0, .int .u64 0]), 2, 16) := by kernel_rfl

set_option maxRecDepth 100000 in
set_option maxHeartbeats 1600000 in
theorem pushN_any (C H c p : Nat) (v : Value) (x : Int × Int) (q : List Ent) (w : World) (h : HpN C w H v q p) (hc : CntN C w c) (hlen : q.length + 1 ≤ 1099511627776) (hp : p ≤ 4611686018427387904) :
    Calls Try.prog 43 #[.pointer (some ⟨H, 0, none⟩), .int .i64 x.1] w fun e w' => e = .returned (.tuple #[]) ∧ ∃ v' c', HpN C w' H v' (ins rkN (x, p) q) (p + 1) ∧
      Kp (fun k => Ft H v k ∨ CsN C k) w w' ∧ (v'.ownBlock = v.ownBlock ∨ ∃ k, v'.ownBlock = some k ∧ w.heap.size ≤ k) ∧ CntN C w' c' ∧ c' ≤ c + Nat.log2 (q.length + 1) := by
  obtain ⟨l, ha, hpe, hhp, hgd⟩ := h
  obtain ⟨n, hn⟩ : ∃ n, l.length = n := ⟨_, rfl⟩
  have hqn : q.length = n := hpe.length_eq ▸ hn
  obtain ⟨A, cap, hv⟩ := (own_src ha.own).shape
  rw [hn] at hv
  subst hv
  rw [hqn] at hlen
  have HN := Lib.hid hn
  have HQN := Lib.hid hqn
  have hne : ∀ w : World, (binOp BinOp.eql 64 (.func (.func 31) #[] #[]) .nilFunc).run Try.prog w = .ok (.bool false) w := fun _ => by kernel_rfl
  have hNH : ∀ k, (Value.slice A n cap).ownBlock = some k → H ≠ k := fun k e e2 => ha.ne (by rw [e, e2])
  have hHl := ha.blk.lt
  go_enter Try.func43, Try.ntmps43
  have hkb : Nw w w := Kp.refl _ w
  have hab := ha.kp hkb (fun e => e) (fun _ _ e => e)
  have hcb := cntN_kp hc hkb (fun _ _ e => e)
  obtain ⟨b0, b1, b2, b3, b4, b5⟩ := ha.blk.three
  obtain ⟨d0, d1, d2, d3, d4, d5⟩ := hab.blk.three
  have hob : w.drew.ownsRow 0 94 2 (.slice A n cap) n (flat ceN l) := by rw [← hn]; exact hn ▸ hab.own
  have hbd := hab.blk.drew
  clear hn hqn
  have hHl2 := hab.blk.lt
  have HCS := Lib.hid (show ∀ k, CsN C k → ¬ Ft H (.slice A n cap) k from fun k e e2 => by
    rcases e2 with rfl | e2
    · exact cntN_blk hc ha.blk _ e rfl
    · exact cntN_own hc ha.own k e e2)
  have HAB := Lib.hid hab
  have HP := Lib.hid hp
  go_wp2_with fail
  clear hab ha b0 b1 b2 b3 b4 b5
  go_region_law (first
    | (refine step_pushG (by rfl) (.tmp 17) (.tmp 24) 90 94 2 16 (.agg #[.int .i64 0, .int .u64 0]) (by rfl) Try.underlying90 infoN rfl (by omega) 0 n (.slice A n cap) (flat ceN l) [.int .i64 (x, p).1.1, .int .u64 (x, p).2] (by rfl) hob rfl (by intro u hu; simp at hu; rcases hu with rfl | rfl | rfl <;> rfl) (by rfl) (by omega) (by omega) (by omega) ?_; intro v5 w5 own5 gr5; (obtain ⟨A5, c5, rfl⟩ := (own_src own5).shape); have hb5 := hbd.kp gr5.by_ (fun e => hNH _ e rfl); obtain ⟨y0, y1, y2, y3, y4, y5⟩ := hb5.three))
  all_goals
    have hnA : ∀ k, (Value.slice A5 (n + 1) c5).ownBlock = some k → H ≠ k := by
      intro k e e2
      have := own_ne own5 hb5 (by decide)
      rw [e, e2] at this
      exact this rfl
    obtain ⟨w6, hw6⟩ : ∃ w6, w5.setCell ⟨H, 1, none⟩ (.slice A5 (n + 1) c5) = w6 := ⟨_, rfl⟩
    have hk6 : Kp (fun k => k = H) w5 w6 := hw6 ▸ kp_set w5 H 1 _
    have hb6 : Blk w6 H 92 #[(.func (.func 31) #[] #[]), .slice A5 (n + 1) c5, .int .u64 p] := hw6 ▸ hb5.set_ 1 _
    have ho6 := own_kp own5 hk6 (fun g e e2 => hnA g e e2.symm)
    have hk7 := kp_set w6 H 2 (.int .u64 ((p : Int) + 1))
    have hb7 : Blk (w6.setCell ⟨H, 2, none⟩ (.int .u64 ((p : Int) + 1))) H 92 #[(.func (.func 31) #[] #[]), .slice A5 (n + 1) c5, .int .u64 ((p + 1 : Nat) : Int)] := hb6.set_ 2 _
    have ho7 := own_kp ho6 hk7 (fun g e e2 => hnA g e e2.symm)
    have hl7 : (l ++ [(x, p)]).length = n + 1 := by rw [List.length_append, HN.out]; rfl
    have ha7 : ArrN C (w6.setCell ⟨H, 2, none⟩ (.int .u64 ((p : Int) + 1))) H (.slice A5 (n + 1) c5) (l ++ [(x, p)]) (p + 1) := ⟨hb7, by rw [hl7, flat_snoc]; exact ho7⟩
    have hkA : Kp (fun k => Ft H (.slice A n cap) k ∨ CsN C k) w (w6.setCell ⟨H, 2, none⟩ (.int .u64 ((p : Int) + 1))) :=
      (((Nw.kp hkb).trans (Kp.undrew gr5.by_) (fun k _ e => .inl (.inr e))).trans hk6 (fun k _ e => .inl (.inl e))).trans hk7 (fun k _ e => .inl (.inl e))
    have hvA : (Value.slice A5 (n + 1) c5).ownBlock = (Value.slice A n cap).ownBlock ∨ ∃ k, (Value.slice A5 (n + 1) c5).ownBlock = some k ∧ w.heap.size ≤ k := gr5.at_.imp id (fun ⟨k, e, hk⟩ => ⟨k, e, Nat.le_trans hkb.size hk⟩)
    have hcA : CntN C (w6.setCell ⟨H, 2, none⟩ (.int .u64 ((p : Int) + 1))) c :=
      cntN_kp (cntN_kp (cntN_kp (cntN_drew hcb) gr5.by_ (fun k e e2 => HCS.out k e (.inr e2))) hk6 (fun k e e2 => HCS.out k e (.inl e2))) hk7 (fun k e e2 => HCS.out k e (.inl e2))
    have HA7 := Lib.hid ha7
    have HL7 := Lib.hid hl7
    have HKA := Lib.hid hkA
    have HVA := Lib.hid hvA
    have HW6 := Lib.hid hw6
    obtain ⟨z0, z1, z2, z3, z4, z5⟩ := hb6.three
    have hp0 : 0 ≤ (p : Int) := by omega
    have hp1 : (p : Int) + 1 ≤ 4611686018427387905 := by omega
    rw [HW6.out]
    clear hw6 ho6 hk6 gr5 hnA own5 hb5 hk7 hb7 ho7 hl7 ha7 hkA hvA hb6 y0 y1 y2 y3 y4 y5
    have hup7 : UpH rkN (l ++ [(x, p)]) ((l ++ [(x, p)]).length - 1) := by rw [HL7.out, Nat.add_sub_cancel, ← HN.out]; exact up_start hhp (x, p)
    go_wp2_with (go_at_call 49; ((with_reducible refine (raiseN_any C H c (p + 1) _ _ _ HA7.out hcA (by rw [HL7.out]; omega) (by rw [HL7.out]; omega) hup7).mono ?_); rintro e w8 ⟨rfl, l8, c8, ha8, hp8, hh8, hk8, hc8, hle8⟩))
    go_end0
    refine ⟨rfl, _, c8, ⟨l8, ha8, hp8.trans ?_, hh8, hgd.push x⟩, ?_, HVA.out, hc8, ?_⟩
    · exact (List.perm_append_singleton (x, p) l).trans ((hpe.cons _).trans (ins_perm rkN (x, p) q).symm)
    · refine HKA.out.trans hk8 (fun k hk e => ?_)
      rcases e with e | e
      · rcases HVA.out with e2 | ⟨k2, e2, hk2⟩
        · exact .inl (.inr (e2 ▸ e))
        · rw [e2] at e
          injection e with e
          omega
      · exact .inr e
    · rw [HL7.out] at hle8
      rw [HQN.out]
      exact hle8
end Go.Proofs.Ytogfcenebbipeaa.W
