/-
  fretsawlaw03.HeapPlays returns true for every list of calls. Condition: the argument is read.
-/
import Derived.Test.YtogfcenebbipeaaHClone
import Derived.Test.YtogfcenebbipeaaHArgI
namespace Go.Proofs.Ytogfcenebbipeaa.W
open Go.RowKit Go.Proofs.Ytogfcenebbipeaa.Pl

/-- what holds between two calls: the heap in block H, the list in the slice u, apart from the heap -/
structure Ply (w0 wr : World) (H p n : Nat) (v u : Value) (q : List Ent) : Prop where
  hp : HpI 0 wr H v q p
  ft : ∀ k, Ft H v k → w0.heap.size ≤ k
  src : SrcI wr u (q.map (·.1))
  lt_ : ∀ g, u.ownBlock = some g → g < wr.heap.size
  ne_ : ∀ k, Ft H v k → u.ownBlock ≠ some k
  nw : Nw w0 wr
  len : q.length ≤ n
  num : p ≤ n
theorem Ply.step {w0 w w' : World} {H p n : Nat} {v u : Value} {q : List Ent} (h : Ply w0 w H p n v u q) (hk : Nw w w') : Ply w0 w' H p n v u q :=
  ⟨h.hp.nw hk, h.ft, h.src.nw hk, fun g e => Nat.lt_of_lt_of_le (h.lt_ g e) hk.size, h.ne_, h.nw.tr hk, h.len, h.num⟩
theorem Ply.more {w0 w : World} {H p n : Nat} {v u : Value} {q : List Ent} (h : Ply w0 w H p n v u q) : Ply w0 w H p (n + 1) v u q := ⟨h.hp, h.ft, h.src, h.lt_, h.ne_, h.nw, Nat.le_succ_of_le h.len, Nat.le_succ_of_le h.num⟩
theorem ops_at {w : World} {g o n c : Nat} {l : List OpV} (h : Src w 3 (.slice (some ⟨g, o, none⟩) n c) n (flat cvO l)) {i : Nat} {x : OpV} (hx : l[i]? = some x) :
    w.cell? ⟨g, o + i * 3, none⟩ = some (.int .u8 x.1) ∧ w.cell? ⟨g, o + i * 3 + 1, none⟩ = some (.int .i64 x.2.1) ∧ w.cell? ⟨g, o + i * 3 + 2, none⟩ = some (.int .i64 x.2.2) := by
  have h0 := h.cell_at (flat_at cvO_len 0 hx (by omega))
  have h1 := h.cell_at (flat_at cvO_len 1 hx (by omega))
  have h2 := h.cell_at (flat_at cvO_len 2 hx (by omega))
  rw [Nat.add_zero] at h0
  rw [← Nat.add_assoc] at h1 h2
  exact ⟨h0, h1, h2⟩

set_option maxRecDepth 100000 in
set_option maxHeartbeats 12800000 in
theorem plays_walk (v : Value) (l : List OpV) (w : World) (hs : Src w 3 v l.length (flat cvO l)) (hp : ∀ x ∈ l, 0 ≤ x.1 ∧ x.1 < 256) (hlen : l.length ≤ 140737488355328) :
    Calls Try.prog 3 #[v] w fun e w' => e = .returned (.bool true) ∧ Nw w w' := by
  obtain ⟨A, cap, rfl⟩ := hs.shape
  obtain ⟨n, hn⟩ : ∃ n, l.length = n := ⟨_, rfl⟩
  have hni : (n : Int) ≤ 140737488355328 := by omega
  have HN := Lib.hid hn
  have HP := Lib.hid hp
  rw [hn] at hs ⊢
  have HS := Lib.hid hs
  clear hn hs hlen hp
  by_cases hbig : (200 : Int) < n
  · go_enter Try.func3, Try.ntmps3
    go_wp2_with (go_at_call 10; ((with_reducible refine (awake_any _).mono ?_); rintro e w1 ⟨rfl, hk1⟩))
    go_ret
    exact ⟨rfl, hk1⟩
  · have hsm : (n : Int) ≤ 200 := by omega
    have hd0 : decide ((200 : Int) < (n : Int)) = false := decide_eq_false hbig
    clear hbig
    go_enter Try.func3, Try.ntmps3
    go_wp2_with (first
      | (go_at_call 10; ((with_reducible refine (awake_any _).mono ?_); rintro e w1 ⟨rfl, hk1⟩))
      | (go_at_call 11; ((with_reducible refine (newI_any 0 _).mono ?_); rintro e w2 ⟨rfl, hh2, hk2, _⟩)))
    have hply : Ply w w2 w1.heap.size 0 0 (.slice none 0 0) (.slice none 0 0) [] :=
      ⟨hh2, (fun k e => e.elim (fun e => by rw [e]; exact hk1.size) (fun e => by cases e)), Src.nil _ _, (fun g e => by cases e), (fun k _ e => by cases e), hk1.tr hk2, Nat.le_refl _, Nat.le_refl _⟩
    have HPLY := Lib.hid hply
    clear hh2 hk2 hk1 hply
    go_loopw [3, 4, 19] (fun hp u i wr => ∃ (k H p : Nat) (v' : Value) (q : List Ent), i = .int .i64 k ∧ k ≤ n ∧ hp = .pointer (some ⟨H, 0, none⟩) ∧ Ply w wr H p k v' u q) (fun _ _ i _ => n - (intOf i).toNat)
    case atStart => exact ⟨0, _, 0, _, [], rfl, Nat.zero_le _, rfl, HPLY.out⟩
    case round =>
      obtain ⟨k, H, p, v', q, rfl, hk, rfl, hply⟩ := hrel
      obtain ⟨B, cb, hvB⟩ := hply.src.shape
      rw [List.length_map] at hvB
      obtain ⟨nq, hnq⟩ : ∃ nq, q.length = nq := ⟨_, rfl⟩
      rw [hnq] at hvB
      subst hvB
      have HNQ := Lib.hid hnq
      have hnqk : nq ≤ k := by rw [← hnq]; exact hply.len
      have hpk : p ≤ k := hply.num
      clear hnq
      by_cases hlt : k < n
      · have hkl : k < l.length := by have := HN.out; omega
        obtain ⟨x, hx⟩ : ∃ x, l[k]? = some x := ⟨_, List.getElem?_eq_getElem hkl⟩
        have hsr := HS.out.nw hply.nw
        obtain ⟨g, o, hA⟩ := hsr.lies (by omega)
        subst hA
        obtain ⟨x0, x1, x2⟩ := ops_at hsr hx
        obtain ⟨hx0, hx1⟩ := HP.out x (List.mem_of_getElem? hx)
        obtain ⟨m, hm⟩ : ∃ m : Int, x.1 % 6 = m := ⟨_, rfl⟩
        have hm0 : 0 ≤ m := by omega
        have hm6 : m < 6 := by omega
        have hki : (k : Int) < (n : Int) := by omega
        have hd1 : decide ((k : Int) < (n : Int)) = true := decide_eq_true hki
        obtain ⟨wx, hwx⟩ : ∃ wx, wr.alloc (.cells #[.int .u8 x.1, .int .i64 x.2.1, .int .i64 x.2.2] 31) = wx := ⟨_, rfl⟩
        have hkx : Nw wr wx := hwx ▸ (Kp.refl _ wr).alloc _
        have hbx : Blk wx wr.heap.size 31 #[.int .u8 x.1, .int .i64 x.2.1, .int .i64 x.2.2] := hwx ▸ Blk.new wr _ _
        obtain ⟨bx0, bx1, bx2, _, _, _⟩ := hbx.three
        have hplx := hply.step hkx
        have HWX := Lib.hid hwx
        have HPX := Lib.hid hplx
        have HBX := Lib.hid hbx
        have HM := Lib.hid hm
        clear hx hsr hwx hplx hply hkx hbx hm
        by_cases h3 : m = 3
        · subst h3
          have hg3 : (x.1 % 6 == 3) = true := beq_iff_eq.2 HM.out
          cases q with
          | nil =>
            obtain rfl : nq = 0 := by rw [← HNQ.out]; rfl
            go_wp2_with fail
            rw [HWX.out]
            refine (popI_none 0 H p v' wx HPX.out.hp).mono ?_
            rintro e w3 ⟨rfl, hk3⟩
            obtain ⟨w4, hw4⟩ : ∃ w4, w3.alloc (.cells #[.int .i64 0, .int .i64 0] 27) = w4 := ⟨_, rfl⟩
            have hk4 : Nw w3 w4 := hw4 ▸ (Kp.refl _ w3).alloc _
            have hb4 : Blk w4 w3.heap.size 27 #[.int .i64 0, .int .i64 0] := hw4 ▸ Blk.new w3 _ _
            obtain ⟨y0, y1, _, _⟩ := hb4.two
            have HW4 := Lib.hid hw4
            have HP4 := Lib.hid ((HPX.out.step hk3).step hk4)
            clear hw4 hk3 hk4 hb4
            go_wp2_with fail
            rw [HW4.out]
            go_quiet (fail)
            generalize hw5 : World.drewN w4 _ = w5
            have hp5 : Ply w w5 H p k v' (.slice B 0 cb) [] := by rw [← hw5]; exact HP4.out.step ((Kp.refl _ w4).drewN _)
            clear hw5 y0 y1
            go_wp2_with fail
            refine (lenI_any 0 H p v' [] _ hp5.hp).mono ?_
            rintro e w9 ⟨rfl, rfl⟩
            rw [show ([] : List Ent).length = 0 from rfl]
            go_wp2_with fail
            go_roundw
            case rel => exact ⟨k + 1, H, p, v', [], by go_num, by omega, rfl, hp5.more⟩
            case measure => simp [intOf]; omega
          | cons y r =>
            obtain ⟨mq, hmq⟩ : ∃ mq, nq = mq + 1 := ⟨nq - 1, by have := HNQ.out; simp at this; omega⟩
            subst hmq
            have hrl : r.length = mq := by have := HNQ.out; simp at this; omega
            have HRL := Lib.hid hrl
            clear hrl
            have hd5 : decide ((0 : Int) < ((mq : Int) + 1)) = true := decide_eq_true (by omega)
            go_wp2_with fail
            rw [HWX.out]
            refine (popI_some 0 H 0 p v' y r wx HPX.out.hp (cntI_t _ _ _) (by rw [HRL.out]; omega)).mono ?_
            rintro e w3 ⟨rfl, v3, c3, hh3, hkk3, hv3, _, _⟩
            have hk3 : Kp (Ft H v') wx w3 := hkk3.mono fun _ _ e => e.elim id fun e => e.elim
            have hft3 : ∀ b, Ft H v3 b → Ft H v' b := fun b e => e.imp id fun e => hv3 ▸ e
            obtain ⟨w4, hw4⟩ : ∃ w4, w3.alloc (.cells #[.int .i64 y.1.1, .int .i64 y.1.2] 27) = w4 := ⟨_, rfl⟩
            have hk4 : Nw w3 w4 := hw4 ▸ (Kp.refl _ w3).alloc _
            have hb4 : Blk w4 w3.heap.size 27 #[.int .i64 y.1.1, .int .i64 y.1.2] := hw4 ▸ Blk.new w3 _ _
            obtain ⟨y0, y1, _, _⟩ := hb4.two
            have HW4 := Lib.hid hw4
            have hsrc3 : SrcI w3 (.slice B (mq + 1) cb) ((y :: r).map (·.1)) := Src.kp HPX.out.src hk3 (fun g _ e e2 => HPX.out.ne_ g e2 e)
            have hsrc4 : SrcI w4 (.slice B (mq + 1) cb) ((y :: r).map (·.1)) := hsrc3.nw hk4
            have hsrc4' : Src w4 2 (.slice B (mq + 1) cb) (mq + 1) (flat cvI ((y :: r).map (·.1))) := by have := hsrc4; unfold SrcI at this; rw [List.length_map, HNQ.out] at this; exact this
            obtain ⟨gb, ob, hB⟩ := hsrc4'.lies (by omega)
            have t0 : w4.cell? ⟨gb, ob, none⟩ = some (.int .i64 y.1.1) := by
              have := (hB ▸ hsrc4').cell_at (flat_at cvI_len 0 (show (List.map (fun e : Ent => e.1) (y :: r))[0]? = some y.1 from rfl) (by omega))
              exact this
            have t1 : w4.cell? ⟨gb, ob + 1, none⟩ = some (.int .i64 y.1.2) := by
              have := (hB ▸ hsrc4').cell_at (flat_at cvI_len 1 (show (List.map (fun e : Ent => e.1) (y :: r))[0]? = some y.1 from rfl) (by omega))
              exact this
            obtain ⟨B5, d5, hr5, hs5, ho5⟩ := hsrc4'.cutl elemV Try.underlying29 infoVI 1 (by omega)
            have hs5' : SrcI w4 (.slice B5 mq d5) (r.map (·.1)) := by
              have h1 := flat_drop cvI_len ((y :: r).map (·.1)) 1
              rw [h1] at hs5
              unfold SrcI
              rw [List.length_map, HRL.out]
              exact hs5
            have hp5 : Ply w w4 H p k v3 (.slice B5 mq d5) r :=
              ⟨hh3.nw hk4, fun b e => HPX.out.ft b (hft3 b e), hs5', fun gg e => Nat.lt_of_lt_of_le (HPX.out.lt_ gg (ho5 gg e)) (Nat.le_trans hk3.size hk4.size), fun b e e2 => HPX.out.ne_ b (hft3 b e) (ho5 b e2), (HPX.out.nw.own hk3 HPX.out.ft).tr hk4, by rw [HRL.out]; omega, hpk⟩
            have HP5 := Lib.hid hp5
            have hr5' : ∀ W : World, (Instr.slice 29 (.slice B (mq + 1) cb) (some (.int .i64 1)) none none).run Try.prog W = .ok (.slice B5 mq d5) W := hr5
            subst hB
            clear hp5 hs5 hs5' ho5 hsrc3 hsrc4 hsrc4' hh3 hkk3 hk3 hv3 hft3 hk4 hb4 hw4 hr5
            go_wp2_with fail
            rw [HW4.out]
            go_quiet (fail)
            generalize hw5 : World.drewN w4 _ = w5
            have hp6 : Ply w w5 H p k v3 (.slice B5 mq d5) r := by rw [← hw5]; exact HP5.out.step ((Kp.refl _ w4).drewN _)
            clear hw5 y0 y1 t0 t1
            go_wp2_with fail
            refine (lenI_any 0 H p v3 r _ hp6.hp).mono ?_
            rintro e w9 ⟨rfl, rfl⟩
            rw [HRL.out]
            go_wp2_with fail
            go_roundw
            case rel => exact ⟨k + 1, H, p, v3, r, by go_num, by omega, rfl, hp6.more⟩
            case measure => simp [intOf]; omega
        · have hg3 : (x.1 % 6 == 3) = false := beq_eq_false_iff_ne.2 (by rw [HM.out]; exact h3)
          by_cases h4 : m = 4
          · subst h4
            have hg4 : (x.1 % 6 == 4) = true := beq_iff_eq.2 HM.out
            cases q with
            | nil =>
              obtain rfl : nq = 0 := by rw [← HNQ.out]; rfl
              go_wp2_with fail
              rw [HWX.out]
              refine (peekI_none 0 H p v' wx HPX.out.hp).mono ?_
              rintro e w3 ⟨rfl, hk3⟩
              obtain ⟨w4, hw4⟩ : ∃ w4, w3.alloc (.cells #[.int .i64 0, .int .i64 0] 27) = w4 := ⟨_, rfl⟩
              have hk4 : Nw w3 w4 := hw4 ▸ (Kp.refl _ w3).alloc _
              have hb4 : Blk w4 w3.heap.size 27 #[.int .i64 0, .int .i64 0] := hw4 ▸ Blk.new w3 _ _
              obtain ⟨y0, y1, _, _⟩ := hb4.two
              have HW4 := Lib.hid hw4
              have HP4 := Lib.hid ((HPX.out.step hk3).step hk4)
              clear hw4 hk3 hk4 hb4
              go_wp2_with fail
              rw [HW4.out]
              go_quiet (fail)
              generalize hw5 : World.drewN w4 _ = w5
              have hp5 : Ply w w5 H p k v' (.slice B 0 cb) [] := by rw [← hw5]; exact HP4.out.step ((Kp.refl _ w4).drewN _)
              clear hw5 y0 y1
              go_wp2_with fail
              refine (lenI_any 0 H p v' [] _ hp5.hp).mono ?_
              rintro e w9 ⟨rfl, rfl⟩
              rw [show ([] : List Ent).length = 0 from rfl]
              go_wp2_with fail
              go_roundw
              case rel => exact ⟨k + 1, H, p, v', [], by go_num, by omega, rfl, hp5.more⟩
              case measure => simp [intOf]; omega
            | cons y r =>
              obtain ⟨mq, hmq⟩ : ∃ mq, nq = mq + 1 := ⟨nq - 1, by have := HNQ.out; simp at this; omega⟩
              subst hmq
              have hrl : r.length = mq := by have := HNQ.out; simp at this; omega
              have HRL := Lib.hid hrl
              clear hrl
              have hd5 : decide ((0 : Int) < ((mq : Int) + 1)) = true := decide_eq_true (by omega)
              go_wp2_with fail
              rw [HWX.out]
              refine (peekI_some 0 H p v' y r wx HPX.out.hp (by rw [HRL.out]; omega)).mono ?_
              rintro e w3 ⟨rfl, hk3⟩
              obtain ⟨w4, hw4⟩ : ∃ w4, w3.alloc (.cells #[.int .i64 y.1.1, .int .i64 y.1.2] 27) = w4 := ⟨_, rfl⟩
              have hk4 : Nw w3 w4 := hw4 ▸ (Kp.refl _ w3).alloc _
              have hb4 : Blk w4 w3.heap.size 27 #[.int .i64 y.1.1, .int .i64 y.1.2] := hw4 ▸ Blk.new w3 _ _
              obtain ⟨y0, y1, _, _⟩ := hb4.two
              have HW4 := Lib.hid hw4
              have hp4 := (HPX.out.step hk3).step hk4
              have hsrc4 := hp4.src
              have hsrc4' : Src w4 2 (.slice B (mq + 1) cb) (mq + 1) (flat cvI ((y :: r).map (·.1))) := by have := hsrc4; unfold SrcI at this; rw [List.length_map, HNQ.out] at this; exact this
              obtain ⟨gb, ob, hB⟩ := hsrc4'.lies (by omega)
              have t0 : w4.cell? ⟨gb, ob, none⟩ = some (.int .i64 y.1.1) := by
                have := (hB ▸ hsrc4').cell_at (flat_at cvI_len 0 (show (List.map (fun e : Ent => e.1) (y :: r))[0]? = some y.1 from rfl) (by omega))
                exact this
              have t1 : w4.cell? ⟨gb, ob + 1, none⟩ = some (.int .i64 y.1.2) := by
                have := (hB ▸ hsrc4').cell_at (flat_at cvI_len 1 (show (List.map (fun e : Ent => e.1) (y :: r))[0]? = some y.1 from rfl) (by omega))
                exact this
              have HP5 := Lib.hid hp4
              subst hB
              clear hp4 hsrc4 hsrc4' hk3 hk4 hb4 hw4
              go_wp2_with fail
              rw [HW4.out]
              go_quiet (fail)
              generalize hw5 : World.drewN w4 _ = w5
              have hp6 : Ply w w5 H p k v' (.slice (some ⟨gb, ob, none⟩) (mq + 1) cb) (y :: r) := by rw [← hw5]; exact HP5.out.step ((Kp.refl _ w4).drewN _)
              clear hw5 y0 y1 t0 t1
              go_wp2_with fail
              refine (lenI_any 0 H p v' (y :: r) _ hp6.hp).mono ?_
              rintro e w9 ⟨rfl, rfl⟩
              rw [show (y :: r).length = mq + 1 by rw [List.length_cons, HRL.out]]
              go_wp2_with fail
              go_roundw
              case rel => exact ⟨k + 1, H, p, v', (y :: r), by go_num, by omega, rfl, hp6.more⟩
              case measure => simp [intOf]; omega
          · have hg4 : (x.1 % 6 == 4) = false := beq_eq_false_iff_ne.2 (by rw [HM.out]; exact h4)
            by_cases h5 : m = 5
            · subst h5
              have hg5 : (x.1 % 6 == 5) = true := beq_iff_eq.2 HM.out
              go_wp2_with fail
              rw [HWX.out]
              refine (cloneI_any 0 H p v' q wx HPX.out.hp (by rw [HNQ.out]; omega)).mono ?_
              rintro e w3 ⟨H3, rfl, v3, hh3, hf3, hk3⟩
              have hkx0 : Nw w wx := HPX.out.nw
              have hp3 : Ply w w3 H3 p k v3 (.slice B nq cb) q :=
                ⟨hh3, fun b e => Nat.le_trans hkx0.size (hf3 b e), HPX.out.src.nw hk3, fun gg e => Nat.lt_of_lt_of_le (HPX.out.lt_ gg e) hk3.size, fun b e e2 => absurd (HPX.out.lt_ b e2) (Nat.not_lt.2 (hf3 b e)), HPX.out.nw.tr hk3, by rw [HNQ.out]; exact hnqk, hpk⟩
              clear hh3 hf3 hk3 hkx0
              go_wp2_with fail
              refine (lenI_any 0 H3 p v3 q _ hp3.hp).mono ?_
              rintro e w9 ⟨rfl, rfl⟩
              rw [HNQ.out]
              go_wp2_with fail
              go_roundw
              case rel => exact ⟨k + 1, H3, p, v3, q, by go_num, by omega, rfl, hp3.more⟩
              case measure => simp [intOf]; omega
            · have hg5 : (x.1 % 6 == 5) = false := beq_eq_false_iff_ne.2 (by rw [HM.out]; exact h5)
              go_wp2_with fail
              rw [HWX.out]
              refine (pushI_any 0 H 0 p v' x.2 q wx HPX.out.hp (cntI_t _ _ _) (by rw [HNQ.out]; omega) (by omega)).mono ?_
              rintro e w3 ⟨rfl, v3, c3, hh3, hkk3, hv3, _, _⟩
              have hk3 : Kp (Ft H v') wx w3 := hkk3.mono fun _ _ e => e.elim id fun e => e.elim
              have hb3 := HBX.out.kp hk3 (fun e => by
                rcases e with e | e
                · have := HPX.out.hp.blk
                  exact absurd e (HBX.out.ne_ this (by decide))
                · obtain ⟨ll, hal, _⟩ := HPX.out.hp
                  exact own_ne hal.own HBX.out (by decide) e)
              obtain ⟨z0, z1, z2, _, _, _⟩ := hb3.three
              have hsrc3 : SrcI w3 (.slice B nq cb) (q.map (·.1)) := Src.kp HPX.out.src hk3 (fun gg _ e e2 => HPX.out.ne_ gg e2 e)
              have hlt3 : ∀ b, Ft H v3 b → b < w3.heap.size := hh3.lt
              have HH3 := Lib.hid hh3
              have HS3 := Lib.hid hsrc3
              have HK3 := Lib.hid hk3
              clear hh3 hsrc3 hkk3 hk3 hb3
              go_wp2_with fail
              refine (refPush_any _ _ x.2 w3 HS3.out (by rw [List.length_map, HNQ.out]; omega)).mono ?_
              rintro e w4 ⟨u4, rfl, ho4, hk4⟩
              have hmap : insV rkI x.2 (q.map (·.1)) = (ins rkI (x.2, p) q).map (·.1) := (ins_map rkI (x.2, p) q).symm
              rw [hmap] at ho4
              have hql4 : (ins rkI (x.2, p) q).length = nq + 1 := by rw [ins_length, HNQ.out]
              obtain ⟨A4, c4, hv4⟩ := (own_src ho4).shape
              rw [List.length_map, hql4] at hv4
              subst hv4
              have hft3 : ∀ b, Ft H v3 b → w.heap.size ≤ b := fun b e => e.elim (fun e => HPX.out.ft b (.inl e)) (fun e => by
                rcases hv3 with e2 | ⟨k2, e2, hk2⟩
                · exact HPX.out.ft b (.inr (e2 ▸ e))
                · rw [e2] at e
                  injection e with e
                  have := HPX.out.nw.size
                  omega)
              have hp4 : Ply w w4 H (p + 1) (k + 1) v3 (.slice A4 (nq + 1) c4) (ins rkI (x.2, p) q) :=
                ⟨HH3.out.nw hk4, hft3, ho4.src, fun gg e => own_lt ho4 gg e, fun b e e2 => absurd (hlt3 b e) (Nat.not_lt.2 (own_from ho4 b e2)), (HPX.out.nw.own HK3.out HPX.out.ft).tr hk4, by rw [hql4]; omega, by omega⟩
              have HQ4 := Lib.hid hql4
              clear ho4 hk4 hmap hql4 hft3
              go_wp2_with fail
              refine (lenI_any 0 H (p + 1) v3 (ins rkI (x.2, p) q) _ hp4.hp).mono ?_
              rintro e w9 ⟨rfl, rfl⟩
              rw [HQ4.out]
              go_wp2_with fail
              go_roundw
              case rel => exact ⟨k + 1, H, p + 1, v3, ins rkI (x.2, p) q, by go_num, by omega, rfl, hp4⟩
              case measure => simp [intOf]; omega
      · obtain rfl : n = k := by omega
        have hd1 : decide ((n : Int) < (n : Int)) = false := decide_eq_false (by omega)
        go_wp2_with fail
        refine (drain_any 0 H 0 p v' q _ hply.hp (by rw [HNQ.out]; omega)).mono ?_
        rintro e w3 ⟨u, rfl, hu, hk3, _, _, _⟩
        have hsrc3 : SrcI w3 (.slice B nq cb) (q.map (·.1)) := Src.kp hply.src hk3 (fun gg _ e e2 => hply.ne_ gg e2 e)
        have hnw3 := hply.nw.own hk3 hply.ft
        go_wp2_with fail
        refine (same_true u _ _ w3 hu.src hsrc3 (by rw [List.length_map, HNQ.out]; omega)).mono ?_
        rintro e w4 ⟨rfl, hk4⟩
        go_wp2_with fail
        go_ret
        exact ⟨rfl, hnw3.tr hk4⟩
end Go.Proofs.Ytogfcenebbipeaa.W
