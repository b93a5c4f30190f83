/-
  fretsawlaw04.LexWrite returns true for every text and every list of tokens. Condition: the table of the powers of ten is laid; the tokens are read.
-/
import Derived.Test.YtggdblmjnbnddaaDoorLRj
import Derived.Test.YtggdblmjnbnddaaDoorLAw
import Derived.Test.YtggdblmjnbnddaaDoorLArg
namespace Go.Proofs.YtggdblmjnbnddaaDoor.W
open Go.RowKit Go.Proofs.YtggdblmjnbnddaaDoor.Pl

theorem itoa_len {n : Int} (h0 : -9223372036854775808 ≤ n) (h1 : n ≤ 9223372036854775807) : (Lib.itoa n).length ≤ 21 := by
  unfold Lib.itoa
  split
  · have := dec_len (u := n.natAbs) (by omega)
    rw [List.length_cons]
    omega
  · have := dec_len (u := n.toNat) (by omega)
    omega
theorem wr_len {t : Tk} (hf : Fit t) (h : t.text.length ≤ 60) : (wr t).length ≤ 60 := by
  unfold wr
  split
  · have := itoa_len hf.1 hf.2
    omega
  · exact h
theorem jn_small : ∀ l : List Tk, (∀ t ∈ l, (wr t).length ≤ 60) → (jn l).length ≤ 61 * l.length := by
  intro l h
  have h1 := jn_length l
  have h2 : total l ≤ 60 * l.length := by
    clear h1
    induction l with
    | nil => exact Nat.le_refl _
    | cons t r ih =>
      have h3 := h t (by simp)
      have h4 := ih fun u hu => h u (by simp [hu])
      unfold total at h4 ⊢
      rw [List.map_cons, List.sum_cons, List.length_cons]
      omega
  omega

set_option maxRecDepth 100000 in
set_option maxHeartbeats 3200000 in
theorem write_walk (s : ByteArray) (v : Value) (l : List Tk) (w : World) (hT : Tab w) (hs : SrcT w v l) (hf : ∀ t ∈ l, Fit t) :
    Calls Tryd.prog 4 #[.string s, v] w fun e w' => e = .returned (.bool true) ∧ Nw w w' := by
  obtain ⟨b, rfl⟩ : ∃ b, tx b = s := ⟨_, tx_of s⟩
  obtain ⟨A, cap, rfl⟩ := hs.shape
  have hsz := tx_size b
  obtain ⟨n, hn⟩ : ∃ n, b.length = n := ⟨_, rfl⟩
  obtain ⟨m, hm⟩ : ∃ m, l.length = m := ⟨_, rfl⟩
  rw [hn] at hsz
  have HN := Lib.hid hn
  have HM := Lib.hid hm
  have HS := Lib.hid hs
  rw [hm]
  clear hn hm hs
  by_cases hbig : 60 < n
  · go_enter Tryd.func4, Tryd.ntmps4
    go_wp2_with (go_at_call 10; ((with_reducible refine (awake_any _).mono ?_); rintro e w1 ⟨rfl, hk1⟩))
    go_ret
    exact ⟨rfl, hk1⟩
  by_cases hbig2 : 30 < m
  · go_enter Tryd.func4, Tryd.ntmps4
    go_wp2_with (go_at_call 10; ((with_reducible refine (awake_any _).mono ?_); rintro e w1 ⟨rfl, hk1⟩))
    go_ret
    exact ⟨rfl, hk1⟩
  have hmi : (m : Int) ≤ 30 := by omega
  go_enter Tryd.func4, Tryd.ntmps4
  go_wp2_with fail
  refine (awake_any _).mono ?_
  rintro e w1 ⟨rfl, hk1⟩
  have HK1 := Lib.hid hk1
  clear hk1
  go_wp2_with fail
  go_loopw [5, 6] (fun u i wr => ∃ (k : Nat), i = .int .i64 k ∧ k ≤ m ∧ wr.ownsRow w1.heap.size 35 4 u k (flat tkC (l.take k)) ∧ (∀ t ∈ l.take k, t.text.length ≤ 60) ∧ Nw w1 wr) (fun _ i _ => m - (intOf i).toNat)
  case atStart => exact ⟨0, rfl, Nat.zero_le _, World.ownsRow_nil _ _ _ _, fun t ht => by simp at ht, Kp.refl _ _⟩
  case round =>
    obtain ⟨k, rfl, hk, hown, hsm, hnw⟩ := hrel
    by_cases hlt : k < m
    · have hkl : k < l.length := by have := HM.out; omega
      obtain ⟨x, hx⟩ : ∃ x, l[k]? = some x := ⟨_, List.getElem?_eq_getElem hkl⟩
      have hsu := (HS.out).nw (HK1.out.tr hnw)
      obtain ⟨g, o, c2, hv2, _, _⟩ := hsu.form (by omega)
      simp only [Value.slice.injEq] at hv2
      have hA := hv2.1
      clear hv2
      obtain ⟨x0, x1, x2, x3⟩ := hsu.at_ hA hx
      subst hA
      have hkn : (k : Int) < (m : Int) := by omega
      have hd1 : decide ((k : Int) < (m : Int)) = true := decide_eq_true hkn
      have hst := tx_size x.text
      by_cases hxl : 60 < x.text.length
      · clear hsu
        have HW := Lib.hid hnw
        clear hnw hown
        go_wp2_with fail
        go_ret
        exact ⟨rfl, HK1.out.tr HW.out⟩
      · have e : l.take (k + 1) = l.take k ++ [x] := by rw [List.take_add_one, hx]; rfl
        have HO := Lib.hid hown
        have HW := Lib.hid hnw
        have HE := Lib.hid e
        have HSM := Lib.hid (show ∀ t ∈ l.take (k + 1), t.text.length ≤ 60 from fun t ht => by rw [e] at ht; rcases List.mem_append.1 ht with h | h; exact hsm t h; rw [List.mem_singleton] at h; subst h; omega)
        have HF := Lib.hid (hf x (List.mem_of_getElem? hx))
        have HX := Lib.hid hx
        clear hsu hown hnw e hsm hx
        go_wp2_with (at_builtin; refine wp_pushG rfl (.tmp 30) (.tmp 35) 23 35 4 40 (.agg #[.int .i64 0, .string { data := #[] }, .int .i64 0, .int .i64 0]) rfl Tryd.underlying23 infoTk rfl (by omega) w1.heap.size k _ (flat tkC (l.take k)) [.int .i64 x.kind, .string (tx x.text), .int .i64 x.n, .int .i64 x.at_] rfl HO.out rfl ?_ rfl ?_ ?_ HW.out.size ?_; (intro u hu; simp at hu; rcases hu with rfl | rfl | rfl | rfl <;> rfl); omega; omega; intro v5 w5 own5 gr5)
        have hn5 := gr5.nw HW.out (own_from HO.out)
        have ow5 : w5.ownsRow w1.heap.size 35 4 v5 (k + 1) (flat tkC (l.take (k + 1))) := by
          rw [HE.out, flat_snoc]
          exact own5
        have htl : (l.take (k + 1)).length = k + 1 := by rw [List.length_take]; omega
        obtain ⟨G, cap5, hv5, hc5, hc6, hG5⟩ := own_form ow5 (by omega)
        subst hv5
        have hsr5 : SrcT w5 (.slice (some ⟨G, 0, none⟩) (k + 1) cap5) (l.take (k + 1)) := by
          unfold SrcT
          rw [htl]
          exact own_src ow5
        have hx5 : (l.take (k + 1))[k]? = some x := by rw [List.getElem?_take_of_lt (by omega)]; exact HX.out
        have hSS : ∀ w', Nw w5 w' → (w'.cell? (⟨G, k * 4, none⟩ : Addr) = some (.int .i64 x.kind) ∧ w'.cell? (⟨G, k * 4 + 1, none⟩ : Addr) = some (.string (tx x.text)) ∧ w'.cell? (⟨G, k * 4 + 2, none⟩ : Addr) = some (.int .i64 x.n) ∧ w'.cell? (⟨G, k * 4 + 3, none⟩ : Addr) = some (.int .i64 x.at_)) ∧ (w'.cell? (⟨g, o + k * 4, none⟩ : Addr) = some (.int .i64 x.kind) ∧ w'.cell? (⟨g, o + k * 4 + 1, none⟩ : Addr) = some (.string (tx x.text)) ∧ w'.cell? (⟨g, o + k * 4 + 2, none⟩ : Addr) = some (.int .i64 x.n) ∧ w'.cell? (⟨g, o + k * 4 + 3, none⟩ : Addr) = some (.int .i64 x.at_)) := fun w' hk => by
          have h1 := (hsr5.nw hk).at_ rfl hx5
          have h2 := ((HS.out).nw ((HK1.out.tr hn5).tr hk)).at_ rfl HX.out
          rw [Nat.zero_add] at h1
          exact ⟨h1, h2⟩
        have HSS := Lib.hid hSS
        have HOW := Lib.hid ow5
        have HN5 := Lib.hid hn5
        have HT := Lib.hid (show ∀ w', Nw w5 w' → Tab w' from fun w' hk => hT.nw ((HK1.out.tr hn5).tr hk))
        have hww := fun (w' : World) hk => write_any x w' HF.out (HT.out w' hk)
        have hwr := fun w' => refWrite_any x w' HF.out
        obtain ⟨u, hu⟩ : ∃ u, Pl.wr x = u := ⟨_, rfl⟩
        rw [hu] at hwr
        simp only [hu] at hww
        have hul := tx_toList u
        have hkk : (k : Int) < (k : Int) + 1 := by omega
        have HC := Lib.hid (show Nw w5 w5.drew from (Kp.refl _ w5).drew)
        obtain ⟨⟨p0, p1, p2, p3⟩, q0, q1, q2, q3⟩ := HSS.out _ HC.out
        clear hSS own5 gr5 ow5 hsr5 hx5 hn5 x0 x1 x2 x3 hu htl hst
        go_region_with (first
          | (go_at_call 15; ((with_reducible refine (hww _ HC.out).mono ?_); rintro e wz ⟨rfl, hkz⟩; have HC := Lib.hid (HC.out.tr hkz); obtain ⟨⟨p0, p1, p2, p3⟩, q0, q1, q2, q3⟩ := HSS.out _ HC.out))
          | (go_at_call 16; ((with_reducible refine (hwr _).mono ?_); rintro e wz ⟨rfl, hkz⟩; have HC := Lib.hid (HC.out.tr hkz); obtain ⟨⟨p0, p1, p2, p3⟩, q0, q1, q2, q3⟩ := HSS.out _ HC.out)))
        all_goals
          go_wp2_with fail
          go_roundw
          case rel => exact ⟨k + 1, by go_num, by omega, own_nw HOW.out HC.out, HSM.out, HN5.out.tr HC.out⟩
          case measure => simp [intOf]; omega
    · obtain rfl : k = m := by omega
      have hd1 : decide ((k : Int) < (k : Int)) = false := decide_eq_false (by omega)
      have htk : l.take k = l := List.take_of_length_le (by have := HM.out; omega)
      rw [htk] at hown hsm
      have hjl : (jn l).length ≤ 1830 := by
        have := jn_small l fun t ht => wr_len (hf t ht) (hsm t ht)
        have := HM.out
        omega
      have hll : l.length ≤ 30 := by have := HM.out; omega
      have HO := Lib.hid (show SrcT wr u5 l by unfold SrcT; rw [HM.out]; exact own_src hown)
      have HW := Lib.hid (HK1.out.tr hnw)
      have hnm := fun w1 => isName_any b w1 (by have := HN.out; omega)
      have hrn := fun w1 => refIsName_any b w1 (by have := HN.out; omega)
      have hu := tx_toList (jn l)
      clear hown hnw htk hsm
      go_wp2_with fail
      refine (hnm _).mono ?_
      rintro e w4 ⟨rfl, rfl⟩
      go_wp2_with fail
      refine (hrn _).mono ?_
      rintro e w4 ⟨rfl, rfl⟩
      generalize isNameB b = nb at *
      go_wp2_with fail
      refine (join_any u5 l _ HO.out hf (hT.nw HW.out) (by omega) (by omega)).mono ?_
      rintro e w4 ⟨rfl, hk4⟩
      have HW4 := Lib.hid (HW.out.tr hk4)
      have HS4 := Lib.hid (show SrcT w4 (.slice A k cap) l by have := HS.out.nw HW4.out; rw [HM.out] at this; exact this)
      clear hk4
      go_wp2_with fail
      with_reducible refine (refJoin_any _ l w4 HS4.out hf (by omega) (by omega)).mono ?_
      rintro e w5 ⟨rfl, hk5⟩
      have HW5 := Lib.hid (HW4.out.tr hk5)
      clear hk5
      go_wp2_with fail
      go_ret
      exact ⟨rfl, HW5.out⟩
end Go.Proofs.YtggdblmjnbnddaaDoor.W
