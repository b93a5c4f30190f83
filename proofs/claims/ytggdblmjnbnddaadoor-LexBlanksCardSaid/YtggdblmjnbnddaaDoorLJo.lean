/-
  Join of lex: the texts of the tokens with single spaces between them. Condition: the table of the powers of ten is laid; the tokens' numbers are ints; at most 2^40 tokens, the text takes at most 2^47 bytes.
-/
import Derived.Test.YtggdblmjnbnddaaDoorLWr
import Derived.Test.YtggdblmjnbnddaaDoorLPw
namespace Go.Proofs.YtggdblmjnbnddaaDoor.W
open Go.RowKit Go.Proofs.YtggdblmjnbnddaaDoor.Pl



theorem infoStr : (Tryd.prog.info? 9).map (fun i => (i.zero, i.size, i.bytes)) = some (some (.string { data := #[] }), 1, 16) := by kernel_rfl
/-- the texts of the first k tokens, then empty ones -/
def textsL (l : List Tk) (k : Nat) : List Value := (l.take k).map (fun t => .string (tx (wr t))) ++ List.replicate (l.length - k) (.string { data := #[] })
theorem textsL_zero (l : List Tk) : textsL l 0 = List.replicate l.length (.string { data := #[] }) := by simp [textsL]
theorem textsL_all (l : List Tk) : textsL l l.length = l.map fun t => .string (tx (wr t)) := by simp [textsL]
theorem textsL_set {l : List Tk} {k : Nat} {x : Tk} (h : l[k]? = some x) : (textsL l k).set k (.string (tx (wr x))) = textsL l (k + 1) := by
  have hk := (List.getElem?_eq_some_iff.1 h).1
  unfold textsL
  obtain ⟨m, hm⟩ : ∃ m, l.length - k = m + 1 := ⟨l.length - k - 1, by omega⟩
  have e : l.take (k + 1) = l.take k ++ [x] := by rw [List.take_add_one, h]; rfl
  have hl : ((l.take k).map fun t => Value.string (tx (wr t))).length = k := by simp; omega
  rw [hm, List.replicate_succ, List.set_append_right _ _ (by omega), hl, Nat.sub_self, List.set_cons_zero, e, List.map_append, List.append_assoc, show l.length - (k + 1) = m by omega]
  rfl
theorem textsL_at (l : List Tk) (k : Nat) (h : k < l.length) : (textsL l k)[k]? = some (.string { data := #[] }) := by
  have hl : ((l.take k).map fun t => Value.string (tx (wr t))).length = k := by simp; omega
  unfold textsL
  rw [List.getElem?_append_right (by omega), hl, Nat.sub_self, List.getElem?_replicate, if_pos (by omega)]
theorem made_strs (n : Nat) : (madeCells (Value.string { data := #[] }).cells (n * 1)).toList = List.replicate n (.string { data := #[] }) := by
  rw [Nat.mul_one, show (Value.string { data := #[] }).cells = #[Value.string { data := #[] }] from rfl, toList_madeCells_one]

theorem strJoin_any (G c : Nat) (xs : List ByteArray) (sep : List UInt8) (w : World) (hcells : ∀ (j : Nat) x, xs[j]? = some x → w.cell? ⟨G, 0 + j, none⟩ = some (.string x)) (hbk : G < w.heap.size) (hN : xs.length ≤ 140737488355328) (hcap : xs.length ≤ c)
    (hlen : (Lib.join (xs.map (·.data.toList)) sep).length ≤ 140737488355328) :
    Calls Tryd.prog 33 #[.slice (some ⟨G, 0, none⟩) xs.length c, .string (tx sep)] w fun e w' => e = .returned (.string (tx (Lib.join (xs.map (·.data.toList)) sep))) ∧ Nw w w' :=
  (Any.strings_Join Tryd.lays156 Tryd.Builder_Extra_156 G 0 c xs (tx sep) w hcells hbk hN hcap (by rw [tx_list]; exact hlen)).mono fun _ _ ⟨h, h'⟩ => ⟨by rw [h, tx_list]; rfl, Kp.of_below h'⟩

set_option maxRecDepth 100000 in
set_option maxHeartbeats 3200000 in
theorem join_any (v : Value) (l : List Tk) (w : World) (hs : SrcT w v l) (hf : ∀ t ∈ l, Fit t) (hT : Tab w) (hlen : l.length ≤ 1099511627775) (hj : (jn l).length ≤ 140737488355328) :
    Calls Tryd.prog 19 #[v] w fun e w' => e = .returned (.string (tx (jn l))) ∧ Nw w w' := by
  obtain ⟨A, cap, rfl⟩ := hs.shape
  obtain ⟨n, hn⟩ : ∃ n, l.length = n := ⟨_, rfl⟩
  have hni : (n : Int) ≤ 1099511627775 := by omega
  have HN := Lib.hid hn
  have HS := Lib.hid hs
  rw [hn]
  clear hn hs
  go_enter Tryd.func19, Tryd.ntmps19
  go_wp2_with (at_make; refine wpList_make_full _ rfl _ _ 56 rfl w.heap.size 9 (info_parts infoStr).choose (.string { data := #[] }) 1 Tryd.underlying56 (info_parts infoStr).choose_spec.1 (info_parts infoStr).choose_spec.2.1 (info_parts infoStr).choose_spec.2.2.1 .i64 .i64 _ _ n rfl rfl rfl rfl (by rw [(info_parts infoStr).choose_spec.2.2.2]; omega) (by unfold maxLen; omega) (Nat.le_refl _) ?_; intro w1 own1 gr1)
  obtain ⟨G, hG⟩ : ∃ G, w.heap.size = G := ⟨_, rfl⟩
  rw [made_strs, ← HN.out, ← textsL_zero, HN.out] at own1
  have hk1 : Nw w w1 := (Kp.refl _ w).grown gr1 (fun k e => by cases e)
  have HO1 := Lib.hid own1
  have HK1 := Lib.hid hk1
  have HG := Lib.hid hG
  clear own1 gr1 hk1 hG
  go_loopw [11] (fun i wv => ∃ (k : Nat), i = .int .i64 k ∧ k ≤ n ∧ wv.ownsRow w.heap.size 9 1 (.slice (some ⟨w.heap.size, 0, none⟩) n n) n (textsL l k) ∧ Nw w wv) (fun i _ => n - (intOf i).toNat)
  case atStart => exact ⟨0, rfl, Nat.zero_le _, HO1.out, HK1.out⟩
  case round =>
    obtain ⟨k, rfl, hk, hown, hnw⟩ := hrel
    rw [HG.out] at hown ⊢
    by_cases hlt : k < n
    · have hkl : k < l.length := by have := HN.out; omega
      obtain ⟨x, hx⟩ : ∃ x, l[k]? = some x := ⟨_, List.getElem?_eq_getElem hkl⟩
      have hsu := (HS.out).nw hnw
      obtain ⟨g, o, c2, hv2, _, _⟩ := hsu.form (by omega)
      simp only [Value.slice.injEq] at hv2
      have hA := hv2.1
      clear hv2
      obtain ⟨x0, x1, x2, x3⟩ := hsu.at_ hA hx
      subst hA
      have hkn : (k : Int) < (n : Int) := by omega
      have hd1 : decide ((k : Int) < (n : Int)) = true := decide_eq_true hkn
      have hG0 : G < wr.heap.size := own_lt hown G rfl
      have hal : Nw wr (wr.alloc (.cells #[.int .i64 x.kind, .string (tx x.text), .int .i64 x.n, .int .i64 x.at_] 35)) := (Kp.refl _ wr).alloc _
      have HT := Lib.hid (hT.nw (hnw.tr hal))
      have HAL := Lib.hid hal
      have HO := Lib.hid hown
      have HW := Lib.hid hnw
      have HX := Lib.hid hx
      have HF := Lib.hid (hf x (List.mem_of_getElem? hx))
      clear hx hsu hown hnw hal
      go_wp2_with fail
      refine (write_any x _ HF.out HT.out).mono ?_
      rintro e w2 ⟨rfl, hk2⟩
      have hn2 := HAL.out.tr hk2
      have hO2 := own_nw HO.out hn2
      have f2 := hO2.frozenAt k
      have c2 := (hO2.cellAt k (by omega)).trans (textsL_at l k hkl)
      have hG2 : G < w2.heap.size := own_lt hO2 G rfl
      have hset := (hO2.stored k (.string (tx (Pl.wr x)))).1
      rw [textsL_set HX.out] at hset
      have hk3 := kp_set w2 G k (.string (tx (Pl.wr x)))
      have HS3 := Lib.hid hset
      have HN3 := Lib.hid ((HW.out.tr hn2).own hk3 (fun b e => by rw [e]; exact Nat.le_of_eq HG.out))
      clear hk2 hn2 hO2 hset hk3 x0 x1 x2 x3
      go_wp2_with fail
      go_roundw
      case rel => exact ⟨k + 1, by go_num, by omega, HS3.out, HN3.out⟩
      case measure => simp [intOf]; omega
    · obtain rfl : k = n := by omega
      have hd1 : decide ((k : Int) < (k : Int)) = false := decide_eq_false (by omega)
      have HO := Lib.hid hown
      have HW := Lib.hid hnw
      have hG0 : G < wr.heap.size := own_lt hown G rfl
      have hj : ∀ w1 : World, wr = w1 → Calls Tryd.prog 33 #[.slice (some ⟨G, 0, none⟩) k k, .string { data := #[32] }] w1 fun e w' => e = .returned (.string (tx (jn l))) ∧ Nw w1 w' := by
        rintro w1 rfl
        have := strJoin_any G k (l.map fun t => tx (Pl.wr t)) [32] wr (fun j y hy => ?_) hG0 (by rw [List.length_map, HN.out]; omega) (by rw [List.length_map, HN.out]; omega) (by rw [List.map_map]; exact hj)
        · rw [List.length_map, HN.out, List.map_map] at this
          exact this
        · have hjl : j < k := by have := (List.getElem?_eq_some_iff.1 hy).1; rw [List.length_map, HN.out] at this; exact this
          have := HO.out.cellAt j (by omega)
          have e : textsL l k = l.map fun t => .string (tx (Pl.wr t)) := by rw [← HN.out]; exact textsL_all l
          rw [Nat.zero_add, this, e]
          rw [List.getElem?_map, Option.map_eq_some_iff] at hy ⊢
          obtain ⟨t, ht, rfl⟩ := hy
          exact ⟨t, ht, rfl⟩
      clear hown hnw
      go_wp2_with (go_at_call 33; refine (hj _ rfl).mono ?_; rintro e w2 ⟨rfl, hk2⟩)
      go_ret
      exact ⟨rfl, HW.out.tr hk2⟩
end Go.Proofs.YtggdblmjnbnddaaDoor.W
