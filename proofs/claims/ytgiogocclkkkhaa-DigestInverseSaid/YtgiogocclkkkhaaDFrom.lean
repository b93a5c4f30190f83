/-
  digest.From, digest.Of, fretsawref02.From, fretsawref02.Of: of a slice that reads as bytes the calls return the checksum. Conditions: the seed has 64 bits; the list is shorter than 2^62.
-/
import Derived.Test.YtgiogocclkkkhaaDStep
import Derived.Test.YtgiogocclkkkhaaSameL
namespace Go.Proofs.Ytgiogocclkkkhaa.W
open Go.RowKit Go.Proofs.Ytgiogocclkkkhaa.Pl

theorem u64_1 : U64 1 := ⟨by decide, by decide⟩
theorem take_sum {h : Int} {l : List Int} {k : Nat} {x : Int} (hx : l[k]? = some x) : sum h (l.take (k + 1)) = stp (sum h (l.take k)) x := by
  rw [List.take_add_one, hx]
  exact sum_snoc _ _ _

set_option maxRecDepth 100000 in
set_option maxHeartbeats 800000 in
theorem from_any (h : Int) (v : Value) (l : List Int) (w : World) (hh : U64 h) (hv : Src w 1 v l.length (bytes l)) (hb : By l) (hl : l.length ≤ 4611686018427387904) :
    Calls Try.prog 22 #[.int .u64 h, v] w fun e w' => e = .returned (.int .u64 (sum h l)) ∧ w = w' := by
  obtain ⟨A, c, rfl⟩ := hv.shape
  obtain ⟨n, hn⟩ : ∃ n, n = l.length := ⟨_, rfl⟩
  have h1 : n ≤ 4611686018427387904 := by omega
  rw [← hn]
  have HN := Lib.hid hn
  have HB := Lib.hid hb
  have HH := Lib.hid hh
  clear hn hl hb hh
  go_enter Try.func22, Try.ntmps22
  go_wp2
  go_loop [5, 11] (fun s i => ∃ k : Nat, k ≤ n ∧ i = .int .i64 k ∧ s = .int .u64 (sum h (l.take k))) (fun _ i => n - (intOf i).toNat)
  case atStart => exact ⟨0, by omega, rfl, rfl⟩
  case round =>
    obtain ⟨k, hk, rfl, rfl⟩ := hrel
    by_cases hlt : k < n
    · obtain ⟨g, o, cc, hv1, hcells⟩ := Src.form hv (by have := HN.out; omega) (by omega)
      simp only [Value.slice.injEq] at hv1
      obtain ⟨rfl, _, rfl⟩ := hv1
      obtain ⟨x, hx⟩ : ∃ x, l[k]? = some x := ⟨l[k]'(by rw [← HN.out]; exact hlt), List.getElem?_eq_getElem _⟩
      have hc := hcells k (.int .u8 x) (by unfold bytes; rw [List.getElem?_map, hx]; rfl)
      have hx8 := HB.out x (List.mem_of_getElem? hx)
      have HX := Lib.hid hx
      clear hx hcells
      go_wp2_with (go_at_call 58; (with_reducible refine (step_any _ _ _ (sum_u64 _ _ HH.out) hx8).mono ?_); rintro e w' ⟨rfl, rfl⟩)
      go_round
      case rel => exact ⟨k + 1, by omega, by go_num, by rw [take_sum HX.out]⟩
      case measure => simp [intOf]; omega
    · obtain rfl : k = n := by omega
      go_wp2
      go_ret
      exact ⟨by rw [HN.out, List.take_length]; rfl, rfl⟩

theorem of_any (v : Value) (l : List Int) (w : World) (hv : Src w 1 v l.length (bytes l)) (hb : By l) (hl : l.length ≤ 4611686018427387904) :
    Calls Try.prog 20 #[v] w fun e w' => e = .returned (.int .u64 (sum 1 l)) ∧ w = w' := by
  go_enter Try.func20, Try.ntmps20
  go_wp2_with (go_at_call 22; (with_reducible refine (from_any _ _ _ _ u64_1 hv hb hl).mono ?_); rintro e w' ⟨rfl, rfl⟩)
  go_ret
  exact ⟨rfl, rfl⟩

set_option maxRecDepth 100000 in
set_option maxHeartbeats 800000 in
theorem refFrom_any (h : Int) (v : Value) (l : List Int) (w : World) (hh : U64 h) (hv : Src w 1 v l.length (bytes l)) (hb : By l) (hl : l.length ≤ 4611686018427387904) :
    Calls Try.prog 23 #[.int .u64 h, v] w fun e w' => e = .returned (.int .u64 (sum h l)) ∧ w = w' := by
  obtain ⟨A, c, rfl⟩ := hv.shape
  obtain ⟨n, hn⟩ : ∃ n, n = l.length := ⟨_, rfl⟩
  have h1 : n ≤ 4611686018427387904 := by omega
  rw [← hn]
  have HN := Lib.hid hn
  have HB := Lib.hid hb
  have HH := Lib.hid hh
  clear hn hl hb hh
  go_enter Try.func23, Try.ntmps23
  go_wp2
  go_loop [5, 6] (fun s i => ∃ k : Nat, k ≤ n ∧ i = .int .i64 k ∧ s = .int .u64 (sum h (l.take k))) (fun _ i => n - (intOf i).toNat)
  case atStart => exact ⟨0, by omega, rfl, rfl⟩
  case round =>
    obtain ⟨k, hk, rfl, rfl⟩ := hrel
    by_cases hlt : k < n
    · obtain ⟨g, o, cc, hv1, hcells⟩ := Src.form hv (by have := HN.out; omega) (by omega)
      simp only [Value.slice.injEq] at hv1
      obtain ⟨rfl, _, rfl⟩ := hv1
      obtain ⟨x, hx⟩ : ∃ x, l[k]? = some x := ⟨l[k]'(by rw [← HN.out]; exact hlt), List.getElem?_eq_getElem _⟩
      have hc := hcells k (.int .u8 x) (by unfold bytes; rw [List.getElem?_map, hx]; rfl)
      obtain ⟨x0, x1⟩ := HB.out x (List.mem_of_getElem? hx)
      obtain ⟨s0, s1⟩ := sum_u64 h (l.take k) HH.out
      have HX := Lib.hid hx
      clear hx hcells
      go_wp2
      go_round
      case rel => exact ⟨k + 1, by omega, by go_num, by rw [take_sum HX.out]; rfl⟩
      case measure => simp [intOf]; omega
    · obtain rfl : k = n := by omega
      go_wp2
      go_ret
      exact ⟨by rw [HN.out, List.take_length]; rfl, rfl⟩

theorem refOf_any (v : Value) (l : List Int) (w : World) (hv : Src w 1 v l.length (bytes l)) (hb : By l) (hl : l.length ≤ 4611686018427387904) :
    Calls Try.prog 21 #[v] w fun e w' => e = .returned (.int .u64 (sum 1 l)) ∧ w = w' := by
  go_enter Try.func21, Try.ntmps21
  go_wp2_with (go_at_call 23; (with_reducible refine (refFrom_any _ _ _ _ u64_1 hv hb hl).mono ?_); rintro e w' ⟨rfl, rfl⟩)
  go_ret
  exact ⟨rfl, rfl⟩

theorem few_any (v : Value) (l : List Int) (w : World) (hv : Src w 1 v l.length (bytes l)) :
    Calls Try.prog 19 #[v] w fun e w' => e = .returned (.bool (decide (l.length ≤ 400))) ∧ w = w' := by
  obtain ⟨A, c, rfl⟩ := hv.shape
  go_enter Try.func19, Try.ntmps19
  go_wp2
  go_ret
  exact ⟨ret_bool (decide_eq_decide.2 (by omega)), rfl⟩
end Go.Proofs.Ytgiogocclkkkhaa.W
