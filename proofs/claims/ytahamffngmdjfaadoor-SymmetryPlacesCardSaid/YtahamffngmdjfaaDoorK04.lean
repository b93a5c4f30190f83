/-
  Lists of vectors and boxes in memory. No condition.
  vec, plain: the turn and the order of small vectors; no program. Condition: the coordinates are within 2^28 where it says so.
  Regions that draw their order, whose operations only read and whose callees leave all old blocks alone: one walk. No condition.
  symmetry and its reference: Valid, Mirrors, Odd, Grain: what each returns; none touches memory. No condition.
-/
import Derived.Test.YtahamffngmdjfaaDoorK03
import Derived.Test.YtahamffngmdjfaaDoorK01
import Derived.Deep.QuietTactic
import Derived.Shelf.SlSortCmp.QuietGrown
namespace Go.Proofs.YtahamffngmdjfaaDoor.W
open Go.RowKit Go.Proofs.YtahamffngmdjfaaDoor.V

abbrev vC (p : Int × Int) : List Value := [.int .i64 p.1, .int .i64 p.2]
/-- a slice that reads as these vectors -/
abbrev SrcV (w : World) (v : Value) (l : List (Int × Int)) : Prop := Src w 2 v l.length (l.flatMap vC)
theorem flatV_at : ∀ (l : List (Int × Int)) (k : Nat) (p : Int × Int), l[k]? = some p → (l.flatMap vC)[k * 2]? = some (.int .i64 p.1) ∧ (l.flatMap vC)[k * 2 + 1]? = some (.int .i64 p.2)
  | [], k, p, h => by simp at h
  | q :: r, 0, p, h => by
    obtain rfl : q = p := by simpa using h
    exact ⟨rfl, rfl⟩
  | q :: r, k + 1, p, h => by
    have hr := flatV_at r k p (by simpa using h)
    rw [List.flatMap_cons, show (k + 1) * 2 = k * 2 + 1 + 1 by omega]
    exact ⟨by simpa [vC] using hr.1, by simpa [vC] using hr.2⟩
theorem flatV_len (l : List (Int × Int)) : (l.flatMap vC).length = l.length * 2 := by
  induction l with
  | nil => rfl
  | cons x r ih => rw [List.flatMap_cons, List.length_append, ih, List.length_cons]; show 2 + r.length * 2 = (r.length + 1) * 2; omega
abbrev boxV (b : Int × Int × Int × Int) : Value := bV b.1 b.2.1 b.2.2.1 b.2.2.2
abbrev boxC (b : Int × Int × Int × Int) : Array Value := #[.int .i64 b.1, .int .i64 b.2.1, .int .i64 b.2.2.1, .int .i64 b.2.2.2]
theorem Blk.lay4a {w : World} {g : Nat} {t : TypeId} {a b c d : Value} (h : Blk w g t #[a, b, c, d]) (x y : Value) : Blk ((w.setCell ⟨g, 0, none⟩ x).setCell ⟨g, 1, none⟩ y) g t #[x, y, c, d] := (h.set_ 0 x).set_ 1 y
theorem Blk.lay4b {w : World} {g : Nat} {t : TypeId} {a b c d : Value} (h : Blk w g t #[a, b, c, d]) (x y : Value) : Blk ((w.setCell ⟨g, 2, none⟩ x).setCell ⟨g, 3, none⟩ y) g t #[a, b, x, y] := (h.set_ 2 x).set_ 3 y
theorem Blk.four {w : World} {g : Nat} {t : TypeId} {a b c d : Value} (h : Blk w g t #[a, b, c, d]) : w.cell? ⟨g, 0, none⟩ = some a ∧ w.cell? ⟨g, 1, none⟩ = some b ∧ w.cell? ⟨g, 2, none⟩ = some c ∧ w.cell? ⟨g, 3, none⟩ = some d ∧ w.frozen? ⟨g, 0, none⟩ = false ∧ w.frozen? ⟨g, 1, none⟩ = false ∧ w.frozen? ⟨g, 2, none⟩ = false ∧ w.frozen? ⟨g, 3, none⟩ = false :=
  ⟨h.cell 0, h.cell 1, h.cell 2, h.cell 3, h.frozen 0, h.frozen 1, h.frozen 2, h.frozen 3⟩

end Go.Proofs.YtahamffngmdjfaaDoor.W

namespace Go.Proofs.YtahamffngmdjfaaDoor.V
open Go.RowKit

def Sm (x y : Int) : Prop := -268435456 ≤ x ∧ x ≤ 268435456 ∧ -268435456 ≤ y ∧ y ≤ 268435456
theorem within_sm {x y : Int} (h : withinV x y 268435456 = true) : Sm x y := by
  unfold withinV at h
  rw [show w64 (-268435456) = -268435456 by rw [w64_eq]; omega] at h
  simp at h
  unfold Sm
  omega
theorem i64_w (n : Int) : IntKind.i64.wrap n = w64 n := by rw [IntKind.wrap_i64, w64_eq]
theorem turn_cyc (ax ay bx bz cx cy : Int) : turnV bx bz cx cy ax ay = turnV ax ay bx bz cx cy := by
  unfold turnV
  rw [show (cx - bx) * (ay - bz) - (cy - bz) * (ax - bx) = (bx - ax) * (cy - ay) - (bz - ay) * (cx - ax) by grind]
theorem turn_moved (ax ay bx bz cx cy vx vy : Int) : turnV (w64 (ax + vx)) (w64 (ay + vy)) (w64 (bx + vx)) (w64 (bz + vy)) (w64 (cx + vx)) (w64 (cy + vy)) = turnV ax ay bx bz cx cy := by
  rw [← turn_cross, ← turn_cross, w64_sub, w64_sub, w64_sub, w64_sub]
  rw [show bx + vx - (ax + vx) = bx - ax by omega, show bz + vy - (ay + vy) = bz - ay by omega, show cx + vx - (ax + vx) = cx - ax by omega, show cy + vy - (ay + vy) = cy - ay by omega]
theorem turn_same (ax ay bx bz : Int) : turnV ax ay bx bz bx bz = 0 := by
  unfold turnV
  rw [Int.mul_comm (bz - ay), Int.sub_self, w64_id ⟨by omega, by omega⟩]
  rfl
theorem abs_mul {x y : Int} (hx : x.natAbs ≤ 536870912) (hy : y.natAbs ≤ 536870912) : (x * y).natAbs ≤ 288230376151711744 := by
  rw [Int.natAbs_mul]
  exact Nat.mul_le_mul hx hy
theorem sgn_neg (n : Int) : sgn (-n) = -sgn n := by unfold sgn; grind
theorem turn_opp {ax ay bx bz cx cy : Int} (ha : Sm ax ay) (hb : Sm bx bz) (hc : Sm cx cy) : turnV ax ay cx cy bx bz = -turnV ax ay bx bz cx cy := by
  unfold Sm at ha hb hc
  unfold turnV
  have h1 := abs_mul (x := bx - ax) (y := cy - ay) (by omega) (by omega)
  have h2 := abs_mul (x := bz - ay) (y := cx - ax) (by omega) (by omega)
  rw [Int.mul_comm (cx - ax), Int.mul_comm (cy - ay)]
  generalize (bx - ax) * (cy - ay) = X at *
  generalize (bz - ay) * (cx - ax) = Y at *
  rw [w64_id ⟨by omega, by omega⟩, w64_id ⟨by omega, by omega⟩, ← sgn_neg]
  congr 1
  omega
theorem turn_range (ax ay bx bz cx cy : Int) : -1 ≤ turnV ax ay bx bz cx cy ∧ turnV ax ay bx bz cx cy ≤ 1 := by
  unfold turnV
  rcases sgn_cases (w64 ((bx - ax) * (cy - ay) - (bz - ay) * (cx - ax))) with ⟨_, e⟩ | ⟨_, e⟩ | ⟨_, e⟩ <;> omega
theorem cmp_opp (ax ay bx bz : Int) : cmpV bx bz ax ay = -cmpV ax ay bx bz := by
  rcases cmpV_cases ax ay bx bz with ⟨h, e⟩ | ⟨h, h', e⟩ | ⟨h, e⟩ <;> rcases cmpV_cases bx bz ax ay with ⟨g, f⟩ | ⟨g, g', f⟩ | ⟨g, f⟩ <;> omega
theorem cmp_moved {ax ay bx bz vx vy : Int} (ha : Sm ax ay) (hb : Sm bx bz) (hv : Sm vx vy) : cmpV (w64 (ax + vx)) (w64 (ay + vy)) (w64 (bx + vx)) (w64 (bz + vy)) = cmpV ax ay bx bz := by
  unfold Sm at ha hb hv
  rw [w64_id (n := ax + vx) ⟨by omega, by omega⟩, w64_id (n := ay + vy) ⟨by omega, by omega⟩, w64_id (n := bx + vx) ⟨by omega, by omega⟩, w64_id (n := bz + vy) ⟨by omega, by omega⟩]
  unfold cmpV
  rw [show ay + vy - (bz + vy) = ay - bz by omega, show ax + vx - (bx + vx) = ax - bx by omega]
theorem cmp_range (ax ay bx bz : Int) : -1 ≤ cmpV ax ay bx bz ∧ cmpV ax ay bx bz ≤ 1 := by
  rcases cmpV_cases ax ay bx bz with ⟨h, e⟩ | ⟨h, h', e⟩ | ⟨h, e⟩ <;> omega
theorem cmp_zero (ax ay bx bz : Int) : cmpV ax ay bx bz = 0 ↔ ax = bx ∧ ay = bz := by
  rcases cmpV_cases ax ay bx bz with ⟨h, e⟩ | ⟨h, h', e⟩ | ⟨h, e⟩ <;> omega
theorem cmp_trans {ax ay bx bz cx cy : Int} (h1 : cmpV ax ay bx bz ≤ 0) (h2 : cmpV bx bz cx cy ≤ 0) : cmpV ax ay cx cy ≤ 0 := by
  rcases cmpV_cases ax ay bx bz with ⟨h, e⟩ | ⟨h, h', e⟩ | ⟨h, e⟩ <;> rcases cmpV_cases bx bz cx cy with ⟨g, f⟩ | ⟨g, g', f⟩ | ⟨g, f⟩ <;> rcases cmpV_cases ax ay cx cy with ⟨k, l⟩ | ⟨k, k', l⟩ | ⟨k, l⟩ <;> omega
end Go.Proofs.YtahamffngmdjfaaDoor.V

namespace Go.Proofs.YtahamffngmdjfaaDoor.W
open Go.RowKit Go.Proofs.YtahamffngmdjfaaDoor.V

theorem mixed7 : Tryd.prog.follows .mixedOrders = true := by kernel_rfl
/-- a world in which everything that was there in w is unchanged -/
structure KeptW (w : World) where
  wd : World
  since : Nw w wd
instance (w : World) : Inhabited (KeptW w) := ⟨⟨w, Kp.refl _ w⟩⟩
theorem wp_region_kept {P : Program} {id : Nat} {Q : Exit → Act → World → Prop} {a : Act} {w0 w : World} {l : List Oper} (h0 : Nw w0 w) (hm : P.follows .mixedOrders = true) (hB : Region.lexB .any l.toArray = true)
    (h : wpQuiet P l.toArray (fun w' => ∃ p : KeptW w0, w' = p.wd) (fun a' => ∀ w', (∃ p : KeptW w0, w' = p.wd) → Q .normal a' w') l a) : (Code.region id l.toArray true).wp P Q a w :=
  wp_region_quiet (C := fun w' => ∃ p : KeptW w0, w' = p.wd) hm hB ⟨⟨w.drew, h0.drew⟩, rfl⟩ (by simpa using h)
section
variable {P : Program} {f : FuncId} {args : Array Value} {w : World} {p : KeptW w} {v : Value}
theorem Calls.kept_of (h : Calls P f args p.wd fun e w' => e = .returned v ∧ Nw p.wd w') : Calls P f args p.wd fun e w'' => e = .returned v ∧ ∃ q : KeptW w, w'' = q.wd :=
  h.mono fun _ _ ⟨he, hn⟩ => ⟨he, ⟨_, p.since.tr hn⟩, rfl⟩
theorem Calls.kept_same (h : Calls P f args p.wd fun e w' => e = .returned v ∧ p.wd = w') : Calls P f args p.wd fun e w'' => e = .returned v ∧ ∃ q : KeptW w, w'' = q.wd :=
  h.mono fun _ _ ⟨he, hn⟩ => ⟨he, p, hn.symm⟩
theorem Calls.kept_first (h : Calls P f args w fun e w' => e = .returned v ∧ Nw w w') : Calls P f args w fun e w'' => e = .returned v ∧ ∃ q : KeptW w, w'' = q.wd :=
  h.mono fun _ _ ⟨he, hn⟩ => ⟨he, ⟨_, hn⟩, rfl⟩
end
theorem Blk.kept {w : World} {g : Nat} {t : TypeId} {cs : Array Value} (h : Blk w g t cs) (p : KeptW w) : Blk p.wd g t cs := h.kp p.since id

abbrev sV (ax ay bx bz : Int) : Value := .agg #[.int .i64 ax, .int .i64 ay, .int .i64 bx, .int .i64 bz]
abbrev pV (x y d : Int) : Value := .agg #[.int .i64 x, .int .i64 y, .int .i64 d]
end Go.Proofs.YtahamffngmdjfaaDoor.W

namespace Go.Proofs.YtahamffngmdjfaaDoor.W
open Go.RowKit Go.Proofs.YtahamffngmdjfaaDoor.V Go.Proofs.YtahamffngmdjfaaDoor.G


theorem tvalid_any (t : Int) (w : World) : Calls Tryd.prog 10 #[.int .i64 t] w fun e w' => e = .returned (.bool (validT t)) ∧ w = w' := by
  by_cases h0 : 0 ≤ t
  · have e0 : decide (0 ≤ t) = true := by simp [h0]
    go_enter Tryd.func10, Tryd.ntmps10
    go_wp2
    go_ret
    exact ⟨by simp [validT, e0], rfl⟩
  · have e0 : decide (0 ≤ t) = false := by simp [h0]
    go_enter Tryd.func10, Tryd.ntmps10
    go_wp2
    go_ret
    exact ⟨by simp [validT, e0], rfl⟩

theorem mirrors_any (t : Int) (w : World) : Calls Tryd.prog 18 #[.int .i64 t] w fun e w' => e = .returned (.bool (mirT t)) ∧ w = w' := by
  have c1 := fun w1 => tvalid_any t w1
  unfold mirT
  generalize validT t = a at *
  cases a
  · go_enter Tryd.func18, Tryd.ntmps18
    go_wp2_with (first | (go_at_call 10; ((with_reducible refine (c1 _).mono ?_); rintro e _ ⟨rfl, rfl⟩)) | fail)
    go_ret
    exact ⟨by simp, rfl⟩
  · go_enter Tryd.func18, Tryd.ntmps18
    go_wp2_with (first | (go_at_call 10; ((with_reducible refine (c1 _).mono ?_); rintro e _ ⟨rfl, rfl⟩)) | fail)
    go_ret
    exact ⟨by simp, rfl⟩

theorem odd_any (t : Int) (w : World) : Calls Tryd.prog 16 #[.int .i64 t] w fun e w' => e = .returned (.bool (oddT t)) ∧ w = w' := by
  have c1 := fun w1 => tvalid_any t w1
  unfold oddT
  generalize validT t = a at *
  cases a
  · go_enter Tryd.func16, Tryd.ntmps16
    go_wp2_with (first | (go_at_call 10; ((with_reducible refine (c1 _).mono ?_); rintro e _ ⟨rfl, rfl⟩)) | fail)
    go_ret
    exact ⟨by simp, rfl⟩
  · go_enter Tryd.func16, Tryd.ntmps16
    go_wp2_with (first | (go_at_call 10; ((with_reducible refine (c1 _).mono ?_); rintro e _ ⟨rfl, rfl⟩)) | fail)
    go_ret
    exact ⟨by simp, rfl⟩

theorem grain_any (t g : Int) (w : World) : Calls Tryd.prog 20 #[.int .i64 t, .int .i64 g] w fun e w' => e = .returned (.int .i64 (grainT t g)) ∧ w = w' := by
  have c1 := fun w1 => tvalid_any t w1
  have c2 := fun w1 => odd_any t w1
  obtain ⟨r, hr⟩ : ∃ r, grainT t g = r := ⟨_, rfl⟩
  rw [hr]
  obtain ⟨a, ha⟩ : ∃ a, validT t = a := ⟨_, rfl⟩
  obtain ⟨b, hb⟩ : ∃ b, oddT t = b := ⟨_, rfl⟩
  rw [ha] at c1
  rw [hb] at c2
  by_cases h1 : g = 1
  · subst h1
    cases a <;> cases b
    all_goals
      go_enter Tryd.func20, Tryd.ntmps20
      go_wp2_with (first | (go_at_call 10; ((with_reducible refine (c1 _).mono ?_); rintro e _ ⟨rfl, rfl⟩)) | (go_at_call 16; ((with_reducible refine (c2 _).mono ?_); rintro e _ ⟨rfl, rfl⟩)) | fail)
      go_ret
      exact ⟨by rw [← hr]; simp [grainT, ha, hb], rfl⟩
  · by_cases h2 : g = 2
    · subst h2
      cases a <;> cases b
      all_goals
        go_enter Tryd.func20, Tryd.ntmps20
        go_wp2_with (first | (go_at_call 10; ((with_reducible refine (c1 _).mono ?_); rintro e _ ⟨rfl, rfl⟩)) | (go_at_call 16; ((with_reducible refine (c2 _).mono ?_); rintro e _ ⟨rfl, rfl⟩)) | fail)
        go_ret
        exact ⟨by rw [← hr]; simp [grainT, ha, hb], rfl⟩
    · have e1 : (g == 1) = false := by simp [h1]
      have e2 : (g == 2) = false := by simp [h2]
      have e3 : (g != 1) = true := by simp [h1]
      have e4 : (g != 2) = true := by simp [h2]
      cases a <;> cases b
      all_goals
        go_enter Tryd.func20, Tryd.ntmps20
        go_wp2_with (first | (go_at_call 10; ((with_reducible refine (c1 _).mono ?_); rintro e _ ⟨rfl, rfl⟩)) | (go_at_call 16; ((with_reducible refine (c2 _).mono ?_); rintro e _ ⟨rfl, rfl⟩)) | fail)
        go_ret
        exact ⟨by rw [← hr]; simp [grainT, ha, h1, h2], rfl⟩

theorem rtvalid_any (t : Int) (w : World) : Calls Tryd.prog 11 #[.int .i64 t] w fun e w' => e = .returned (.bool (validT t)) ∧ w = w' := by
  by_cases h0 : 0 ≤ t
  · have e0 : decide (0 ≤ t) = true := by simp [h0]
    go_enter Tryd.func11, Tryd.ntmps11
    go_wp2
    go_ret
    exact ⟨by simp [validT, e0], rfl⟩
  · have e0 : decide (0 ≤ t) = false := by simp [h0]
    go_enter Tryd.func11, Tryd.ntmps11
    go_wp2
    go_ret
    exact ⟨by simp [validT, e0], rfl⟩

theorem rmirrors_any (t : Int) (w : World) : Calls Tryd.prog 19 #[.int .i64 t] w fun e w' => e = .returned (.bool (mirT t)) ∧ w = w' := by
  have c1 := fun w1 => rtvalid_any t w1
  unfold mirT
  generalize validT t = a at *
  cases a
  · go_enter Tryd.func19, Tryd.ntmps19
    go_wp2_with (first | (go_at_call 11; ((with_reducible refine (c1 _).mono ?_); rintro e _ ⟨rfl, rfl⟩)) | fail)
    go_ret
    exact ⟨by simp, rfl⟩
  · go_enter Tryd.func19, Tryd.ntmps19
    go_wp2_with (first | (go_at_call 11; ((with_reducible refine (c1 _).mono ?_); rintro e _ ⟨rfl, rfl⟩)) | fail)
    go_ret
    exact ⟨by simp, rfl⟩

theorem rodd_any (t : Int) (w : World) : Calls Tryd.prog 17 #[.int .i64 t] w fun e w' => e = .returned (.bool (oddT t)) ∧ w = w' := by
  have c1 := fun w1 => rtvalid_any t w1
  unfold oddT
  generalize validT t = a at *
  cases a
  · go_enter Tryd.func17, Tryd.ntmps17
    go_wp2_with (first | (go_at_call 11; ((with_reducible refine (c1 _).mono ?_); rintro e _ ⟨rfl, rfl⟩)) | fail)
    go_ret
    exact ⟨by simp, rfl⟩
  · go_enter Tryd.func17, Tryd.ntmps17
    go_wp2_with (first | (go_at_call 11; ((with_reducible refine (c1 _).mono ?_); rintro e _ ⟨rfl, rfl⟩)) | fail)
    go_ret
    exact ⟨by simp, rfl⟩

theorem rgrain_any (t g : Int) (w : World) : Calls Tryd.prog 21 #[.int .i64 t, .int .i64 g] w fun e w' => e = .returned (.int .i64 (grainT t g)) ∧ w = w' := by
  have c1 := fun w1 => rtvalid_any t w1
  have c2 := fun w1 => rodd_any t w1
  obtain ⟨r, hr⟩ : ∃ r, grainT t g = r := ⟨_, rfl⟩
  rw [hr]
  obtain ⟨a, ha⟩ : ∃ a, validT t = a := ⟨_, rfl⟩
  obtain ⟨b, hb⟩ : ∃ b, oddT t = b := ⟨_, rfl⟩
  rw [ha] at c1
  rw [hb] at c2
  by_cases h1 : g = 1
  · subst h1
    cases a <;> cases b
    all_goals
      go_enter Tryd.func21, Tryd.ntmps21
      go_wp2_with (first | (go_at_call 11; ((with_reducible refine (c1 _).mono ?_); rintro e _ ⟨rfl, rfl⟩)) | (go_at_call 17; ((with_reducible refine (c2 _).mono ?_); rintro e _ ⟨rfl, rfl⟩)) | fail)
      go_ret
      exact ⟨by rw [← hr]; simp [grainT, ha, hb], rfl⟩
  · by_cases h2 : g = 2
    · subst h2
      cases a <;> cases b
      all_goals
        go_enter Tryd.func21, Tryd.ntmps21
        go_wp2_with (first | (go_at_call 11; ((with_reducible refine (c1 _).mono ?_); rintro e _ ⟨rfl, rfl⟩)) | (go_at_call 17; ((with_reducible refine (c2 _).mono ?_); rintro e _ ⟨rfl, rfl⟩)) | fail)
        go_ret
        exact ⟨by rw [← hr]; simp [grainT, ha, hb], rfl⟩
    · have e1 : (g == 1) = false := by simp [h1]
      have e2 : (g == 2) = false := by simp [h2]
      have e3 : (g != 1) = true := by simp [h1]
      have e4 : (g != 2) = true := by simp [h2]
      cases a <;> cases b
      all_goals
        go_enter Tryd.func21, Tryd.ntmps21
        go_wp2_with (first | (go_at_call 11; ((with_reducible refine (c1 _).mono ?_); rintro e _ ⟨rfl, rfl⟩)) | (go_at_call 17; ((with_reducible refine (c2 _).mono ?_); rintro e _ ⟨rfl, rfl⟩)) | fail)
        go_ret
        exact ⟨by rw [← hr]; simp [grainT, ha, h1, h2], rfl⟩

end Go.Proofs.YtahamffngmdjfaaDoor.W
