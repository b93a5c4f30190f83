/-
  lex.readName, lex.readNumber, lex.read: the token at the start of a text, by Pl.rd. Condition: at most 2^40 bytes.
-/
import Derived.Test.YtggdblmjnbnddaaDoorLCw
import Derived.Test.YtggdblmjnbnddaaDoorLPt
namespace Go.Proofs.YtggdblmjnbnddaaDoor.W
open Go.RowKit Go.Proofs.YtggdblmjnbnddaaDoor.Pl

/-- a token as Go's struct -/
def tkV (t : Tk) : Value := .agg #[.int .i64 t.kind, .string (tx t.text), .int .i64 t.n, .int .i64 t.at_]
/-- what a reading of a token returns -/
def rdV (r : Rd) : Value := .tuple #[tkV r.1, .int .i64 (r.2.1 : Nat), .int .i64 r.2.2]

set_option maxRecDepth 100000 in
set_option maxHeartbeats 1600000 in
theorem readName_any (l : List UInt8) (w : World) (hlen : l.length ≤ 1099511627776) :
    Calls Tryd.prog 35 #[.string (tx l)] w fun e w' => e = .returned (rdV (rdName l)) ∧ Nw w w' := by
  have hsz := tx_size l
  have hle := cw_le wordI l
  have hto := tx_to l (cw wordI l)
  have hr : rdName l = if 16 < cw wordI l then (.zero, 0, 9) else (⟨1, l.take (cw wordI l), 0, 0⟩, cw wordI l, 0) := rfl
  have hcw : ∀ w1 : World, Calls Tryd.prog 29 #[.string (tx l), .func (.func 30) #[] #[]] w1 fun e w' => e = .returned (.int .i64 (cw wordI l)) ∧ w1 = w' := fun w1 => countWord_any l w1 hlen
  generalize cw wordI l = k at *
  generalize l.length = n at *
  have HR := Lib.hid hr
  clear hr
  have HT := Lib.hid hto
  clear hto
  have HC := Lib.hid hcw
  clear hcw
  go_enter Tryd.func35, Tryd.ntmps35
  by_cases hk : 16 < k
  · go_wp2_with (go_at_call 29; refine (HC.out _).mono ?_; rintro e w1 ⟨rfl, rfl⟩)
    exact bodyPost_ret (v := rdV (.zero, 0, 9)) (by simp [results, Tryd.results35, go_sem, rdV, tkV, Tk.zero, tx]) rfl ⟨by rw [HR.out, if_pos hk], (Kp.refl _ _).alloc _⟩
  · go_wp2_with (go_at_call 29; refine (HC.out _).mono ?_; rintro e w1 ⟨rfl, rfl⟩)
    exact bodyPost_ret (v := rdV (⟨1, l.take k, 0, 0⟩, k, 0)) (by simp [results, Tryd.results35, go_sem, rdV, tkV, HT.out]) rfl ⟨by rw [HR.out, if_neg hk], (Kp.refl _ _).alloc _⟩

theorem tx_toList (l : List UInt8) : (tx l).toList = l := by rw [Lib.toList_data, tx_list]
theorem tx_ne (x : UInt8) (r : List UInt8) : (tx (x :: r)).toList.isEmpty = false := by rw [tx_toList]; rfl
theorem run_tx_suc (l : List UInt8) (j : Nat) (c : UInt8) (h : l[1 + j]? = some c) (W : World) : (Instr.index 9 (.string (tx l)) (.int .i64 (1 + (j : Int)))).run Tryd.prog W = .ok (.int .u8 c.toNat) W := by
  have := run_tx_at l (1 + j) c h W
  rwa [show ((1 + j : Nat) : Int) = 1 + (j : Int) by omega] at this
theorem Blk.four {w : World} {g : Nat} {t : TypeId} {a b c d : Value} (h : Blk w g t #[a, b, c, d]) : w.cell? ⟨g, 0, none⟩ = some a ∧ w.cell? ⟨g, 1, none⟩ = some b ∧ w.cell? ⟨g, 2, none⟩ = some c ∧ w.cell? ⟨g, 3, none⟩ = some d ∧ w.frozen? ⟨g, 0, none⟩ = false ∧ w.frozen? ⟨g, 1, none⟩ = false ∧ w.frozen? ⟨g, 2, none⟩ = false ∧ w.frozen? ⟨g, 3, none⟩ = false :=
  ⟨h.cell 0, h.cell 1, h.cell 2, h.cell 3, h.frozen 0, h.frozen 1, h.frozen 2, h.frozen 3⟩
theorem Blk.lay4 {w : World} {g : Nat} {t : TypeId} {u v x y : Value} (h : Blk w g t #[u, v, x, y]) (a b c d : Value) : Blk ((((w.setCell ⟨g, 0, none⟩ a).setCell ⟨g, 1, none⟩ b).setCell ⟨g, 2, none⟩ c).setCell ⟨g, 3, none⟩ d) g t #[a, b, c, d] := (((h.set_ 0 a).set_ 1 b).set_ 2 c).set_ 3 d
theorem run_tx_at0 (c : UInt8) (r : List UInt8) (W : World) : (Instr.index 9 (.string (tx (c :: r))) (.int .i64 0)).run Tryd.prog W = .ok (.int .u8 c.toNat) W := run_tx_at (c :: r) 0 c rfl W


/-- the facts that the walks of readNumber share -/
structure NumF (l m s : List UInt8) (n j : Nat) (d : List UInt8) : Prop where
  sz : (tx l).size = n
  from_ : (tx l).extract 1 n = tx m
  to_ : (tx l).extract 0 (1 + j) = tx s
  dz : (tx d).size = d.length
  cnt : ∀ w1 : World, Calls Tryd.prog 29 #[.string (tx m), .func (.func 36) #[] #[]] w1 fun e w' => e = .returned (.int .i64 (j : Int)) ∧ w1 = w'
  trim : ∀ w1 : World, Calls Tryd.prog 46 #[.string (tx s), .string { data := #[45] }] w1 fun e w' => e = .returned (.string (tx d)) ∧ w1 = w'
theorem NumF.cnt0 {l m s : List UInt8} {n : Nat} {d : List UInt8} (h : NumF l m s n 0 d) (w1 : World) : Calls Tryd.prog 29 #[.string (tx m), .func (.func 36) #[] #[]] w1 fun e w' => e = .returned (.int .i64 0) ∧ w1 = w' := h.cnt w1
theorem run_tx_suc1 (l : List UInt8) (c : UInt8) (h : l[1]? = some c) (W : World) : (Instr.index 9 (.string (tx l)) (.int .i64 1)).run Tryd.prog W = .ok (.int .u8 c.toNat) W := run_tx_at l 1 c h W

set_option maxRecDepth 100000 in
set_option maxHeartbeats 3200000 in
theorem numEE_any (l m s : List UInt8) (n j : Nat) (w : World) (h : NumF l m s n j []) (hn : n ≤ 1099511627776)  (hk : 1 + j ≤ n) (hk2 : n ≤ 1 + j)  :
    Calls Tryd.prog 37 #[.string (tx l)] w fun e w' => e = .returned (rdV (.zero, 0, 3)) ∧ Nw w w' := by
  have hsz := h.sz
  have hdz : (tx []).size = 0 := h.dz
  have hfrom := h.from_
  have hto := h.to_
  have hne : (tx []).toList = [] := tx_toList []
  go_enter Tryd.func37, Tryd.ntmps37
  go_wp2_with (first | (go_at_call 29; refine (h.cnt _).mono ?_; rintro e w1 ⟨rfl, rfl⟩) | (go_at_call 46; refine (h.trim _).mono ?_; rintro e w1 ⟨rfl, rfl⟩))
  exact bodyPost_ret (v := rdV (.zero, 0, 3)) (by simp [results, Tryd.results37, go_sem, rdV, tkV, Tk.zero, tx]) rfl ⟨rfl, (Kp.refl _ _).alloc _⟩

set_option maxRecDepth 100000 in
set_option maxHeartbeats 3200000 in
theorem numET_any (l m s : List UInt8) (n j : Nat) (w : World) (h : NumF l m s n j []) (hn : n ≤ 1099511627776)  (hk : 1 + j < n) (c : UInt8) (hc : l[1 + j]? = some c) (hw : Hid (wordI c.toNat = true))  :
    Calls Tryd.prog 37 #[.string (tx l)] w fun e w' => e = .returned (rdV (.zero, 0, 3)) ∧ Nw w w' := by
  have hsz := h.sz
  have hdz : (tx []).size = 0 := h.dz
  have hfrom := h.from_
  have hto := h.to_
  have hne : (tx []).toList = [] := tx_toList []
  have hix := run_tx_suc l j c hc
  clear hc
  go_enter Tryd.func37, Tryd.ntmps37
  go_wp2_with (first | (go_at_call 29; refine (h.cnt _).mono ?_; rintro e w1 ⟨rfl, rfl⟩) | (go_at_call 46; refine (h.trim _).mono ?_; rintro e w1 ⟨rfl, rfl⟩) | (go_at_call 30; refine (inWord_any _ _).mono ?_; rintro e w1 ⟨rfl, rfl⟩; rw [hw.out]))
  exact bodyPost_ret (v := rdV (.zero, 0, 3)) (by simp [results, Tryd.results37, go_sem, rdV, tkV, Tk.zero, tx]) rfl ⟨rfl, (Kp.refl _ _).alloc _⟩

set_option maxRecDepth 100000 in
set_option maxHeartbeats 3200000 in
theorem numEF_any (l m s : List UInt8) (n j : Nat) (w : World) (h : NumF l m s n j []) (hn : n ≤ 1099511627776)  (hk : 1 + j < n) (c : UInt8) (hc : l[1 + j]? = some c) (hw : Hid (wordI c.toNat = false))  :
    Calls Tryd.prog 37 #[.string (tx l)] w fun e w' => e = .returned (rdV (.zero, 0, 3)) ∧ Nw w w' := by
  have hsz := h.sz
  have hdz : (tx []).size = 0 := h.dz
  have hfrom := h.from_
  have hto := h.to_
  have hne : (tx []).toList = [] := tx_toList []
  have hix := run_tx_suc l j c hc
  clear hc
  go_enter Tryd.func37, Tryd.ntmps37
  go_wp2_with (first | (go_at_call 29; refine (h.cnt _).mono ?_; rintro e w1 ⟨rfl, rfl⟩) | (go_at_call 46; refine (h.trim _).mono ?_; rintro e w1 ⟨rfl, rfl⟩) | (go_at_call 30; refine (inWord_any _ _).mono ?_; rintro e w1 ⟨rfl, rfl⟩; rw [hw.out]))
  exact bodyPost_ret (v := rdV (.zero, 0, 3)) (by simp [results, Tryd.results37, go_sem, rdV, tkV, Tk.zero, tx]) rfl ⟨rfl, (Kp.refl _ _).alloc _⟩

set_option maxRecDepth 100000 in
set_option maxHeartbeats 3200000 in
theorem numNES_any (l m s : List UInt8) (n j : Nat) (x : UInt8) (r : List UInt8) (w : World) (h : NumF l m s n j (x :: r)) (hn : n ≤ 1099511627776) (h48 : ¬ (x.toNat : Int) = 48) (hk : 1 + j ≤ n) (hk2 : n ≤ 1 + j) (h9 : r.length + 1 ≤ 9) (v : Int) (hat : ∀ w1 : World, Calls Tryd.prog 47 #[.string (tx s)] w1 fun e w' => e = .returned (.tuple #[.int .i64 v, .nilIface]) ∧ Nw w1 w') :
    Calls Tryd.prog 37 #[.string (tx l)] w fun e w' => e = .returned (rdV (⟨2, [], v, 0⟩, 1 + j, 0)) ∧ Nw w w' := by
  have hsz := h.sz
  have hdz : (tx (x :: r)).size = r.length + 1 := h.dz
  have hfrom := h.from_
  have hto := h.to_
  have hi0 := run_tx_at0 x r
  have hne : (tx (x :: r)).toList.isEmpty = false := tx_ne x r
  go_enter Tryd.func37, Tryd.ntmps37
  go_wp2_with (first | (go_at_call 29; refine (h.cnt _).mono ?_; rintro e w1 ⟨rfl, rfl⟩) | (go_at_call 46; refine (h.trim _).mono ?_; rintro e w1 ⟨rfl, rfl⟩) | (go_at_call 47; refine (hat _).mono ?_; rintro e w1 ⟨rfl, hnw⟩; obtain ⟨r0, r1, r2, r3, f0, f1, f2, f3⟩ := ((Blk.new w 35 #[.int .i64 0, .string { data := #[] }, .int .i64 0, .int .i64 0]).kp hnw (fun e => e)).four))
  have hkw : Nw w w1 := ((Kp.refl _ w).alloc _).tr hnw
  obtain ⟨q0, q1, q2, q3, _⟩ := (((Blk.new w 35 #[.int .i64 0, .string { data := #[] }, .int .i64 0, .int .i64 0]).kp hnw (fun e => e)).lay4 (.int .i64 2) (.string { data := #[] }) (.int .i64 v) (.int .i64 0)).four
  exact bodyPost_ret (v := rdV (⟨2, [], v, 0⟩, 1 + j, 0)) (by simp [results, Tryd.results37, go_sem, rdV, tkV, tx, q0, q1, q2, q3]) rfl ⟨rfl, (((hkw.new (Nat.le_refl _) 0 _).new (Nat.le_refl _) 1 _).new (Nat.le_refl _) 2 _).new (Nat.le_refl _) 3 _⟩

set_option maxRecDepth 100000 in
set_option maxHeartbeats 3200000 in
theorem numNEL_any (l m s : List UInt8) (n j : Nat) (x : UInt8) (r : List UInt8) (w : World) (h : NumF l m s n j (x :: r)) (hn : n ≤ 1099511627776) (h48 : ¬ (x.toNat : Int) = 48) (hk : 1 + j ≤ n) (hk2 : n ≤ 1 + j) (h9 : 9 < r.length + 1) :
    Calls Tryd.prog 37 #[.string (tx l)] w fun e w' => e = .returned (rdV (.zero, 0, 9)) ∧ Nw w w' := by
  have hsz := h.sz
  have hdz : (tx (x :: r)).size = r.length + 1 := h.dz
  have hfrom := h.from_
  have hto := h.to_
  have hi0 := run_tx_at0 x r
  have hne : (tx (x :: r)).toList.isEmpty = false := tx_ne x r
  go_enter Tryd.func37, Tryd.ntmps37
  go_wp2_with (first | (go_at_call 29; refine (h.cnt _).mono ?_; rintro e w1 ⟨rfl, rfl⟩) | (go_at_call 46; refine (h.trim _).mono ?_; rintro e w1 ⟨rfl, rfl⟩))
  exact bodyPost_ret (v := rdV (.zero, 0, 9)) (by simp [results, Tryd.results37, go_sem, rdV, tkV, Tk.zero, tx]) rfl ⟨rfl, (Kp.refl _ _).alloc _⟩

set_option maxRecDepth 100000 in
set_option maxHeartbeats 3200000 in
theorem numNT_any (l m s : List UInt8) (n j : Nat) (x : UInt8) (r : List UInt8) (w : World) (h : NumF l m s n j (x :: r)) (hn : n ≤ 1099511627776) (h48 : ¬ (x.toNat : Int) = 48) (hk : 1 + j < n) (c : UInt8) (hc : l[1 + j]? = some c) (hw : Hid (wordI c.toNat = true))  :
    Calls Tryd.prog 37 #[.string (tx l)] w fun e w' => e = .returned (rdV (.zero, 0, 3)) ∧ Nw w w' := by
  have hsz := h.sz
  have hdz : (tx (x :: r)).size = r.length + 1 := h.dz
  have hfrom := h.from_
  have hto := h.to_
  have hi0 := run_tx_at0 x r
  have hne : (tx (x :: r)).toList.isEmpty = false := tx_ne x r
  have hix := run_tx_suc l j c hc
  clear hc
  go_enter Tryd.func37, Tryd.ntmps37
  go_wp2_with (first | (go_at_call 29; refine (h.cnt _).mono ?_; rintro e w1 ⟨rfl, rfl⟩) | (go_at_call 46; refine (h.trim _).mono ?_; rintro e w1 ⟨rfl, rfl⟩) | (go_at_call 30; refine (inWord_any _ _).mono ?_; rintro e w1 ⟨rfl, rfl⟩; rw [hw.out]))
  exact bodyPost_ret (v := rdV (.zero, 0, 3)) (by simp [results, Tryd.results37, go_sem, rdV, tkV, Tk.zero, tx]) rfl ⟨rfl, (Kp.refl _ _).alloc _⟩

set_option maxRecDepth 100000 in
set_option maxHeartbeats 3200000 in
theorem numNFS_any (l m s : List UInt8) (n j : Nat) (x : UInt8) (r : List UInt8) (w : World) (h : NumF l m s n j (x :: r)) (hn : n ≤ 1099511627776) (h48 : ¬ (x.toNat : Int) = 48) (hk : 1 + j < n) (c : UInt8) (hc : l[1 + j]? = some c) (hw : Hid (wordI c.toNat = false)) (h9 : r.length + 1 ≤ 9) (v : Int) (hat : ∀ w1 : World, Calls Tryd.prog 47 #[.string (tx s)] w1 fun e w' => e = .returned (.tuple #[.int .i64 v, .nilIface]) ∧ Nw w1 w') :
    Calls Tryd.prog 37 #[.string (tx l)] w fun e w' => e = .returned (rdV (⟨2, [], v, 0⟩, 1 + j, 0)) ∧ Nw w w' := by
  have hsz := h.sz
  have hdz : (tx (x :: r)).size = r.length + 1 := h.dz
  have hfrom := h.from_
  have hto := h.to_
  have hi0 := run_tx_at0 x r
  have hne : (tx (x :: r)).toList.isEmpty = false := tx_ne x r
  have hix := run_tx_suc l j c hc
  clear hc
  go_enter Tryd.func37, Tryd.ntmps37
  go_wp2_with (first | (go_at_call 29; refine (h.cnt _).mono ?_; rintro e w1 ⟨rfl, rfl⟩) | (go_at_call 46; refine (h.trim _).mono ?_; rintro e w1 ⟨rfl, rfl⟩) | (go_at_call 30; refine (inWord_any _ _).mono ?_; rintro e w1 ⟨rfl, rfl⟩; rw [hw.out]) | (go_at_call 47; refine (hat _).mono ?_; rintro e w1 ⟨rfl, hnw⟩; obtain ⟨r0, r1, r2, r3, f0, f1, f2, f3⟩ := ((Blk.new w 35 #[.int .i64 0, .string { data := #[] }, .int .i64 0, .int .i64 0]).kp hnw (fun e => e)).four))
  have hkw : Nw w w1 := ((Kp.refl _ w).alloc _).tr hnw
  obtain ⟨q0, q1, q2, q3, _⟩ := (((Blk.new w 35 #[.int .i64 0, .string { data := #[] }, .int .i64 0, .int .i64 0]).kp hnw (fun e => e)).lay4 (.int .i64 2) (.string { data := #[] }) (.int .i64 v) (.int .i64 0)).four
  exact bodyPost_ret (v := rdV (⟨2, [], v, 0⟩, 1 + j, 0)) (by simp [results, Tryd.results37, go_sem, rdV, tkV, tx, q0, q1, q2, q3]) rfl ⟨rfl, (((hkw.new (Nat.le_refl _) 0 _).new (Nat.le_refl _) 1 _).new (Nat.le_refl _) 2 _).new (Nat.le_refl _) 3 _⟩

set_option maxRecDepth 100000 in
set_option maxHeartbeats 3200000 in
theorem numNFL_any (l m s : List UInt8) (n j : Nat) (x : UInt8) (r : List UInt8) (w : World) (h : NumF l m s n j (x :: r)) (hn : n ≤ 1099511627776) (h48 : ¬ (x.toNat : Int) = 48) (hk : 1 + j < n) (c : UInt8) (hc : l[1 + j]? = some c) (hw : Hid (wordI c.toNat = false)) (h9 : 9 < r.length + 1) :
    Calls Tryd.prog 37 #[.string (tx l)] w fun e w' => e = .returned (rdV (.zero, 0, 9)) ∧ Nw w w' := by
  have hsz := h.sz
  have hdz : (tx (x :: r)).size = r.length + 1 := h.dz
  have hfrom := h.from_
  have hto := h.to_
  have hi0 := run_tx_at0 x r
  have hne : (tx (x :: r)).toList.isEmpty = false := tx_ne x r
  have hix := run_tx_suc l j c hc
  clear hc
  go_enter Tryd.func37, Tryd.ntmps37
  go_wp2_with (first | (go_at_call 29; refine (h.cnt _).mono ?_; rintro e w1 ⟨rfl, rfl⟩) | (go_at_call 46; refine (h.trim _).mono ?_; rintro e w1 ⟨rfl, rfl⟩) | (go_at_call 30; refine (inWord_any _ _).mono ?_; rintro e w1 ⟨rfl, rfl⟩; rw [hw.out]))
  exact bodyPost_ret (v := rdV (.zero, 0, 9)) (by simp [results, Tryd.results37, go_sem, rdV, tkV, Tk.zero, tx]) rfl ⟨rfl, (Kp.refl _ _).alloc _⟩

set_option maxRecDepth 100000 in
set_option maxHeartbeats 3200000 in
theorem numOES_any (l m s : List UInt8) (n : Nat) (r : List UInt8) (w : World) (h : NumF l m s n 0 (48 :: r)) (hn : n ≤ 1099511627776)  (hk : 1 ≤ n) (hk2 : n ≤ 1) (h9 : r.length + 1 ≤ 9) (v : Int) (hat : ∀ w1 : World, Calls Tryd.prog 47 #[.string (tx s)] w1 fun e w' => e = .returned (.tuple #[.int .i64 v, .nilIface]) ∧ Nw w1 w') :
    Calls Tryd.prog 37 #[.string (tx l)] w fun e w' => e = .returned (rdV (⟨2, [], v, 0⟩, 1, 0)) ∧ Nw w w' := by
  have hsz := h.sz
  have hdz : (tx (48 :: r)).size = r.length + 1 := h.dz
  have hfrom := h.from_
  have hto : (tx l).extract 0 1 = tx s := h.to_
  have hi0 := run_tx_at0 48 r
  have hne : (tx (48 :: r)).toList.isEmpty = false := tx_ne 48 r
  go_enter Tryd.func37, Tryd.ntmps37
  go_wp2_with (first | (go_at_call 29; refine (h.cnt0 _).mono ?_; rintro e w1 ⟨rfl, rfl⟩) | (go_at_call 46; refine (h.trim _).mono ?_; rintro e w1 ⟨rfl, rfl⟩) | (go_at_call 47; refine (hat _).mono ?_; rintro e w1 ⟨rfl, hnw⟩; obtain ⟨r0, r1, r2, r3, f0, f1, f2, f3⟩ := ((Blk.new w 35 #[.int .i64 0, .string { data := #[] }, .int .i64 0, .int .i64 0]).kp hnw (fun e => e)).four))
  have hkw : Nw w w1 := ((Kp.refl _ w).alloc _).tr hnw
  obtain ⟨q0, q1, q2, q3, _⟩ := (((Blk.new w 35 #[.int .i64 0, .string { data := #[] }, .int .i64 0, .int .i64 0]).kp hnw (fun e => e)).lay4 (.int .i64 2) (.string { data := #[] }) (.int .i64 v) (.int .i64 0)).four
  exact bodyPost_ret (v := rdV (⟨2, [], v, 0⟩, 1, 0)) (by simp [results, Tryd.results37, go_sem, rdV, tkV, tx, q0, q1, q2, q3]) rfl ⟨rfl, (((hkw.new (Nat.le_refl _) 0 _).new (Nat.le_refl _) 1 _).new (Nat.le_refl _) 2 _).new (Nat.le_refl _) 3 _⟩

set_option maxRecDepth 100000 in
set_option maxHeartbeats 3200000 in
theorem numOEL_any (l m s : List UInt8) (n : Nat) (r : List UInt8) (w : World) (h : NumF l m s n 0 (48 :: r)) (hn : n ≤ 1099511627776)  (hk : 1 ≤ n) (hk2 : n ≤ 1) (h9 : 9 < r.length + 1) :
    Calls Tryd.prog 37 #[.string (tx l)] w fun e w' => e = .returned (rdV (.zero, 0, 9)) ∧ Nw w w' := by
  have hsz := h.sz
  have hdz : (tx (48 :: r)).size = r.length + 1 := h.dz
  have hfrom := h.from_
  have hto : (tx l).extract 0 1 = tx s := h.to_
  have hi0 := run_tx_at0 48 r
  have hne : (tx (48 :: r)).toList.isEmpty = false := tx_ne 48 r
  go_enter Tryd.func37, Tryd.ntmps37
  go_wp2_with (first | (go_at_call 29; refine (h.cnt0 _).mono ?_; rintro e w1 ⟨rfl, rfl⟩) | (go_at_call 46; refine (h.trim _).mono ?_; rintro e w1 ⟨rfl, rfl⟩))
  exact bodyPost_ret (v := rdV (.zero, 0, 9)) (by simp [results, Tryd.results37, go_sem, rdV, tkV, Tk.zero, tx]) rfl ⟨rfl, (Kp.refl _ _).alloc _⟩

set_option maxRecDepth 100000 in
set_option maxHeartbeats 3200000 in
theorem numOT_any (l m s : List UInt8) (n : Nat) (r : List UInt8) (w : World) (h : NumF l m s n 0 (48 :: r)) (hn : n ≤ 1099511627776)  (hk : 1 < n) (c : UInt8) (hc : l[1]? = some c) (hw : Hid (wordI c.toNat = true))  :
    Calls Tryd.prog 37 #[.string (tx l)] w fun e w' => e = .returned (rdV (.zero, 0, 3)) ∧ Nw w w' := by
  have hsz := h.sz
  have hdz : (tx (48 :: r)).size = r.length + 1 := h.dz
  have hfrom := h.from_
  have hto : (tx l).extract 0 1 = tx s := h.to_
  have hi0 := run_tx_at0 48 r
  have hne : (tx (48 :: r)).toList.isEmpty = false := tx_ne 48 r
  have hix := run_tx_suc1 l c hc
  clear hc
  go_enter Tryd.func37, Tryd.ntmps37
  go_wp2_with (first | (go_at_call 29; refine (h.cnt0 _).mono ?_; rintro e w1 ⟨rfl, rfl⟩) | (go_at_call 46; refine (h.trim _).mono ?_; rintro e w1 ⟨rfl, rfl⟩) | (go_at_call 30; refine (inWord_any _ _).mono ?_; rintro e w1 ⟨rfl, rfl⟩; rw [hw.out]))
  exact bodyPost_ret (v := rdV (.zero, 0, 3)) (by simp [results, Tryd.results37, go_sem, rdV, tkV, Tk.zero, tx]) rfl ⟨rfl, (Kp.refl _ _).alloc _⟩

set_option maxRecDepth 100000 in
set_option maxHeartbeats 3200000 in
theorem numOFS_any (l m s : List UInt8) (n : Nat) (r : List UInt8) (w : World) (h : NumF l m s n 0 (48 :: r)) (hn : n ≤ 1099511627776)  (hk : 1 < n) (c : UInt8) (hc : l[1]? = some c) (hw : Hid (wordI c.toNat = false)) (h9 : r.length + 1 ≤ 9) (v : Int) (hat : ∀ w1 : World, Calls Tryd.prog 47 #[.string (tx s)] w1 fun e w' => e = .returned (.tuple #[.int .i64 v, .nilIface]) ∧ Nw w1 w') :
    Calls Tryd.prog 37 #[.string (tx l)] w fun e w' => e = .returned (rdV (⟨2, [], v, 0⟩, 1, 0)) ∧ Nw w w' := by
  have hsz := h.sz
  have hdz : (tx (48 :: r)).size = r.length + 1 := h.dz
  have hfrom := h.from_
  have hto : (tx l).extract 0 1 = tx s := h.to_
  have hi0 := run_tx_at0 48 r
  have hne : (tx (48 :: r)).toList.isEmpty = false := tx_ne 48 r
  have hix := run_tx_suc1 l c hc
  clear hc
  go_enter Tryd.func37, Tryd.ntmps37
  go_wp2_with (first | (go_at_call 29; refine (h.cnt0 _).mono ?_; rintro e w1 ⟨rfl, rfl⟩) | (go_at_call 46; refine (h.trim _).mono ?_; rintro e w1 ⟨rfl, rfl⟩) | (go_at_call 30; refine (inWord_any _ _).mono ?_; rintro e w1 ⟨rfl, rfl⟩; rw [hw.out]) | (go_at_call 47; refine (hat _).mono ?_; rintro e w1 ⟨rfl, hnw⟩; obtain ⟨r0, r1, r2, r3, f0, f1, f2, f3⟩ := ((Blk.new w 35 #[.int .i64 0, .string { data := #[] }, .int .i64 0, .int .i64 0]).kp hnw (fun e => e)).four))
  have hkw : Nw w w1 := ((Kp.refl _ w).alloc _).tr hnw
  obtain ⟨q0, q1, q2, q3, _⟩ := (((Blk.new w 35 #[.int .i64 0, .string { data := #[] }, .int .i64 0, .int .i64 0]).kp hnw (fun e => e)).lay4 (.int .i64 2) (.string { data := #[] }) (.int .i64 v) (.int .i64 0)).four
  exact bodyPost_ret (v := rdV (⟨2, [], v, 0⟩, 1, 0)) (by simp [results, Tryd.results37, go_sem, rdV, tkV, tx, q0, q1, q2, q3]) rfl ⟨rfl, (((hkw.new (Nat.le_refl _) 0 _).new (Nat.le_refl _) 1 _).new (Nat.le_refl _) 2 _).new (Nat.le_refl _) 3 _⟩

set_option maxRecDepth 100000 in
set_option maxHeartbeats 3200000 in
theorem numOFL_any (l m s : List UInt8) (n : Nat) (r : List UInt8) (w : World) (h : NumF l m s n 0 (48 :: r)) (hn : n ≤ 1099511627776)  (hk : 1 < n) (c : UInt8) (hc : l[1]? = some c) (hw : Hid (wordI c.toNat = false)) (h9 : 9 < r.length + 1) :
    Calls Tryd.prog 37 #[.string (tx l)] w fun e w' => e = .returned (rdV (.zero, 0, 9)) ∧ Nw w w' := by
  have hsz := h.sz
  have hdz : (tx (48 :: r)).size = r.length + 1 := h.dz
  have hfrom := h.from_
  have hto : (tx l).extract 0 1 = tx s := h.to_
  have hi0 := run_tx_at0 48 r
  have hne : (tx (48 :: r)).toList.isEmpty = false := tx_ne 48 r
  have hix := run_tx_suc1 l c hc
  clear hc
  go_enter Tryd.func37, Tryd.ntmps37
  go_wp2_with (first | (go_at_call 29; refine (h.cnt0 _).mono ?_; rintro e w1 ⟨rfl, rfl⟩) | (go_at_call 46; refine (h.trim _).mono ?_; rintro e w1 ⟨rfl, rfl⟩) | (go_at_call 30; refine (inWord_any _ _).mono ?_; rintro e w1 ⟨rfl, rfl⟩; rw [hw.out]))
  exact bodyPost_ret (v := rdV (.zero, 0, 9)) (by simp [results, Tryd.results37, go_sem, rdV, tkV, Tk.zero, tx]) rfl ⟨rfl, (Kp.refl _ _).alloc _⟩

set_option maxRecDepth 100000 in
set_option maxHeartbeats 3200000 in
theorem numZE_any (l m s : List UInt8) (n j : Nat) (r : List UInt8) (w : World) (h : NumF l m s n j (48 :: r)) (hn : n ≤ 1099511627776) (h1 : ¬ (1 + (j : Int)) = 1) (hk : 1 + j ≤ n) (hk2 : n ≤ 1 + j)  :
    Calls Tryd.prog 37 #[.string (tx l)] w fun e w' => e = .returned (rdV (.zero, 0, 3)) ∧ Nw w w' := by
  have hsz := h.sz
  have hdz : (tx (48 :: r)).size = r.length + 1 := h.dz
  have hfrom := h.from_
  have hto := h.to_
  have hi0 := run_tx_at0 48 r
  have hne : (tx (48 :: r)).toList.isEmpty = false := tx_ne 48 r
  go_enter Tryd.func37, Tryd.ntmps37
  go_wp2_with (first | (go_at_call 29; refine (h.cnt _).mono ?_; rintro e w1 ⟨rfl, rfl⟩) | (go_at_call 46; refine (h.trim _).mono ?_; rintro e w1 ⟨rfl, rfl⟩))
  exact bodyPost_ret (v := rdV (.zero, 0, 3)) (by simp [results, Tryd.results37, go_sem, rdV, tkV, Tk.zero, tx]) rfl ⟨rfl, (Kp.refl _ _).alloc _⟩

set_option maxRecDepth 100000 in
set_option maxHeartbeats 3200000 in
theorem numZT_any (l m s : List UInt8) (n j : Nat) (r : List UInt8) (w : World) (h : NumF l m s n j (48 :: r)) (hn : n ≤ 1099511627776) (h1 : ¬ (1 + (j : Int)) = 1) (hk : 1 + j < n) (c : UInt8) (hc : l[1 + j]? = some c) (hw : Hid (wordI c.toNat = true))  :
    Calls Tryd.prog 37 #[.string (tx l)] w fun e w' => e = .returned (rdV (.zero, 0, 3)) ∧ Nw w w' := by
  have hsz := h.sz
  have hdz : (tx (48 :: r)).size = r.length + 1 := h.dz
  have hfrom := h.from_
  have hto := h.to_
  have hi0 := run_tx_at0 48 r
  have hne : (tx (48 :: r)).toList.isEmpty = false := tx_ne 48 r
  have hix := run_tx_suc l j c hc
  clear hc
  go_enter Tryd.func37, Tryd.ntmps37
  go_wp2_with (first | (go_at_call 29; refine (h.cnt _).mono ?_; rintro e w1 ⟨rfl, rfl⟩) | (go_at_call 46; refine (h.trim _).mono ?_; rintro e w1 ⟨rfl, rfl⟩) | (go_at_call 30; refine (inWord_any _ _).mono ?_; rintro e w1 ⟨rfl, rfl⟩; rw [hw.out]))
  exact bodyPost_ret (v := rdV (.zero, 0, 3)) (by simp [results, Tryd.results37, go_sem, rdV, tkV, Tk.zero, tx]) rfl ⟨rfl, (Kp.refl _ _).alloc _⟩

set_option maxRecDepth 100000 in
set_option maxHeartbeats 3200000 in
theorem numZF_any (l m s : List UInt8) (n j : Nat) (r : List UInt8) (w : World) (h : NumF l m s n j (48 :: r)) (hn : n ≤ 1099511627776) (h1 : ¬ (1 + (j : Int)) = 1) (hk : 1 + j < n) (c : UInt8) (hc : l[1 + j]? = some c) (hw : Hid (wordI c.toNat = false))  :
    Calls Tryd.prog 37 #[.string (tx l)] w fun e w' => e = .returned (rdV (.zero, 0, 3)) ∧ Nw w w' := by
  have hsz := h.sz
  have hdz : (tx (48 :: r)).size = r.length + 1 := h.dz
  have hfrom := h.from_
  have hto := h.to_
  have hi0 := run_tx_at0 48 r
  have hne : (tx (48 :: r)).toList.isEmpty = false := tx_ne 48 r
  have hix := run_tx_suc l j c hc
  clear hc
  go_enter Tryd.func37, Tryd.ntmps37
  go_wp2_with (first | (go_at_call 29; refine (h.cnt _).mono ?_; rintro e w1 ⟨rfl, rfl⟩) | (go_at_call 46; refine (h.trim _).mono ?_; rintro e w1 ⟨rfl, rfl⟩) | (go_at_call 30; refine (inWord_any _ _).mono ?_; rintro e w1 ⟨rfl, rfl⟩; rw [hw.out]))
  exact bodyPost_ret (v := rdV (.zero, 0, 3)) (by simp [results, Tryd.results37, go_sem, rdV, tkV, Tk.zero, tx]) rfl ⟨rfl, (Kp.refl _ _).alloc _⟩


theorem numF_of (l : List UInt8) (hlen : l.length ≤ 1099511627776) : NumF l (l.drop 1) (l.take (numSize l)) l.length (cw digI (l.drop 1)) (numDigits l) where
  sz := tx_size l
  from_ := by rw [← tx_from, tx_size]
  to_ := tx_to l (numSize l)
  dz := tx_size _
  cnt := fun w1 => countDig_any _ w1 (by rw [List.length_drop]; omega)
  trim := fun w1 => trimPrefix_any _ [45] w1

theorem readNumber_any (c : UInt8) (t : List UInt8) (w : World) (hlen : (c :: t).length ≤ 1099511627776) (hc : (digI c.toNat || c == 45) = true) :
    Calls Tryd.prog 37 #[.string (tx (c :: t))] w fun e w' => e = .returned (rdV (rdNum (c :: t))) ∧ Nw w w' := by
  have h := numF_of (c :: t) hlen
  have hle : numSize (c :: t) ≤ (c :: t).length := numSize_le (by simp)
  have hk : numSize (c :: t) = 1 + cw digI ((c :: t).drop 1) := rfl
  have hpt := num_parts (c := c) (t := t) hc
  simp only at hpt
  generalize hl : c :: t = l at *
  obtain ⟨j, hj⟩ : ∃ j, cw digI (l.drop 1) = j := ⟨_, rfl⟩
  rw [hj] at h hk
  -- the value, when the form is right
  have hval : numForm l = true → (numDigits l).length ≤ 9 → ∀ w1 : World, Calls Tryd.prog 47 #[.string (tx (l.take (numSize l)))] w1 fun e w' => e = .returned (.tuple #[.int .i64 ((Lib.atoi (l.take (numSize l))).getD 0), .nilIface]) ∧ Nw w1 w' := by
    intro hf h9 w1
    obtain ⟨hs, _, hor⟩ := hpt hf
    rw [hs]
    rcases hor with ⟨_, hd, _, _, ha⟩ | ⟨_, _, hd, _, ha⟩
    · exact atoi_any _ _ (by rw [hd] at h9; rw [List.length_cons]; omega) (by rw [ha]; rfl) w1
    · exact atoi_any _ _ (by rw [hd] at h9; omega) (by rw [ha]; rfl) w1
  have hr : rdNum l = if !numForm l || numFollow l then (.zero, 0, 3) else if 9 < (numDigits l).length then (.zero, 0, 9) else (⟨2, [], (Lib.atoi (l.take (numSize l))).getD 0, 0⟩, numSize l, 0) := rfl
  have hfrm : numForm l = match numDigits l with | [] => false | d :: _ => !(d == 48) || numSize l == 1 := rfl
  have hfol : numFollow l = match l.drop (numSize l) with | [] => false | c :: _ => wordI c.toNat := rfl
  generalize (Lib.atoi (l.take (numSize l))).getD 0 = v at *
  generalize numForm l = F at *
  generalize numFollow l = G at *
  generalize numDigits l = d at *
  rw [hk] at h hr hfrm hfol hval hle
  generalize l.take (1 + j) = s at h hval
  generalize l.drop 1 = m at h
  rw [hr]
  clear hr hpt hk hj hc hl
  have hfl : (1 + j = l.length ∧ G = false) ∨ ∃ x, 1 + j < l.length ∧ l[1 + j]? = some x ∧ G = wordI x.toNat := by
    by_cases hlt : 1 + j < l.length
    · right
      refine ⟨l[1 + j], hlt, List.getElem?_eq_getElem hlt, ?_⟩
      rw [hfol, List.drop_eq_getElem_cons hlt]
    · left
      exact ⟨by omega, by rw [hfol, List.drop_eq_nil_of_le (by omega)]⟩
  clear hfol
  have eF : F = false → ∀ z : Rd, (if (!F || G) = true then ((Tk.zero, 0, 3) : Rd) else z) = (Tk.zero, 0, 3) := fun e z => by rw [e]; rfl
  have eG : G = true → ∀ z : Rd, (if (!F || G) = true then ((Tk.zero, 0, 3) : Rd) else z) = (Tk.zero, 0, 3) := fun e z => by rw [e, Bool.or_true, if_pos rfl]
  have eO : F = true → G = false → ∀ z : Rd, (if (!F || G) = true then ((Tk.zero, 0, 3) : Rd) else z) = z := fun e e' z => by rw [e, e']; rfl
  cases d with
  | nil =>
    have hF : F = false := hfrm
    rw [eF hF]
    rcases hfl with ⟨hk, _⟩ | ⟨x, hk, hx, hG⟩
    · exact numEE_any l m s _ j w h hlen (by omega) (by omega)
    · cases hw : wordI x.toNat
      · exact numEF_any l m s _ j w h hlen hk x hx (Lib.hid hw)
      · exact numET_any l m s _ j w h hlen hk x hx (Lib.hid hw)
  | cons y r =>
    by_cases h48 : y = 48
    · subst h48
      by_cases h1 : j = 0
      · subst h1
        have hF : F = true := hfrm
        rcases hfl with ⟨hk, hG⟩ | ⟨x, hk, hx, hG⟩
        · rw [eO hF hG]
          by_cases h9 : 9 < r.length + 1
          · rw [if_pos (by simpa using h9)]
            exact numOEL_any l m s _ r w h hlen (by omega) (by omega) h9
          · rw [if_neg (by simpa using h9)]
            exact numOES_any l m s _ r w h hlen (by omega) (by omega) (by omega) v (hval hF (by simpa using h9))
        · cases hw : wordI x.toNat
          · rw [hw] at hG
            rw [eO hF hG]
            by_cases h9 : 9 < r.length + 1
            · rw [if_pos (by simpa using h9)]
              exact numOFL_any l m s _ r w h hlen hk x hx (Lib.hid hw) h9
            · rw [if_neg (by simpa using h9)]
              exact numOFS_any l m s _ r w h hlen hk x hx (Lib.hid hw) (by omega) v (hval hF (by simpa using h9))
          · rw [hw] at hG
            rw [eG hG]
            exact numOT_any l m s _ r w h hlen hk x hx (Lib.hid hw)
      · have hF : F = false := by rw [hfrm]; simp; omega
        rw [eF hF]
        rcases hfl with ⟨hk, _⟩ | ⟨x, hk, hx, hG⟩
        · exact numZE_any l m s _ j r w h hlen (by omega) (by omega) (by omega)
        · cases hw : wordI x.toNat
          · exact numZF_any l m s _ j r w h hlen (by omega) hk x hx (Lib.hid hw)
          · exact numZT_any l m s _ j r w h hlen (by omega) hk x hx (Lib.hid hw)
    · have hn48 : ¬ (y.toNat : Int) = 48 := fun e => h48 (UInt8.toNat_inj.1 (by simp; omega))
      have hF : F = true := by rw [hfrm]; simp [h48]
      rcases hfl with ⟨hk, hG⟩ | ⟨x, hk, hx, hG⟩
      · rw [eO hF hG]
        by_cases h9 : 9 < r.length + 1
        · rw [if_pos (by simpa using h9)]
          exact numNEL_any l m s _ j y r w h hlen hn48 (by omega) (by omega) h9
        · rw [if_neg (by simpa using h9)]
          exact numNES_any l m s _ j y r w h hlen hn48 (by omega) (by omega) (by omega) v (hval hF (by simpa using h9))
      · cases hw : wordI x.toNat
        · rw [hw] at hG
          rw [eO hF hG]
          by_cases h9 : 9 < r.length + 1
          · rw [if_pos (by simpa using h9)]
            exact numNFL_any l m s _ j y r w h hlen hn48 hk x hx (Lib.hid hw) h9
          · rw [if_neg (by simpa using h9)]
            exact numNFS_any l m s _ j y r w h hlen hn48 hk x hx (Lib.hid hw) (by omega) v (hval hF (by simpa using h9))
        · rw [hw] at hG
          rw [eG hG]
          exact numNT_any l m s _ j y r w h hlen hn48 hk x hx (Lib.hid hw)

end Go.Proofs.YtggdblmjnbnddaaDoor.W
