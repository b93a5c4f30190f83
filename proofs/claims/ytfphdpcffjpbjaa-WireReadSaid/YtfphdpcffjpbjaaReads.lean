/-
  The reader's methods: Bounded, Bool, Text, Bytes, Ints, Ring: what each call returns and leaves. Conditions: the reader's block is known, what is left are bytes, at most 2^40; a limit has 64 bits.
-/
import Derived.Test.YtfphdpcffjpbjaaListV
import Derived.Test.YtfphdpcffjpbjaaBytesC
import Derived.Test.YtfphdpcffjpbjaaText
import Derived.Test.YtfphdpcffjpbjaaReadInt
namespace Go.Proofs.Ytfphdpcffjpbjaa.W
open Go.RowKit Go.Proofs.Ytfphdpcffjpbjaa.Pl

theorem dec_of_alloc {α : Type} {T : Nat} {Rv : World → Value → α → Prop} {s : Step α} {w : World} {o : Obj} {R g : Nat} {l : List Int} {f : Bool} {e : Ending} {w' : World} (h : Dec T Rv s (w.alloc o) R g l f e w') : Dec T Rv s w R g l f e w' := by
  obtain ⟨v, he, hv, hr, hg⟩ := h
  refine ⟨v, he, hv, hr, hg.os, hg.tape, hg.output, Nat.le_trans (by simp) hg.size, fun k hk hne => ?_⟩
  exact (hg.block k (by simp; omega) hne).trans (Below.heap_alloc w o k hk)
theorem dec_mono {α : Type} {T : Nat} {Rv Rv' : World → Value → α → Prop} {s : Step α} {w : World} {R g : Nat} {l : List Int} {f : Bool} {e : Ending} {w' : World} (h : Dec T Rv s w R g l f e w') (hv : ∀ v x, Rv w' v x → Rv' w' v x) : Dec T Rv' s w R g l f e w' := by
  obtain ⟨v, he, hv', hr, hg⟩ := h
  exact ⟨v, he, hv _ _ hv', hr, hg⟩
theorem rec_alloc {w : World} {T R g : Nat} {l : List Int} {f : Bool} (h : Rec w T R g l f) (o : Obj) : Rec (w.alloc o) T R g l f := h.below ((Below.refl _ _).alloc (Nat.le_refl _) o)
theorem cell_alloc {w : World} {a : Addr} {v : Value} (h : w.cell? a = some v) (o : Obj) : (w.alloc o).cell? a = some v := by
  rw [World.cell?_alloc_lt w o a (World.block_lt_of_cell? w a h)]
  exact h

def IsText (_ : World) (v : Value) (m : List Int) : Prop := v = .string (strOfNums m)
def IsBytes (B : Nat) (w : World) (v : Value) (m : List Int) : Prop := OwnB w B v m

theorem rest_src {w : World} {g : Nat} {v : Value} {l : List Int} (h : Rest w g v l) : Src w 1 v l.length (bytes l) := by
  obtain ⟨A, c, rfl, h1, h2, h3⟩ := h
  refine ⟨by rw [bytes_length]; omega, A, c, rfl, fun hn => ?_⟩
  obtain ⟨o, rfl, hc⟩ := h3 (by rintro rfl; simp at hn)
  cases l with
  | nil => simp at hn
  | cons x t =>
    refine ⟨_, rfl, World.block_lt_of_cell? w _ (hc 0 x rfl), fun j u hu => ?_⟩
    obtain ⟨y, hy, rfl⟩ := bytes_at hu
    have hadd : (⟨g, o, none⟩ : Addr).add j = ⟨g, o + j, none⟩ := by
      unfold Addr.add
      split <;> simp_all
    rw [hadd]
    exact hc j y hy

set_option maxRecDepth 100000 in
theorem bounded_clo (C g : Nat) (lo hi : Int) (l : List Int) (f : Bool) (a b : Addr) (w : World) (h : Rec w 107 C g l f) (hb : By l) (ha : w.cell? a = some (.int .i64 lo)) (hb2 : w.cell? b = some (.int .i64 hi)) :
    Calls Try.prog 59 #[.pointer (some ⟨C, 0, none⟩), .pointer (some a), .pointer (some b)] w (Dec 107 IsInt (sBounded lo hi) w C g l f) := by
  go_enter Try.func59, Try.ntmps59
  go_wp2_with fail
  refine (bounded_dec C g lo hi l f _ h hb).mono ?_
  rintro e w1 ⟨v1, rfl, hv, hrec, hgr⟩
  go_wp2
  go_ret
  exact ⟨_, rfl, hv, hrec, hgr⟩

set_option maxRecDepth 100000 in
theorem ints_clo (C g : Nat) (hi : Int) (l : List Int) (f : Bool) (b : Addr) (w : World) (h : Rec w 107 C g l f) (hb : By l) (hl : l.length ≤ 1099511627776) (hmax : hi ≤ 9223372036854775807) (hb2 : w.cell? b = some (.int .i64 hi)) :
    Calls Try.prog 55 #[.pointer (some ⟨C, 0, none⟩), .pointer (some b)] w (Dec 107 (IsInts w.heap.size) (sList hi sInt) w C g l f) := by
  go_enter Try.func55, Try.ntmps55
  go_wp2_with fail
  refine (listI_dec C g hi l f _ h hb hl hmax).mono ?_
  rintro e w1 ⟨v1, rfl, hv, hrec, hgr⟩
  go_wp2
  go_ret
  exact ⟨_, rfl, hv, hrec, hgr⟩

set_option maxRecDepth 100000 in
theorem ring_clo (C g : Nat) (hi : Int) (l : List Int) (f : Bool) (b : Addr) (w : World) (h : Rec w 107 C g l f) (hb : By l) (hl : l.length ≤ 1099511627776) (hmax : hi ≤ 9223372036854775807) (hb2 : w.cell? b = some (.int .i64 hi)) :
    Calls Try.prog 69 #[.pointer (some ⟨C, 0, none⟩), .pointer (some b)] w (Dec 107 (IsVecs w.heap.size) (sList hi sVec) w C g l f) := by
  go_enter Try.func69, Try.ntmps69
  go_wp2_with fail
  refine (ring_dec C g hi l f _ h hb hl hmax).mono ?_
  rintro e w1 ⟨v1, rfl, hv, hrec, hgr⟩
  go_wp2
  go_ret
  exact ⟨_, rfl, hv, hrec, hgr⟩

set_option maxRecDepth 100000 in
theorem text_clo (C g : Nat) (hi : Int) (l : List Int) (f : Bool) (b : Addr) (w : World) (h : Rec w 107 C g l f) (hb : By l) (hb2 : w.cell? b = some (.int .i64 hi)) :
    Calls Try.prog 64 #[.pointer (some ⟨C, 0, none⟩), .pointer (some b)] w (Dec 107 IsText (sBytes hi) w C g l f) := by
  go_enter Try.func64, Try.ntmps64
  go_wp2_with fail
  refine (bytes_dec C g hi l f _ h hb).mono ?_
  rintro e w1 ⟨v1, rfl, hv, hrec, hgr⟩
  have hc := (rest_src hv).convert
  go_wp2
  go_ret
  exact ⟨_, rfl, rfl, hrec, hgr⟩

set_option maxRecDepth 100000 in
theorem bytes_clo (C g : Nat) (hi : Int) (l : List Int) (f : Bool) (b : Addr) (w : World) (h : Rec w 107 C g l f) (hb : By l) (hl : l.length ≤ 1099511627776) (hb2 : w.cell? b = some (.int .i64 hi)) :
    Calls Try.prog 67 #[.pointer (some ⟨C, 0, none⟩), .pointer (some b)] w (Dec 107 (IsBytes w.heap.size) (sBytes hi) w C g l f) := by
  have hC := h.lt
  have hlen : (sBytes hi l f).1.length ≤ 1099511627776 := by
    have h1 := suf_le (suf_sBounded 0 hi) l f
    unfold sBytes
    split
    · simp
    · simp only [List.length_take]
      omega
  go_enter Try.func67, Try.ntmps67
  go_wp2_with fail
  refine (bytes_dec C g hi l f _ h hb).mono ?_
  rintro e w1 ⟨v1, rfl, hv, hrec, hgr⟩
  have hs := rest_src hv
  go_wp2_with (at_builtin; go_must (refine wp_app rfl (.const (.slice none 0 0)) (.tmp 6) rfl w.heap.size (.slice none 0 0) v1 [] _ rfl (OwnB.nil _ _) rfl hs (by simp only [List.length_nil]; omega) hgr.size ?_); intro v2 w2 own2 gr2)
  go_ret
  refine ⟨_, rfl, own2, hrec.below (gr2.below (Nat.le_refl _) (by intro k hk; cases hk)), hgr.trans ?_⟩
  exact ⟨gr2.by_.os, gr2.by_.tape, gr2.by_.output, gr2.by_.size, fun k hk _ => gr2.by_.block k hk (by simp [Value.ownBlock])⟩

theorem suf_loopL {α : Type} {s : Step α} (hs : Suf s) : ∀ (k : Nat) (acc : List α) (l : List Int) (f : Bool), ∃ j, (loopL s k acc l f).2.1 = l.drop j
  | 0, _, l, _ => ⟨0, rfl⟩
  | k + 1, acc, l, f => by
    cases f with
    | true => exact ⟨0, by rw [loopL_failed]; rfl⟩
    | false =>
      obtain ⟨i, hi⟩ := hs l false
      obtain ⟨j, hj⟩ := suf_loopL hs k (acc ++ [(s l false).1]) (s l false).2.1 (s l false).2.2
      refine ⟨i + j, ?_⟩
      rw [loopL_step s (by omega)]
      show (loopL s k _ _ _).2.1 = _
      rw [hj, hi, List.drop_drop]
theorem suf_sList {α : Type} {s : Step α} (max : Int) (hs : Suf s) : Suf (sList max s) := fun l f => by
  obtain ⟨k, hk⟩ := suf_sBounded 0 max l f
  obtain ⟨j, hj⟩ := suf_loopL hs (sBounded 0 max l f).1.toNat [] (sBounded 0 max l f).2.1 (sBounded 0 max l f).2.2
  exact ⟨k + j, by unfold sList; rw [hj, hk, List.drop_drop]⟩

/-- a row of the call's own beside a store into the reader -/
theorem own_set {w : World} {B e size n R j : Nat} {v u : Value} {vs : List Value} (h : w.ownsRow B e size v n vs) (hR : R < B) : (w.setCell ⟨R, j, none⟩ u).ownsRow B e size v n vs :=
  own_row h (grown_setCell _ _ _ _) hR

set_option maxRecDepth 100000 in
set_option maxHeartbeats 400000 in
theorem readBounded_any (R g : Nat) (lo : Int) (hi : Int) (l : List Int) (f : Bool) (b1 : Addr) (b2 : Addr) (W : World) (h : Rec W 79 R g l f) (hb : By l) (c1 : W.cell? b1 = some (.int .i64 lo)) (c2 : W.cell? b2 = some (.int .i64 hi)) :
    Calls Try.prog 58 #[.pointer (some ⟨R, 0, none⟩), .func (.func 59) #[] #[.pointer (some b1), .pointer (some b2)]] W (Dec 79 IsInt (rd 0 (sBounded lo hi)) W R g l f) := by
  have h0 := h
  obtain ⟨rest, h1, hr, h5⟩ := h
  obtain ⟨A, c, rfl, hlc, hcm, _⟩ := id hr
  obtain ⟨k0, k1, k2, k3⟩ := two_cell h1
  cases f with
  | true =>
    have hp : Dec 79 IsInt (rd 0 (sBounded lo hi)) W R g l true (.returned (.int .i64 0)) W := read_failed h0 (rfl)
    clear h1 hr
    go_enter Try.func58, Try.ntmps58
    go_wp2
    go_ret
    exact hp
  | false =>
    have hC : Rec (W.alloc (.cells #[.slice A l.length c, .bool false] 107)) 107 W.heap.size g l false := Rec.new hr hr.lt_
    have hR' : Rec (W.alloc (.cells #[.slice A l.length c, .bool false] 107)) 79 R g l false := rec_alloc h0 _
    have hRl := h0.lt
    have hne : R ≠ W.heap.size := by omega
    clear h1 hr h5
    cases hs : ((sBounded lo hi) l false).2.2 with
    | true =>
      have HS := Lib.hid hs
      clear hs
      go_enter Try.func58, Try.ntmps58
      go_wp2_with (go_at_call 59; go_must (refine (bounded_clo W.heap.size g lo hi l false b1 b2 _ hC hb (cell_alloc c1 _) (cell_alloc c2 _)).mono ?_); rintro e w2 ⟨v2, rfl, hv2, hrec, hgr⟩; rw [HS.out] at hrec; obtain ⟨rest1, rest2, ⟨q0, q1, q2, q3⟩, ⟨q4, q5⟩, hr2⟩ := behind hR' hrec hgr hne; have HV := Lib.hid hv2; clear hrec hv2)
      go_ret
      exact read_bad h0 hgr HS.out (fun _ => rfl)
    | false =>
      have HS := Lib.hid hs
      clear hs
      go_enter Try.func58, Try.ntmps58
      go_wp2_with (go_at_call 59; go_must (refine (bounded_clo W.heap.size g lo hi l false b1 b2 _ hC hb (cell_alloc c1 _) (cell_alloc c2 _)).mono ?_); rintro e w2 ⟨v2, rfl, hv2, hrec, hgr⟩; rw [HS.out] at hrec; obtain ⟨rest1, rest2, ⟨q0, q1, q2, q3⟩, ⟨q4, q5⟩, hr2⟩ := behind hR' hrec hgr hne; obtain ⟨A2, c2, rfl, hq⟩ := id hr2; have HV := Lib.hid hv2; clear hrec hv2)
      go_ret
      exact read_good h0 hgr HS.out hr2 HV.out (suf_sBounded lo hi).ne

set_option maxRecDepth 100000 in
theorem rBounded_any (R g : Nat) (lo : Int) (hi : Int) (l : List Int) (f : Bool) (w : World) (h : Rec w 79 R g l f) (hb : By l) :
    Calls Try.prog 26 #[.pointer (some ⟨R, 0, none⟩), .int .i64 lo, .int .i64 hi] w (Dec 79 IsInt (rd 0 (sBounded lo hi)) w R g l f) := by
  go_enter Try.func26, Try.ntmps26
  go_wp2_with fail
  refine (readBounded_any R g lo hi l f ⟨w.heap.size, 0, none⟩ ⟨w.heap.size + 1, 0, none⟩ _ (rec_alloc (rec_alloc h _) _) hb (by simp) (by simp)).mono ?_
  rintro e w1 hd
  have HD := dec_of_alloc (dec_of_alloc hd)
  obtain ⟨v1, rfl, hv, hrec, hgr⟩ := hd
  have HV := Lib.hid HD
  clear HD hv hrec hgr
  go_wp2
  go_ret
  exact HV.out

set_option maxRecDepth 100000 in
set_option maxHeartbeats 400000 in
theorem readBool_any (R g : Nat) (l : List Int) (f : Bool) (W : World) (h : Rec W 79 R g l f) (hb : By l) :
    Calls Try.prog 61 #[.pointer (some ⟨R, 0, none⟩), .func (.func 62) #[] #[]] W (Dec 79 IsBool (rd false (sBool)) W R g l f) := by
  have h0 := h
  obtain ⟨rest, h1, hr, h5⟩ := h
  obtain ⟨A, c, rfl, hlc, hcm, _⟩ := id hr
  obtain ⟨k0, k1, k2, k3⟩ := two_cell h1
  cases f with
  | true =>
    have hp : Dec 79 IsBool (rd false (sBool)) W R g l true (.returned (.bool false)) W := read_failed h0 (rfl)
    clear h1 hr
    go_enter Try.func61, Try.ntmps61
    go_wp2
    go_ret
    exact hp
  | false =>
    have hC : Rec (W.alloc (.cells #[.slice A l.length c, .bool false] 107)) 107 W.heap.size g l false := Rec.new hr hr.lt_
    have hR' : Rec (W.alloc (.cells #[.slice A l.length c, .bool false] 107)) 79 R g l false := rec_alloc h0 _
    have hRl := h0.lt
    have hne : R ≠ W.heap.size := by omega
    clear h1 hr h5
    cases hs : ((sBool) l false).2.2 with
    | true =>
      have HS := Lib.hid hs
      clear hs
      go_enter Try.func61, Try.ntmps61
      go_wp2_with (go_at_call 62; go_must (refine (boolean_dec W.heap.size g l false _ hC hb).mono ?_); rintro e w2 ⟨v2, rfl, hv2, hrec, hgr⟩; rw [HS.out] at hrec; obtain ⟨rest1, rest2, ⟨q0, q1, q2, q3⟩, ⟨q4, q5⟩, hr2⟩ := behind hR' hrec hgr hne; have HV := Lib.hid hv2; clear hrec hv2)
      go_ret
      exact read_bad h0 hgr HS.out (fun _ => rfl)
    | false =>
      have HS := Lib.hid hs
      clear hs
      go_enter Try.func61, Try.ntmps61
      go_wp2_with (go_at_call 62; go_must (refine (boolean_dec W.heap.size g l false _ hC hb).mono ?_); rintro e w2 ⟨v2, rfl, hv2, hrec, hgr⟩; rw [HS.out] at hrec; obtain ⟨rest1, rest2, ⟨q0, q1, q2, q3⟩, ⟨q4, q5⟩, hr2⟩ := behind hR' hrec hgr hne; obtain ⟨A2, c2, rfl, hq⟩ := id hr2; have HV := Lib.hid hv2; clear hrec hv2)
      go_ret
      exact read_good h0 hgr HS.out hr2 HV.out (suf_sBool).ne

set_option maxRecDepth 100000 in
theorem rBool_any (R g : Nat) (l : List Int) (f : Bool) (w : World) (h : Rec w 79 R g l f) (hb : By l) :
    Calls Try.prog 27 #[.pointer (some ⟨R, 0, none⟩)] w (Dec 79 IsBool (rd false (sBool)) w R g l f) := by
  go_enter Try.func27, Try.ntmps27
  go_wp2_with fail
  refine (readBool_any R g l f _ h hb).mono ?_
  rintro e w1 ⟨v1, rfl, hv, hrec, hgr⟩
  go_wp2
  go_ret
  exact ⟨_, rfl, hv, hrec, hgr⟩

set_option maxRecDepth 100000 in
set_option maxHeartbeats 400000 in
theorem readText_any (R g : Nat) (hi : Int) (l : List Int) (f : Bool) (b1 : Addr) (W : World) (h : Rec W 79 R g l f) (hb : By l) (c1 : W.cell? b1 = some (.int .i64 hi)) :
    Calls Try.prog 63 #[.pointer (some ⟨R, 0, none⟩), .func (.func 64) #[] #[.pointer (some b1)]] W (Dec 79 IsText (rd [] (sBytes hi)) W R g l f) := by
  have h0 := h
  obtain ⟨rest, h1, hr, h5⟩ := h
  obtain ⟨A, c, rfl, hlc, hcm, _⟩ := id hr
  obtain ⟨k0, k1, k2, k3⟩ := two_cell h1
  cases f with
  | true =>
    have hp : Dec 79 IsText (rd [] (sBytes hi)) W R g l true (.returned (.string ⟨#[]⟩)) W := read_failed h0 (rfl)
    clear h1 hr
    go_enter Try.func63, Try.ntmps63
    go_wp2
    go_ret
    exact hp
  | false =>
    have hC : Rec (W.alloc (.cells #[.slice A l.length c, .bool false] 107)) 107 W.heap.size g l false := Rec.new hr hr.lt_
    have hR' : Rec (W.alloc (.cells #[.slice A l.length c, .bool false] 107)) 79 R g l false := rec_alloc h0 _
    have hRl := h0.lt
    have hne : R ≠ W.heap.size := by omega
    clear h1 hr h5
    cases hs : ((sBytes hi) l false).2.2 with
    | true =>
      have HS := Lib.hid hs
      clear hs
      go_enter Try.func63, Try.ntmps63
      go_wp2_with (go_at_call 64; go_must (refine (text_clo W.heap.size g hi l false b1 _ hC hb (cell_alloc c1 _)).mono ?_); rintro e w2 ⟨v2, rfl, hv2, hrec, hgr⟩; rw [HS.out] at hrec; obtain ⟨rest1, rest2, ⟨q0, q1, q2, q3⟩, ⟨q4, q5⟩, hr2⟩ := behind hR' hrec hgr hne; have HV := Lib.hid hv2; clear hrec hv2)
      go_ret
      exact read_bad h0 hgr HS.out (fun _ => rfl)
    | false =>
      have HS := Lib.hid hs
      clear hs
      go_enter Try.func63, Try.ntmps63
      go_wp2_with (go_at_call 64; go_must (refine (text_clo W.heap.size g hi l false b1 _ hC hb (cell_alloc c1 _)).mono ?_); rintro e w2 ⟨v2, rfl, hv2, hrec, hgr⟩; rw [HS.out] at hrec; obtain ⟨rest1, rest2, ⟨q0, q1, q2, q3⟩, ⟨q4, q5⟩, hr2⟩ := behind hR' hrec hgr hne; obtain ⟨A2, c2, rfl, hq⟩ := id hr2; have HV := Lib.hid hv2; clear hrec hv2)
      go_ret
      exact read_good h0 hgr HS.out hr2 HV.out (suf_sBytes hi).ne

set_option maxRecDepth 100000 in
theorem rText_any (R g : Nat) (hi : Int) (l : List Int) (f : Bool) (w : World) (h : Rec w 79 R g l f) (hb : By l) :
    Calls Try.prog 28 #[.pointer (some ⟨R, 0, none⟩), .int .i64 hi] w (Dec 79 IsText (rd [] (sBytes hi)) w R g l f) := by
  go_enter Try.func28, Try.ntmps28
  go_wp2_with fail
  refine (readText_any R g hi l f ⟨w.heap.size, 0, none⟩ _ (rec_alloc h _) hb (by simp)).mono ?_
  rintro e w1 hd
  have HD := dec_of_alloc hd
  obtain ⟨v1, rfl, hv, hrec, hgr⟩ := hd
  have HV := Lib.hid HD
  clear HD hv hrec hgr
  go_wp2
  go_ret
  exact HV.out

set_option maxRecDepth 100000 in
set_option maxHeartbeats 400000 in
theorem readBytes_any (R g : Nat) (hi : Int) (l : List Int) (f : Bool) (b1 : Addr) (W : World) (h : Rec W 79 R g l f) (hb : By l) (hl : l.length ≤ 1099511627776) (c1 : W.cell? b1 = some (.int .i64 hi)) :
    Calls Try.prog 66 #[.pointer (some ⟨R, 0, none⟩), .func (.func 67) #[] #[.pointer (some b1)]] W (Dec 79 (IsBytes W.heap.size) (rd [] (sBytes hi)) W R g l f) := by
  have h0 := h
  obtain ⟨rest, h1, hr, h5⟩ := h
  obtain ⟨A, c, rfl, hlc, hcm, _⟩ := id hr
  obtain ⟨k0, k1, k2, k3⟩ := two_cell h1
  cases f with
  | true =>
    have hp : Dec 79 (IsBytes W.heap.size) (rd [] (sBytes hi)) W R g l true (.returned (.slice none 0 0)) W := read_failed h0 (OwnB.nil _ _)
    clear h1 hr
    go_enter Try.func66, Try.ntmps66
    go_wp2
    go_ret
    exact hp
  | false =>
    have hC : Rec (W.alloc (.cells #[.slice A l.length c, .bool false] 107)) 107 W.heap.size g l false := Rec.new hr hr.lt_
    have hR' : Rec (W.alloc (.cells #[.slice A l.length c, .bool false] 107)) 79 R g l false := rec_alloc h0 _
    have hRl := h0.lt
    have hne : R ≠ W.heap.size := by omega
    clear h1 hr h5
    cases hs : ((sBytes hi) l false).2.2 with
    | true =>
      have HS := Lib.hid hs
      clear hs
      go_enter Try.func66, Try.ntmps66
      go_wp2_with (go_at_call 67; go_must (refine (bytes_clo W.heap.size g hi l false b1 _ hC hb hl (cell_alloc c1 _)).mono ?_); rintro e w2 ⟨v2, rfl, hv2, hrec, hgr⟩; rw [HS.out] at hrec; obtain ⟨rest1, rest2, ⟨q0, q1, q2, q3⟩, ⟨q4, q5⟩, hr2⟩ := behind hR' hrec hgr hne; have HV := Lib.hid hv2; clear hrec hv2)
      go_ret
      exact read_bad h0 hgr HS.out (fun _ => OwnB.nil _ _)
    | false =>
      have HS := Lib.hid hs
      clear hs
      go_enter Try.func66, Try.ntmps66
      go_wp2_with (go_at_call 67; go_must (refine (bytes_clo W.heap.size g hi l false b1 _ hC hb hl (cell_alloc c1 _)).mono ?_); rintro e w2 ⟨v2, rfl, hv2, hrec, hgr⟩; rw [HS.out] at hrec; obtain ⟨rest1, rest2, ⟨q0, q1, q2, q3⟩, ⟨q4, q5⟩, hr2⟩ := behind hR' hrec hgr hne; obtain ⟨A2, c2, rfl, hq⟩ := id hr2; have HV := Lib.hid hv2; clear hrec hv2)
      go_ret
      exact read_good h0 hgr HS.out hr2 (own_set (own_less HV.out (by simp)) (by omega)) (suf_sBytes hi).ne

set_option maxRecDepth 100000 in
theorem rBytes_any (R g : Nat) (hi : Int) (l : List Int) (f : Bool) (w : World) (h : Rec w 79 R g l f) (hb : By l) (hl : l.length ≤ 1099511627776) :
    Calls Try.prog 29 #[.pointer (some ⟨R, 0, none⟩), .int .i64 hi] w (Dec 79 (IsBytes w.heap.size) (rd [] (sBytes hi)) w R g l f) := by
  go_enter Try.func29, Try.ntmps29
  go_wp2_with fail
  refine (readBytes_any R g hi l f ⟨w.heap.size, 0, none⟩ _ (rec_alloc h _) hb hl (by simp)).mono ?_
  rintro e w1 hd
  have HD := dec_mono (Rv' := IsBytes w.heap.size) (dec_of_alloc hd) (fun v x hv => show OwnB w1 w.heap.size v x from own_less hv (by simp))
  obtain ⟨v1, rfl, hv, hrec, hgr⟩ := hd
  have HV := Lib.hid HD
  clear HD hv hrec hgr
  go_wp2
  go_ret
  exact HV.out

set_option maxRecDepth 100000 in
set_option maxHeartbeats 400000 in
theorem readInts_any (R g : Nat) (hi : Int) (l : List Int) (f : Bool) (b1 : Addr) (W : World) (h : Rec W 79 R g l f) (hb : By l) (hl : l.length ≤ 1099511627776) (hmax : hi ≤ 9223372036854775807) (c1 : W.cell? b1 = some (.int .i64 hi)) :
    Calls Try.prog 54 #[.pointer (some ⟨R, 0, none⟩), .func (.func 55) #[] #[.pointer (some b1)]] W (Dec 79 (IsInts W.heap.size) (rd [] (sList hi sInt)) W R g l f) := by
  have h0 := h
  obtain ⟨rest, h1, hr, h5⟩ := h
  obtain ⟨A, c, rfl, hlc, hcm, _⟩ := id hr
  obtain ⟨k0, k1, k2, k3⟩ := two_cell h1
  cases f with
  | true =>
    have hp : Dec 79 (IsInts W.heap.size) (rd [] (sList hi sInt)) W R g l true (.returned (.slice none 0 0)) W := read_failed h0 (OwnI.nil _ _)
    clear h1 hr
    go_enter Try.func54, Try.ntmps54
    go_wp2
    go_ret
    exact hp
  | false =>
    have hC : Rec (W.alloc (.cells #[.slice A l.length c, .bool false] 107)) 107 W.heap.size g l false := Rec.new hr hr.lt_
    have hR' : Rec (W.alloc (.cells #[.slice A l.length c, .bool false] 107)) 79 R g l false := rec_alloc h0 _
    have hRl := h0.lt
    have hne : R ≠ W.heap.size := by omega
    clear h1 hr h5
    cases hs : ((sList hi sInt) l false).2.2 with
    | true =>
      have HS := Lib.hid hs
      clear hs
      go_enter Try.func54, Try.ntmps54
      go_wp2_with (go_at_call 55; go_must (refine (ints_clo W.heap.size g hi l false b1 _ hC hb hl hmax (cell_alloc c1 _)).mono ?_); rintro e w2 ⟨v2, rfl, hv2, hrec, hgr⟩; rw [HS.out] at hrec; obtain ⟨rest1, rest2, ⟨q0, q1, q2, q3⟩, ⟨q4, q5⟩, hr2⟩ := behind hR' hrec hgr hne; have HV := Lib.hid hv2; clear hrec hv2)
      go_ret
      exact read_bad h0 hgr HS.out (fun _ => OwnI.nil _ _)
    | false =>
      have HS := Lib.hid hs
      clear hs
      go_enter Try.func54, Try.ntmps54
      go_wp2_with (go_at_call 55; go_must (refine (ints_clo W.heap.size g hi l false b1 _ hC hb hl hmax (cell_alloc c1 _)).mono ?_); rintro e w2 ⟨v2, rfl, hv2, hrec, hgr⟩; rw [HS.out] at hrec; obtain ⟨rest1, rest2, ⟨q0, q1, q2, q3⟩, ⟨q4, q5⟩, hr2⟩ := behind hR' hrec hgr hne; obtain ⟨A2, c2, rfl, hq⟩ := id hr2; have HV := Lib.hid hv2; clear hrec hv2)
      go_ret
      exact read_good h0 hgr HS.out hr2 (own_set (own_less HV.out (by simp)) (by omega)) (suf_sList hi suf_sInt).ne

set_option maxRecDepth 100000 in
theorem rInts_any (R g : Nat) (hi : Int) (l : List Int) (f : Bool) (w : World) (h : Rec w 79 R g l f) (hb : By l) (hl : l.length ≤ 1099511627776) (hmax : hi ≤ 9223372036854775807) :
    Calls Try.prog 25 #[.pointer (some ⟨R, 0, none⟩), .int .i64 hi] w (Dec 79 (IsInts w.heap.size) (rd [] (sList hi sInt)) w R g l f) := by
  go_enter Try.func25, Try.ntmps25
  go_wp2_with fail
  refine (readInts_any R g hi l f ⟨w.heap.size, 0, none⟩ _ (rec_alloc h _) hb hl hmax (by simp)).mono ?_
  rintro e w1 hd
  have HD := dec_mono (Rv' := IsInts w.heap.size) (dec_of_alloc hd) (fun v x hv => show OwnI w1 w.heap.size v x from own_less hv (by simp))
  obtain ⟨v1, rfl, hv, hrec, hgr⟩ := hd
  have HV := Lib.hid HD
  clear HD hv hrec hgr
  go_wp2
  go_ret
  exact HV.out

set_option maxRecDepth 100000 in
set_option maxHeartbeats 400000 in
theorem readRing_any (R g : Nat) (hi : Int) (l : List Int) (f : Bool) (b1 : Addr) (W : World) (h : Rec W 79 R g l f) (hb : By l) (hl : l.length ≤ 1099511627776) (hmax : hi ≤ 9223372036854775807) (c1 : W.cell? b1 = some (.int .i64 hi)) :
    Calls Try.prog 68 #[.pointer (some ⟨R, 0, none⟩), .func (.func 69) #[] #[.pointer (some b1)]] W (Dec 79 (IsVecs W.heap.size) (rd [] (sList hi sVec)) W R g l f) := by
  have h0 := h
  obtain ⟨rest, h1, hr, h5⟩ := h
  obtain ⟨A, c, rfl, hlc, hcm, _⟩ := id hr
  obtain ⟨k0, k1, k2, k3⟩ := two_cell h1
  cases f with
  | true =>
    have hp : Dec 79 (IsVecs W.heap.size) (rd [] (sList hi sVec)) W R g l true (.returned (.slice none 0 0)) W := read_failed h0 (OwnV.nil _ _)
    clear h1 hr
    go_enter Try.func68, Try.ntmps68
    go_wp2
    go_ret
    exact hp
  | false =>
    have hC : Rec (W.alloc (.cells #[.slice A l.length c, .bool false] 107)) 107 W.heap.size g l false := Rec.new hr hr.lt_
    have hR' : Rec (W.alloc (.cells #[.slice A l.length c, .bool false] 107)) 79 R g l false := rec_alloc h0 _
    have hRl := h0.lt
    have hne : R ≠ W.heap.size := by omega
    clear h1 hr h5
    cases hs : ((sList hi sVec) l false).2.2 with
    | true =>
      have HS := Lib.hid hs
      clear hs
      go_enter Try.func68, Try.ntmps68
      go_wp2_with (go_at_call 69; go_must (refine (ring_clo W.heap.size g hi l false b1 _ hC hb hl hmax (cell_alloc c1 _)).mono ?_); rintro e w2 ⟨v2, rfl, hv2, hrec, hgr⟩; rw [HS.out] at hrec; obtain ⟨rest1, rest2, ⟨q0, q1, q2, q3⟩, ⟨q4, q5⟩, hr2⟩ := behind hR' hrec hgr hne; have HV := Lib.hid hv2; clear hrec hv2)
      go_ret
      exact read_bad h0 hgr HS.out (fun _ => OwnV.nil _ _)
    | false =>
      have HS := Lib.hid hs
      clear hs
      go_enter Try.func68, Try.ntmps68
      go_wp2_with (go_at_call 69; go_must (refine (ring_clo W.heap.size g hi l false b1 _ hC hb hl hmax (cell_alloc c1 _)).mono ?_); rintro e w2 ⟨v2, rfl, hv2, hrec, hgr⟩; rw [HS.out] at hrec; obtain ⟨rest1, rest2, ⟨q0, q1, q2, q3⟩, ⟨q4, q5⟩, hr2⟩ := behind hR' hrec hgr hne; obtain ⟨A2, c2, rfl, hq⟩ := id hr2; have HV := Lib.hid hv2; clear hrec hv2)
      go_ret
      exact read_good h0 hgr HS.out hr2 (own_set (own_less HV.out (by simp)) (by omega)) (suf_sList hi suf_sVec).ne

set_option maxRecDepth 100000 in
theorem rRing_any (R g : Nat) (hi : Int) (l : List Int) (f : Bool) (w : World) (h : Rec w 79 R g l f) (hb : By l) (hl : l.length ≤ 1099511627776) (hmax : hi ≤ 9223372036854775807) :
    Calls Try.prog 31 #[.pointer (some ⟨R, 0, none⟩), .int .i64 hi] w (Dec 79 (IsVecs w.heap.size) (rd [] (sList hi sVec)) w R g l f) := by
  go_enter Try.func31, Try.ntmps31
  go_wp2_with fail
  refine (readRing_any R g hi l f ⟨w.heap.size, 0, none⟩ _ (rec_alloc h _) hb hl hmax (by simp)).mono ?_
  rintro e w1 hd
  have HD := dec_mono (Rv' := IsVecs w.heap.size) (dec_of_alloc hd) (fun v x hv => show OwnV w1 w.heap.size v x from own_less hv (by simp))
  obtain ⟨v1, rfl, hv, hrec, hgr⟩ := hd
  have HV := Lib.hid HD
  clear HD hv hrec hgr
  go_wp2
  go_ret
  exact HV.out

end Go.Proofs.Ytfphdpcffjpbjaa.W
