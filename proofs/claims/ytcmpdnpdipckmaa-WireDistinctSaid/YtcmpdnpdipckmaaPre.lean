/-
  A proper prefix of an encoding is not read: plain functions. Conditions: integers of 64 bits, lists within the given limits.
-/
import Derived.Test.YtcmpdnpdipckmaaCanLaw
import Derived.Test.YtcmpdnpdipckmaaFewV
namespace Go.Proofs.Ytcmpdnpdipckmaa.W
open Go.RowKit Go.Proofs.Ytcmpdnpdipckmaa.Pl

theorem prefix_fails {α : Type} {s s' : Step α} {e : α → List Int} {P : α → Prop} (hc : Canon s e) (hs' : ∀ x, P x → ∀ r, s' (e x ++ r) false = (x, r, false)) (hg : Gives s P) {x : α} (hx : P x) (hb : By (e x)) {k : Nat} (hk : k < (e x).length) :
    (s ((e x).take k) false).2.2 = true := by
  cases hf : (s ((e x).take k) false).2.2 with
  | true => rfl
  | false =>
    exfalso
    have hbt := hb.take k
    have e1 := hc _ hbt hf
    have hy := hg ((e x).take k) false hbt
    have e2 := hs' _ hy ((s ((e x).take k) false).2.1 ++ (e x).drop k)
    rw [← List.append_assoc, ← e1, List.take_append_drop] at e2
    have e3 := hs' x hx []
    rw [List.append_nil] at e3
    rw [e3] at e2
    injection e2 with _ e4
    injection e4 with e5 _
    have := congrArg List.length e5
    rw [List.length_append, List.length_drop, List.length_nil] at this
    omega

def sShapeBig : Step Shp := fun l f =>
  let a := sList 1000 sVec l f
  let b := sList 1000 (sList 1000 sVec) a.2.1 a.2.2
  ((a.1, b.1), b.2.1, b.2.2)
def SmallS (s : Shp) : Prop := ((∀ p ∈ s.1, VI64 p) ∧ s.1.length ≤ 1000) ∧ (∀ r ∈ s.2, (∀ p ∈ r, VI64 p) ∧ r.length ≤ 1000) ∧ s.2.length ≤ 1000
theorem big_ring (r : List (Int × Int)) (h : (∀ p ∈ r, VI64 p) ∧ r.length ≤ 1000) (t : List Int) : sList 1000 sVec (encR r ++ t) false = (r, t, false) :=
  sList_enc (fun x hx r' => sVec_enc (h.1 x hx).1 (h.1 x hx).2 r' false) (by omega) (by omega) t
theorem big_shape (s : Shp) (h : SmallS s) (r : List Int) : sShapeBig (encS s ++ r) false = (s, r, false) := by
  unfold sShapeBig encS
  rw [List.append_assoc, big_ring s.1 h.1]
  simp only
  have := sList_enc (s := sList 1000 sVec) (e := encR) (l := s.2) (hi := 1000) (fun x hx r' => big_ring x (h.2.1 x hx) r') (by have := h.2.2; omega) (by have := h.2.2; omega) r
  rw [this]
theorem pre_shape {s : Shp} (h : SmallS s) {k : Nat} (hk : k < (encS s).length) : (sShape ((encS s).take k) false).2.2 = true :=
  prefix_fails (P := SmallS) canon_sShape big_shape (fun l f hb => by
    have g := gives_sShape l f hb
    exact ⟨⟨g.1.1, by have := g.1.2; omega⟩, fun r hr => ⟨(g.2.1 r hr).1, by have := (g.2.1 r hr).2; omega⟩, by have := g.2.2; omega⟩) h (encS_by s) hk
theorem pre_int {n : Int} (h : I64 n) {k : Nat} (hk : k < (enc n).length) : (sInt ((enc n).take k) false).2.2 = true :=
  prefix_fails (P := I64) canon_sInt (fun _ hx r => sInt_enc hx r false) gives_sInt h (enc_by n) hk
theorem pre_text {m : List Int} (h : m.length ≤ 200) (hb : By m) {k : Nat} (hk : k < (encT m).length) : (sBytes 200 ((encT m).take k) false).2.2 = true :=
  prefix_fails (s' := sBytes 200) (P := fun m => m.length ≤ 200) (canon_sBytes 200) (fun x hx r => sBytes_enc (by have : x.length ≤ 200 := hx; omega) (by have : x.length ≤ 200 := hx; omega) r false) (fun l f hb => by
    have h1 := sBounded_range 200 l f
    unfold sBytes
    split
    · exact Nat.zero_le _
    · simp only [List.length_take]; omega) h (encT_by hb) hk
theorem enc_pos (n : Int) : 0 < (enc n).length := by unfold enc; simp
theorem encT_pos (m : List Int) : 0 < (encT m).length := by unfold encT; rw [List.length_append]; have := enc_pos (m.length : Int); omega
theorem encS_pos (s : Shp) : 0 < (encS s).length := by unfold encS encR encL; rw [List.length_append, List.length_append]; have := enc_pos (s.1.length : Int); omega

theorem src_take {w : World} {A : Option Addr} {n c : Nat} {l : List Int} (h : Src w 1 (.slice A n c) l.length (bytes l)) (k : Nat) (hk : k ≤ l.length) : Src w 1 (.slice A k c) (l.take k).length (bytes (l.take k)) := by
  obtain ⟨h1, A', c', hv, hc⟩ := h
  injection hv with h3 h4 h5
  subst h3 h5
  have hl : (l.take k).length = k := by rw [List.length_take]; omega
  refine ⟨by simp [bytes], A, c, by rw [hl], fun hn => ?_⟩
  rw [hl] at hn
  obtain ⟨a, e1, e2, e3⟩ := hc (by omega)
  refine ⟨a, e1, e2, fun j u hu => e3 j u ?_⟩
  unfold bytes at hu ⊢
  rw [List.getElem?_map] at hu ⊢
  rw [List.getElem?_take] at hu
  split at hu
  · exact hu
  · cases hu
end Go.Proofs.Ytcmpdnpdipckmaa.W
