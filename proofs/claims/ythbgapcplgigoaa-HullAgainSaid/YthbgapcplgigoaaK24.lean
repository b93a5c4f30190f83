/-
  hull, plain: moved points. Conditions: as stated.
  hull: an append as a step of a region that draws its order. No condition.
-/
import Derived.Test.YthbgapcplgigoaaK22
import Derived.Test.YthbgapcplgigoaaK02
import Derived.Test.YthbgapcplgigoaaK01
namespace Go.Proofs.Ythbgapcplgigoaa.G
open Go.RowKit Go.Proofs.Ythbgapcplgigoaa.V Go.Proofs.Ythbgapcplgigoaa.W

def M4 (p : Pt) : Prop := p.1.natAbs ≤ 4000 ∧ p.2.natAbs ≤ 4000
theorem within_m4 {p : Pt} (h : withinV p.1 p.2 4000 = true) : M4 p := by
  unfold withinV at h
  rw [show w64 (-4000) = -4000 by rw [w64_eq]; omega] at h
  simp at h
  unfold M4
  omega
def movW (v p : Pt) : Pt := (w64 (p.1 + v.1), w64 (p.2 + v.2))
theorem mov_eq {v p : Pt} (hv : M2 v) (hp : M4 p) : movW v p = mvP v p := by
  unfold M2 at hv
  unfold M4 at hp
  unfold movW mvP
  rw [w64_id ⟨by omega, by omega⟩, w64_id ⟨by omega, by omega⟩]
theorem mov_list {v : Pt} {l : List Pt} (hv : M2 v) (hl : ∀ x ∈ l, M4 x) : l.map (movW v) = l.map (mvP v) := List.map_congr_left fun x hx => mov_eq hv (hl x hx)
theorem mov_ok {v : Pt} {l : List Pt} (hv : M2 v) (hl : ∀ x ∈ l, M4 x) : allS (l.map (mvP v)) = true := by
  rw [allS_iff]
  intro p hp
  obtain ⟨x, hx, rfl⟩ := List.mem_map.1 hp
  have := hl x hx
  unfold M4 at this
  unfold M2 at hv
  rw [sOk_iff]
  unfold mvP
  simp only
  omega
theorem flat_mov {v : Pt} {l : List Pt} (h : FlatP l) : FlatP (l.map (mvP v)) := by
  intro x y z hx hy hz
  obtain ⟨a, ha, rfl⟩ := List.mem_map.1 hx
  obtain ⟨b, hb, rfl⟩ := List.mem_map.1 hy
  obtain ⟨c, hc, rfl⟩ := List.mem_map.1 hz
  rw [crsP_mv]
  exact h a b c ha hb hc
/-- the hulls of a list and of the moved one -/
theorem mov_cases {v : Pt} {l : List Pt} (hv : M2 v) (hl : ∀ x ∈ l, M4 x) (hs : allS l = true) (h1 : l.length ≤ 160) :
    (hullH l = ([], 11) ∧ hullH (l.map (mvP v)) = ([], 11)) ∨ ∃ r, HullP l r ∧ hullH l = (r, 0) ∧ hullH (l.map (mvP v)) = (r.map (mvP v), 0) ∧ convB r = true ∧ convB (r.map (mvP v)) = true ∧ allS r = true := by
  rcases hullH_small hs h1 with ⟨f, e⟩ | ⟨r, h, e, c, a⟩
  · rcases hullH_small (mov_ok hv hl) (by rw [List.length_map]; exact h1) with ⟨_, e'⟩ | ⟨r', h', _⟩
    · exact .inl ⟨e, e'⟩
    · exact absurd (flat_mov f) h'.bend
  · rcases hullH_small (mov_ok hv hl) (by rw [List.length_map]; exact h1) with ⟨f', _⟩ | ⟨r', h', e', c', _⟩
    · exact absurd f' (h.moved v).bend
    · obtain rfl := hull_unique h' (h.moved v)
      exact .inr ⟨r, h, e, e', c, c', a⟩
theorem wid_mov {v d : Pt} {r : List Pt} (h : 0 < r.length) : widH d (r.map (mvP v)) = widH d r := by
  have h' : 0 < (r.map (mvP v)).length := by rw [List.length_map]; exact h
  have := wid_moved (widH_wid (d := d) h) (widH_wid (d := d) h')
  unfold widH
  omega
end Go.Proofs.Ythbgapcplgigoaa.G

namespace Go.Proofs.Ythbgapcplgigoaa.W
open Go.RowKit Go.Proofs.Ythbgapcplgigoaa.V Go.Proofs.Ythbgapcplgigoaa.G


section
variable {w : World} {ops : Array Oper} {o : Oper} {a : Act} {K : Act → World → Prop} {Q : Exit → Act → World → Prop} {E : Prop}
/-- an append of whatever source, as a step of a region that draws its order -/
theorem step_appG (hgd : o.guard = none) (s x : Operand) (t e : TypeId) (size bts : Nat) (z : Value)
    (ho : o.op = .call { callee := .builtin .append, args := #[s, x], argTypes := #[t, t] })
    (hu : Try.prog.underlying t = some (.slice e)) (hinfo : (Try.prog.info? e).map (fun i => (i.zero, i.size, i.bytes)) = some (some z, size, bts)) (hz : z.cells.size = size) (hsz : 0 < size)
    (B n m : Nat) (v u : Value) (vs us : List Value) (hs : a.eval s = v) (hown : w.ownsRow B e size v n vs) (hx : a.eval x = u) (hsrc : Src w size u m us) (hone : ∀ u ∈ us, u.oneCell' = true)
    (hlen : (n + m) * bts ≤ 140737488355328) (hn : n + m ≤ 9223372036854775807) (hB : B ≤ w.heap.size)
    (h : ∀ v' w', w'.ownsRow B e size v' (n + m) (vs ++ us) → Grew w w' v v' → K (a.put o.dst v') w') :
    if Region.wanted o (yielded ops a.tmps) = true then Oper.wp Try.prog o a w K Q else E := by
  have hw : Region.wanted o (yielded ops a.tmps) = true := by simp [Region.wanted, hgd]
  rw [if_pos hw]
  obtain ⟨v', w', hr, h1, h2⟩ := run_appG o.type t e size bts z hu hinfo hz hsz B n m v u vs us hown hsrc hone hlen hn hB
  unfold Oper.wp execOp
  simp only [ho, resolve, invoke, builtin, Sem.run_bind, Sem.run_pure, Result.andThen_ok, List.map_toArray, List.map_cons, List.map_nil, hs, hx, hr]
  exact h v' w' h1 h2
end
/-- a new slice of one element -/
theorem src_new {w : World} {g : Nat} {t : TypeId} {cs : List Value} (h : Blk w g t cs.toArray) : Src w cs.length (.slice (some ⟨g, 0, none⟩) 1 1) 1 cs := by
  refine ⟨by omega, _, _, rfl, Nat.le_refl _, by unfold maxLen; omega, fun _ => ⟨g, 0, rfl, h.lt, fun j u hu => ?_⟩⟩
  rw [Nat.zero_add, h.cell j, ← hu]
  exact List.getElem?_toArray


end Go.Proofs.Ythbgapcplgigoaa.W
