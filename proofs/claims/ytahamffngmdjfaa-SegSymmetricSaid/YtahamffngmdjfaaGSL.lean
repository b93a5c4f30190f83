/-
  SegSymmetric: the call returns true. No condition.
-/
import Derived.Test.YtahamffngmdjfaaGSR
import Derived.Test.YtahamffngmdjfaaGPf
import Derived.Test.YtahamffngmdjfaaGSV
import Derived.Deep.CutRange
namespace Go.Proofs.Ytahamffngmdjfaa.W
open Go.RowKit Go.Proofs.Ytahamffngmdjfaa.V Go.Proofs.Ytahamffngmdjfaa.G

theorem lay3w {w : World} {g : Nat} {t : TypeId} {a0 a1 a2 : Value} (h : Blk w g t #[a0, a1, a2]) (x0 x1 x2 : Value) : Blk (((w.setCell ⟨g, 0, none⟩ x0).setCell ⟨g, 1, none⟩ x1).setCell ⟨g, 2, none⟩ x2) g t #[x0, x1, x2] := by
  have h : Blk (w.setCell ⟨g, 0, none⟩ x0) g t #[x0, a1, a2] := h.set_ 0 x0
  have h : Blk ((w.setCell ⟨g, 0, none⟩ x0).setCell ⟨g, 1, none⟩ x1) g t #[x0, x1, a2] := h.set_ 1 x1
  have h : Blk (((w.setCell ⟨g, 0, none⟩ x0).setCell ⟨g, 1, none⟩ x1).setCell ⟨g, 2, none⟩ x2) g t #[x0, x1, x2] := h.set_ 2 x2
  exact h
theorem new3w {Z : Nat → Prop} {a w : World} (h : Kp Z a w) {g : Nat} (hg : a.heap.size ≤ g) (x0 x1 x2 : Value) : Kp Z a (((w.setCell ⟨g, 0, none⟩ x0).setCell ⟨g, 1, none⟩ x1).setCell ⟨g, 2, none⟩ x2) := (((h.new hg 0 x0).new hg 1 x1).new hg 2 x2)
theorem lay4w {w : World} {g : Nat} {t : TypeId} {a0 a1 a2 a3 : Value} (h : Blk w g t #[a0, a1, a2, a3]) (x0 x1 x2 x3 : Value) : Blk ((((w.setCell ⟨g, 0, none⟩ x0).setCell ⟨g, 1, none⟩ x1).setCell ⟨g, 2, none⟩ x2).setCell ⟨g, 3, none⟩ x3) g t #[x0, x1, x2, x3] := by
  have h : Blk (w.setCell ⟨g, 0, none⟩ x0) g t #[x0, a1, a2, a3] := h.set_ 0 x0
  have h : Blk ((w.setCell ⟨g, 0, none⟩ x0).setCell ⟨g, 1, none⟩ x1) g t #[x0, x1, a2, a3] := h.set_ 1 x1
  have h : Blk (((w.setCell ⟨g, 0, none⟩ x0).setCell ⟨g, 1, none⟩ x1).setCell ⟨g, 2, none⟩ x2) g t #[x0, x1, x2, a3] := h.set_ 2 x2
  have h : Blk ((((w.setCell ⟨g, 0, none⟩ x0).setCell ⟨g, 1, none⟩ x1).setCell ⟨g, 2, none⟩ x2).setCell ⟨g, 3, none⟩ x3) g t #[x0, x1, x2, x3] := h.set_ 3 x3
  exact h
theorem new4w {Z : Nat → Prop} {a w : World} (h : Kp Z a w) {g : Nat} (hg : a.heap.size ≤ g) (x0 x1 x2 x3 : Value) : Kp Z a ((((w.setCell ⟨g, 0, none⟩ x0).setCell ⟨g, 1, none⟩ x1).setCell ⟨g, 2, none⟩ x2).setCell ⟨g, 3, none⟩ x3) := ((((h.new hg 0 x0).new hg 1 x1).new hg 2 x2).new hg 3 x3)
theorem lay24w {w : World} {g : Nat} {t : TypeId} {a0 a1 a2 a3 a4 a5 a6 a7 a8 a9 a10 a11 a12 a13 a14 a15 a16 a17 a18 a19 a20 a21 a22 a23 : Value} (h : Blk w g t #[a0, a1, a2, a3, a4, a5, a6, a7, a8, a9, a10, a11, a12, a13, a14, a15, a16, a17, a18, a19, a20, a21, a22, a23]) (x0 x1 x2 x3 x4 x5 x6 x7 x8 x9 x10 x11 x12 x13 x14 x15 x16 x17 x18 x19 x20 x21 x22 x23 : Value) : Blk ((((((((((((((((((((((((w.setCell ⟨g, 0, none⟩ x0).setCell ⟨g, 1, none⟩ x1).setCell ⟨g, 2, none⟩ x2).setCell ⟨g, 3, none⟩ x3).setCell ⟨g, 4, none⟩ x4).setCell ⟨g, 5, none⟩ x5).setCell ⟨g, 6, none⟩ x6).setCell ⟨g, 7, none⟩ x7).setCell ⟨g, 8, none⟩ x8).setCell ⟨g, 9, none⟩ x9).setCell ⟨g, 10, none⟩ x10).setCell ⟨g, 11, none⟩ x11).setCell ⟨g, 12, none⟩ x12).setCell ⟨g, 13, none⟩ x13).setCell ⟨g, 14, none⟩ x14).setCell ⟨g, 15, none⟩ x15).setCell ⟨g, 16, none⟩ x16).setCell ⟨g, 17, none⟩ x17).setCell ⟨g, 18, none⟩ x18).setCell ⟨g, 19, none⟩ x19).setCell ⟨g, 20, none⟩ x20).setCell ⟨g, 21, none⟩ x21).setCell ⟨g, 22, none⟩ x22).setCell ⟨g, 23, none⟩ x23) g t #[x0, x1, x2, x3, x4, x5, x6, x7, x8, x9, x10, x11, x12, x13, x14, x15, x16, x17, x18, x19, x20, x21, x22, x23] := by
  have h : Blk (w.setCell ⟨g, 0, none⟩ x0) g t #[x0, a1, a2, a3, a4, a5, a6, a7, a8, a9, a10, a11, a12, a13, a14, a15, a16, a17, a18, a19, a20, a21, a22, a23] := h.set_ 0 x0
  have h : Blk ((w.setCell ⟨g, 0, none⟩ x0).setCell ⟨g, 1, none⟩ x1) g t #[x0, x1, a2, a3, a4, a5, a6, a7, a8, a9, a10, a11, a12, a13, a14, a15, a16, a17, a18, a19, a20, a21, a22, a23] := h.set_ 1 x1
  have h : Blk (((w.setCell ⟨g, 0, none⟩ x0).setCell ⟨g, 1, none⟩ x1).setCell ⟨g, 2, none⟩ x2) g t #[x0, x1, x2, a3, a4, a5, a6, a7, a8, a9, a10, a11, a12, a13, a14, a15, a16, a17, a18, a19, a20, a21, a22, a23] := h.set_ 2 x2
  have h : Blk ((((w.setCell ⟨g, 0, none⟩ x0).setCell ⟨g, 1, none⟩ x1).setCell ⟨g, 2, none⟩ x2).setCell ⟨g, 3, none⟩ x3) g t #[x0, x1, x2, x3, a4, a5, a6, a7, a8, a9, a10, a11, a12, a13, a14, a15, a16, a17, a18, a19, a20, a21, a22, a23] := h.set_ 3 x3
  have h : Blk (((((w.setCell ⟨g, 0, none⟩ x0).setCell ⟨g, 1, none⟩ x1).setCell ⟨g, 2, none⟩ x2).setCell ⟨g, 3, none⟩ x3).setCell ⟨g, 4, none⟩ x4) g t #[x0, x1, x2, x3, x4, a5, a6, a7, a8, a9, a10, a11, a12, a13, a14, a15, a16, a17, a18, a19, a20, a21, a22, a23] := h.set_ 4 x4
  have h : Blk ((((((w.setCell ⟨g, 0, none⟩ x0).setCell ⟨g, 1, none⟩ x1).setCell ⟨g, 2, none⟩ x2).setCell ⟨g, 3, none⟩ x3).setCell ⟨g, 4, none⟩ x4).setCell ⟨g, 5, none⟩ x5) g t #[x0, x1, x2, x3, x4, x5, a6, a7, a8, a9, a10, a11, a12, a13, a14, a15, a16, a17, a18, a19, a20, a21, a22, a23] := h.set_ 5 x5
  have h : Blk (((((((w.setCell ⟨g, 0, none⟩ x0).setCell ⟨g, 1, none⟩ x1).setCell ⟨g, 2, none⟩ x2).setCell ⟨g, 3, none⟩ x3).setCell ⟨g, 4, none⟩ x4).setCell ⟨g, 5, none⟩ x5).setCell ⟨g, 6, none⟩ x6) g t #[x0, x1, x2, x3, x4, x5, x6, a7, a8, a9, a10, a11, a12, a13, a14, a15, a16, a17, a18, a19, a20, a21, a22, a23] := h.set_ 6 x6
  have h : Blk ((((((((w.setCell ⟨g, 0, none⟩ x0).setCell ⟨g, 1, none⟩ x1).setCell ⟨g, 2, none⟩ x2).setCell ⟨g, 3, none⟩ x3).setCell ⟨g, 4, none⟩ x4).setCell ⟨g, 5, none⟩ x5).setCell ⟨g, 6, none⟩ x6).setCell ⟨g, 7, none⟩ x7) g t #[x0, x1, x2, x3, x4, x5, x6, x7, a8, a9, a10, a11, a12, a13, a14, a15, a16, a17, a18, a19, a20, a21, a22, a23] := h.set_ 7 x7
  have h : Blk (((((((((w.setCell ⟨g, 0, none⟩ x0).setCell ⟨g, 1, none⟩ x1).setCell ⟨g, 2, none⟩ x2).setCell ⟨g, 3, none⟩ x3).setCell ⟨g, 4, none⟩ x4).setCell ⟨g, 5, none⟩ x5).setCell ⟨g, 6, none⟩ x6).setCell ⟨g, 7, none⟩ x7).setCell ⟨g, 8, none⟩ x8) g t #[x0, x1, x2, x3, x4, x5, x6, x7, x8, a9, a10, a11, a12, a13, a14, a15, a16, a17, a18, a19, a20, a21, a22, a23] := h.set_ 8 x8
  have h : Blk ((((((((((w.setCell ⟨g, 0, none⟩ x0).setCell ⟨g, 1, none⟩ x1).setCell ⟨g, 2, none⟩ x2).setCell ⟨g, 3, none⟩ x3).setCell ⟨g, 4, none⟩ x4).setCell ⟨g, 5, none⟩ x5).setCell ⟨g, 6, none⟩ x6).setCell ⟨g, 7, none⟩ x7).setCell ⟨g, 8, none⟩ x8).setCell ⟨g, 9, none⟩ x9) g t #[x0, x1, x2, x3, x4, x5, x6, x7, x8, x9, a10, a11, a12, a13, a14, a15, a16, a17, a18, a19, a20, a21, a22, a23] := h.set_ 9 x9
  have h : Blk (((((((((((w.setCell ⟨g, 0, none⟩ x0).setCell ⟨g, 1, none⟩ x1).setCell ⟨g, 2, none⟩ x2).setCell ⟨g, 3, none⟩ x3).setCell ⟨g, 4, none⟩ x4).setCell ⟨g, 5, none⟩ x5).setCell ⟨g, 6, none⟩ x6).setCell ⟨g, 7, none⟩ x7).setCell ⟨g, 8, none⟩ x8).setCell ⟨g, 9, none⟩ x9).setCell ⟨g, 10, none⟩ x10) g t #[x0, x1, x2, x3, x4, x5, x6, x7, x8, x9, x10, a11, a12, a13, a14, a15, a16, a17, a18, a19, a20, a21, a22, a23] := h.set_ 10 x10
  have h : Blk ((((((((((((w.setCell ⟨g, 0, none⟩ x0).setCell ⟨g, 1, none⟩ x1).setCell ⟨g, 2, none⟩ x2).setCell ⟨g, 3, none⟩ x3).setCell ⟨g, 4, none⟩ x4).setCell ⟨g, 5, none⟩ x5).setCell ⟨g, 6, none⟩ x6).setCell ⟨g, 7, none⟩ x7).setCell ⟨g, 8, none⟩ x8).setCell ⟨g, 9, none⟩ x9).setCell ⟨g, 10, none⟩ x10).setCell ⟨g, 11, none⟩ x11) g t #[x0, x1, x2, x3, x4, x5, x6, x7, x8, x9, x10, x11, a12, a13, a14, a15, a16, a17, a18, a19, a20, a21, a22, a23] := h.set_ 11 x11
  have h : Blk (((((((((((((w.setCell ⟨g, 0, none⟩ x0).setCell ⟨g, 1, none⟩ x1).setCell ⟨g, 2, none⟩ x2).setCell ⟨g, 3, none⟩ x3).setCell ⟨g, 4, none⟩ x4).setCell ⟨g, 5, none⟩ x5).setCell ⟨g, 6, none⟩ x6).setCell ⟨g, 7, none⟩ x7).setCell ⟨g, 8, none⟩ x8).setCell ⟨g, 9, none⟩ x9).setCell ⟨g, 10, none⟩ x10).setCell ⟨g, 11, none⟩ x11).setCell ⟨g, 12, none⟩ x12) g t #[x0, x1, x2, x3, x4, x5, x6, x7, x8, x9, x10, x11, x12, a13, a14, a15, a16, a17, a18, a19, a20, a21, a22, a23] := h.set_ 12 x12
  have h : Blk ((((((((((((((w.setCell ⟨g, 0, none⟩ x0).setCell ⟨g, 1, none⟩ x1).setCell ⟨g, 2, none⟩ x2).setCell ⟨g, 3, none⟩ x3).setCell ⟨g, 4, none⟩ x4).setCell ⟨g, 5, none⟩ x5).setCell ⟨g, 6, none⟩ x6).setCell ⟨g, 7, none⟩ x7).setCell ⟨g, 8, none⟩ x8).setCell ⟨g, 9, none⟩ x9).setCell ⟨g, 10, none⟩ x10).setCell ⟨g, 11, none⟩ x11).setCell ⟨g, 12, none⟩ x12).setCell ⟨g, 13, none⟩ x13) g t #[x0, x1, x2, x3, x4, x5, x6, x7, x8, x9, x10, x11, x12, x13, a14, a15, a16, a17, a18, a19, a20, a21, a22, a23] := h.set_ 13 x13
  have h : Blk (((((((((((((((w.setCell ⟨g, 0, none⟩ x0).setCell ⟨g, 1, none⟩ x1).setCell ⟨g, 2, none⟩ x2).setCell ⟨g, 3, none⟩ x3).setCell ⟨g, 4, none⟩ x4).setCell ⟨g, 5, none⟩ x5).setCell ⟨g, 6, none⟩ x6).setCell ⟨g, 7, none⟩ x7).setCell ⟨g, 8, none⟩ x8).setCell ⟨g, 9, none⟩ x9).setCell ⟨g, 10, none⟩ x10).setCell ⟨g, 11, none⟩ x11).setCell ⟨g, 12, none⟩ x12).setCell ⟨g, 13, none⟩ x13).setCell ⟨g, 14, none⟩ x14) g t #[x0, x1, x2, x3, x4, x5, x6, x7, x8, x9, x10, x11, x12, x13, x14, a15, a16, a17, a18, a19, a20, a21, a22, a23] := h.set_ 14 x14
  have h : Blk ((((((((((((((((w.setCell ⟨g, 0, none⟩ x0).setCell ⟨g, 1, none⟩ x1).setCell ⟨g, 2, none⟩ x2).setCell ⟨g, 3, none⟩ x3).setCell ⟨g, 4, none⟩ x4).setCell ⟨g, 5, none⟩ x5).setCell ⟨g, 6, none⟩ x6).setCell ⟨g, 7, none⟩ x7).setCell ⟨g, 8, none⟩ x8).setCell ⟨g, 9, none⟩ x9).setCell ⟨g, 10, none⟩ x10).setCell ⟨g, 11, none⟩ x11).setCell ⟨g, 12, none⟩ x12).setCell ⟨g, 13, none⟩ x13).setCell ⟨g, 14, none⟩ x14).setCell ⟨g, 15, none⟩ x15) g t #[x0, x1, x2, x3, x4, x5, x6, x7, x8, x9, x10, x11, x12, x13, x14, x15, a16, a17, a18, a19, a20, a21, a22, a23] := h.set_ 15 x15
  have h : Blk (((((((((((((((((w.setCell ⟨g, 0, none⟩ x0).setCell ⟨g, 1, none⟩ x1).setCell ⟨g, 2, none⟩ x2).setCell ⟨g, 3, none⟩ x3).setCell ⟨g, 4, none⟩ x4).setCell ⟨g, 5, none⟩ x5).setCell ⟨g, 6, none⟩ x6).setCell ⟨g, 7, none⟩ x7).setCell ⟨g, 8, none⟩ x8).setCell ⟨g, 9, none⟩ x9).setCell ⟨g, 10, none⟩ x10).setCell ⟨g, 11, none⟩ x11).setCell ⟨g, 12, none⟩ x12).setCell ⟨g, 13, none⟩ x13).setCell ⟨g, 14, none⟩ x14).setCell ⟨g, 15, none⟩ x15).setCell ⟨g, 16, none⟩ x16) g t #[x0, x1, x2, x3, x4, x5, x6, x7, x8, x9, x10, x11, x12, x13, x14, x15, x16, a17, a18, a19, a20, a21, a22, a23] := h.set_ 16 x16
  have h : Blk ((((((((((((((((((w.setCell ⟨g, 0, none⟩ x0).setCell ⟨g, 1, none⟩ x1).setCell ⟨g, 2, none⟩ x2).setCell ⟨g, 3, none⟩ x3).setCell ⟨g, 4, none⟩ x4).setCell ⟨g, 5, none⟩ x5).setCell ⟨g, 6, none⟩ x6).setCell ⟨g, 7, none⟩ x7).setCell ⟨g, 8, none⟩ x8).setCell ⟨g, 9, none⟩ x9).setCell ⟨g, 10, none⟩ x10).setCell ⟨g, 11, none⟩ x11).setCell ⟨g, 12, none⟩ x12).setCell ⟨g, 13, none⟩ x13).setCell ⟨g, 14, none⟩ x14).setCell ⟨g, 15, none⟩ x15).setCell ⟨g, 16, none⟩ x16).setCell ⟨g, 17, none⟩ x17) g t #[x0, x1, x2, x3, x4, x5, x6, x7, x8, x9, x10, x11, x12, x13, x14, x15, x16, x17, a18, a19, a20, a21, a22, a23] := h.set_ 17 x17
  have h : Blk (((((((((((((((((((w.setCell ⟨g, 0, none⟩ x0).setCell ⟨g, 1, none⟩ x1).setCell ⟨g, 2, none⟩ x2).setCell ⟨g, 3, none⟩ x3).setCell ⟨g, 4, none⟩ x4).setCell ⟨g, 5, none⟩ x5).setCell ⟨g, 6, none⟩ x6).setCell ⟨g, 7, none⟩ x7).setCell ⟨g, 8, none⟩ x8).setCell ⟨g, 9, none⟩ x9).setCell ⟨g, 10, none⟩ x10).setCell ⟨g, 11, none⟩ x11).setCell ⟨g, 12, none⟩ x12).setCell ⟨g, 13, none⟩ x13).setCell ⟨g, 14, none⟩ x14).setCell ⟨g, 15, none⟩ x15).setCell ⟨g, 16, none⟩ x16).setCell ⟨g, 17, none⟩ x17).setCell ⟨g, 18, none⟩ x18) g t #[x0, x1, x2, x3, x4, x5, x6, x7, x8, x9, x10, x11, x12, x13, x14, x15, x16, x17, x18, a19, a20, a21, a22, a23] := h.set_ 18 x18
  have h : Blk ((((((((((((((((((((w.setCell ⟨g, 0, none⟩ x0).setCell ⟨g, 1, none⟩ x1).setCell ⟨g, 2, none⟩ x2).setCell ⟨g, 3, none⟩ x3).setCell ⟨g, 4, none⟩ x4).setCell ⟨g, 5, none⟩ x5).setCell ⟨g, 6, none⟩ x6).setCell ⟨g, 7, none⟩ x7).setCell ⟨g, 8, none⟩ x8).setCell ⟨g, 9, none⟩ x9).setCell ⟨g, 10, none⟩ x10).setCell ⟨g, 11, none⟩ x11).setCell ⟨g, 12, none⟩ x12).setCell ⟨g, 13, none⟩ x13).setCell ⟨g, 14, none⟩ x14).setCell ⟨g, 15, none⟩ x15).setCell ⟨g, 16, none⟩ x16).setCell ⟨g, 17, none⟩ x17).setCell ⟨g, 18, none⟩ x18).setCell ⟨g, 19, none⟩ x19) g t #[x0, x1, x2, x3, x4, x5, x6, x7, x8, x9, x10, x11, x12, x13, x14, x15, x16, x17, x18, x19, a20, a21, a22, a23] := h.set_ 19 x19
  have h : Blk (((((((((((((((((((((w.setCell ⟨g, 0, none⟩ x0).setCell ⟨g, 1, none⟩ x1).setCell ⟨g, 2, none⟩ x2).setCell ⟨g, 3, none⟩ x3).setCell ⟨g, 4, none⟩ x4).setCell ⟨g, 5, none⟩ x5).setCell ⟨g, 6, none⟩ x6).setCell ⟨g, 7, none⟩ x7).setCell ⟨g, 8, none⟩ x8).setCell ⟨g, 9, none⟩ x9).setCell ⟨g, 10, none⟩ x10).setCell ⟨g, 11, none⟩ x11).setCell ⟨g, 12, none⟩ x12).setCell ⟨g, 13, none⟩ x13).setCell ⟨g, 14, none⟩ x14).setCell ⟨g, 15, none⟩ x15).setCell ⟨g, 16, none⟩ x16).setCell ⟨g, 17, none⟩ x17).setCell ⟨g, 18, none⟩ x18).setCell ⟨g, 19, none⟩ x19).setCell ⟨g, 20, none⟩ x20) g t #[x0, x1, x2, x3, x4, x5, x6, x7, x8, x9, x10, x11, x12, x13, x14, x15, x16, x17, x18, x19, x20, a21, a22, a23] := h.set_ 20 x20
  have h : Blk ((((((((((((((((((((((w.setCell ⟨g, 0, none⟩ x0).setCell ⟨g, 1, none⟩ x1).setCell ⟨g, 2, none⟩ x2).setCell ⟨g, 3, none⟩ x3).setCell ⟨g, 4, none⟩ x4).setCell ⟨g, 5, none⟩ x5).setCell ⟨g, 6, none⟩ x6).setCell ⟨g, 7, none⟩ x7).setCell ⟨g, 8, none⟩ x8).setCell ⟨g, 9, none⟩ x9).setCell ⟨g, 10, none⟩ x10).setCell ⟨g, 11, none⟩ x11).setCell ⟨g, 12, none⟩ x12).setCell ⟨g, 13, none⟩ x13).setCell ⟨g, 14, none⟩ x14).setCell ⟨g, 15, none⟩ x15).setCell ⟨g, 16, none⟩ x16).setCell ⟨g, 17, none⟩ x17).setCell ⟨g, 18, none⟩ x18).setCell ⟨g, 19, none⟩ x19).setCell ⟨g, 20, none⟩ x20).setCell ⟨g, 21, none⟩ x21) g t #[x0, x1, x2, x3, x4, x5, x6, x7, x8, x9, x10, x11, x12, x13, x14, x15, x16, x17, x18, x19, x20, x21, a22, a23] := h.set_ 21 x21
  have h : Blk (((((((((((((((((((((((w.setCell ⟨g, 0, none⟩ x0).setCell ⟨g, 1, none⟩ x1).setCell ⟨g, 2, none⟩ x2).setCell ⟨g, 3, none⟩ x3).setCell ⟨g, 4, none⟩ x4).setCell ⟨g, 5, none⟩ x5).setCell ⟨g, 6, none⟩ x6).setCell ⟨g, 7, none⟩ x7).setCell ⟨g, 8, none⟩ x8).setCell ⟨g, 9, none⟩ x9).setCell ⟨g, 10, none⟩ x10).setCell ⟨g, 11, none⟩ x11).setCell ⟨g, 12, none⟩ x12).setCell ⟨g, 13, none⟩ x13).setCell ⟨g, 14, none⟩ x14).setCell ⟨g, 15, none⟩ x15).setCell ⟨g, 16, none⟩ x16).setCell ⟨g, 17, none⟩ x17).setCell ⟨g, 18, none⟩ x18).setCell ⟨g, 19, none⟩ x19).setCell ⟨g, 20, none⟩ x20).setCell ⟨g, 21, none⟩ x21).setCell ⟨g, 22, none⟩ x22) g t #[x0, x1, x2, x3, x4, x5, x6, x7, x8, x9, x10, x11, x12, x13, x14, x15, x16, x17, x18, x19, x20, x21, x22, a23] := h.set_ 22 x22
  have h : Blk ((((((((((((((((((((((((w.setCell ⟨g, 0, none⟩ x0).setCell ⟨g, 1, none⟩ x1).setCell ⟨g, 2, none⟩ x2).setCell ⟨g, 3, none⟩ x3).setCell ⟨g, 4, none⟩ x4).setCell ⟨g, 5, none⟩ x5).setCell ⟨g, 6, none⟩ x6).setCell ⟨g, 7, none⟩ x7).setCell ⟨g, 8, none⟩ x8).setCell ⟨g, 9, none⟩ x9).setCell ⟨g, 10, none⟩ x10).setCell ⟨g, 11, none⟩ x11).setCell ⟨g, 12, none⟩ x12).setCell ⟨g, 13, none⟩ x13).setCell ⟨g, 14, none⟩ x14).setCell ⟨g, 15, none⟩ x15).setCell ⟨g, 16, none⟩ x16).setCell ⟨g, 17, none⟩ x17).setCell ⟨g, 18, none⟩ x18).setCell ⟨g, 19, none⟩ x19).setCell ⟨g, 20, none⟩ x20).setCell ⟨g, 21, none⟩ x21).setCell ⟨g, 22, none⟩ x22).setCell ⟨g, 23, none⟩ x23) g t #[x0, x1, x2, x3, x4, x5, x6, x7, x8, x9, x10, x11, x12, x13, x14, x15, x16, x17, x18, x19, x20, x21, x22, x23] := h.set_ 23 x23
  exact h
theorem new24w {Z : Nat → Prop} {a w : World} (h : Kp Z a w) {g : Nat} (hg : a.heap.size ≤ g) (x0 x1 x2 x3 x4 x5 x6 x7 x8 x9 x10 x11 x12 x13 x14 x15 x16 x17 x18 x19 x20 x21 x22 x23 : Value) : Kp Z a ((((((((((((((((((((((((w.setCell ⟨g, 0, none⟩ x0).setCell ⟨g, 1, none⟩ x1).setCell ⟨g, 2, none⟩ x2).setCell ⟨g, 3, none⟩ x3).setCell ⟨g, 4, none⟩ x4).setCell ⟨g, 5, none⟩ x5).setCell ⟨g, 6, none⟩ x6).setCell ⟨g, 7, none⟩ x7).setCell ⟨g, 8, none⟩ x8).setCell ⟨g, 9, none⟩ x9).setCell ⟨g, 10, none⟩ x10).setCell ⟨g, 11, none⟩ x11).setCell ⟨g, 12, none⟩ x12).setCell ⟨g, 13, none⟩ x13).setCell ⟨g, 14, none⟩ x14).setCell ⟨g, 15, none⟩ x15).setCell ⟨g, 16, none⟩ x16).setCell ⟨g, 17, none⟩ x17).setCell ⟨g, 18, none⟩ x18).setCell ⟨g, 19, none⟩ x19).setCell ⟨g, 20, none⟩ x20).setCell ⟨g, 21, none⟩ x21).setCell ⟨g, 22, none⟩ x22).setCell ⟨g, 23, none⟩ x23) := ((((((((((((((((((((((((h.new hg 0 x0).new hg 1 x1).new hg 2 x2).new hg 3 x3).new hg 4 x4).new hg 5 x5).new hg 6 x6).new hg 7 x7).new hg 8 x8).new hg 9 x9).new hg 10 x10).new hg 11 x11).new hg 12 x12).new hg 13 x13).new hg 14 x14).new hg 15 x15).new hg 16 x16).new hg 17 x17).new hg 18 x18).new hg 19 x19).new hg 20 x20).new hg 21 x21).new hg 22 x22).new hg 23 x23)
theorem z24w {w : World} {g : Nat} {t : TypeId} (h : Blk w g t #[.int .i64 0, .int .i64 0, .int .i64 0, .int .i64 0, .int .i64 0, .int .i64 0, .int .i64 0, .int .i64 0, .int .i64 0, .int .i64 0, .int .i64 0, .int .i64 0, .int .i64 0, .int .i64 0, .int .i64 0, .int .i64 0, .int .i64 0, .int .i64 0, .int .i64 0, .int .i64 0, .int .i64 0, .int .i64 0, .int .i64 0, .int .i64 0]) : w.cell? (⟨g, 0, none⟩ : Addr) = some (.int .i64 0) ∧ w.frozen? (⟨g, 0, none⟩ : Addr) = false ∧ w.cell? (⟨g, 1, none⟩ : Addr) = some (.int .i64 0) ∧ w.frozen? (⟨g, 1, none⟩ : Addr) = false ∧ w.cell? (⟨g, 2, none⟩ : Addr) = some (.int .i64 0) ∧ w.frozen? (⟨g, 2, none⟩ : Addr) = false ∧ w.cell? (⟨g, 3, none⟩ : Addr) = some (.int .i64 0) ∧ w.frozen? (⟨g, 3, none⟩ : Addr) = false ∧ w.cell? (⟨g, 4, none⟩ : Addr) = some (.int .i64 0) ∧ w.frozen? (⟨g, 4, none⟩ : Addr) = false ∧ w.cell? (⟨g, 5, none⟩ : Addr) = some (.int .i64 0) ∧ w.frozen? (⟨g, 5, none⟩ : Addr) = false ∧ w.cell? (⟨g, 6, none⟩ : Addr) = some (.int .i64 0) ∧ w.frozen? (⟨g, 6, none⟩ : Addr) = false ∧ w.cell? (⟨g, 7, none⟩ : Addr) = some (.int .i64 0) ∧ w.frozen? (⟨g, 7, none⟩ : Addr) = false ∧ w.cell? (⟨g, 8, none⟩ : Addr) = some (.int .i64 0) ∧ w.frozen? (⟨g, 8, none⟩ : Addr) = false ∧ w.cell? (⟨g, 9, none⟩ : Addr) = some (.int .i64 0) ∧ w.frozen? (⟨g, 9, none⟩ : Addr) = false ∧ w.cell? (⟨g, 10, none⟩ : Addr) = some (.int .i64 0) ∧ w.frozen? (⟨g, 10, none⟩ : Addr) = false ∧ w.cell? (⟨g, 11, none⟩ : Addr) = some (.int .i64 0) ∧ w.frozen? (⟨g, 11, none⟩ : Addr) = false ∧ w.cell? (⟨g, 12, none⟩ : Addr) = some (.int .i64 0) ∧ w.frozen? (⟨g, 12, none⟩ : Addr) = false ∧ w.cell? (⟨g, 13, none⟩ : Addr) = some (.int .i64 0) ∧ w.frozen? (⟨g, 13, none⟩ : Addr) = false ∧ w.cell? (⟨g, 14, none⟩ : Addr) = some (.int .i64 0) ∧ w.frozen? (⟨g, 14, none⟩ : Addr) = false ∧ w.cell? (⟨g, 15, none⟩ : Addr) = some (.int .i64 0) ∧ w.frozen? (⟨g, 15, none⟩ : Addr) = false ∧ w.cell? (⟨g, 16, none⟩ : Addr) = some (.int .i64 0) ∧ w.frozen? (⟨g, 16, none⟩ : Addr) = false ∧ w.cell? (⟨g, 17, none⟩ : Addr) = some (.int .i64 0) ∧ w.frozen? (⟨g, 17, none⟩ : Addr) = false ∧ w.cell? (⟨g, 18, none⟩ : Addr) = some (.int .i64 0) ∧ w.frozen? (⟨g, 18, none⟩ : Addr) = false ∧ w.cell? (⟨g, 19, none⟩ : Addr) = some (.int .i64 0) ∧ w.frozen? (⟨g, 19, none⟩ : Addr) = false ∧ w.cell? (⟨g, 20, none⟩ : Addr) = some (.int .i64 0) ∧ w.frozen? (⟨g, 20, none⟩ : Addr) = false ∧ w.cell? (⟨g, 21, none⟩ : Addr) = some (.int .i64 0) ∧ w.frozen? (⟨g, 21, none⟩ : Addr) = false ∧ w.cell? (⟨g, 22, none⟩ : Addr) = some (.int .i64 0) ∧ w.frozen? (⟨g, 22, none⟩ : Addr) = false ∧ w.cell? (⟨g, 23, none⟩ : Addr) = some (.int .i64 0) ∧ w.frozen? (⟨g, 23, none⟩ : Addr) = false :=
  ⟨h.cell 0, h.frozen 0, h.cell 1, h.frozen 1, h.cell 2, h.frozen 2, h.cell 3, h.frozen 3, h.cell 4, h.frozen 4, h.cell 5, h.frozen 5, h.cell 6, h.frozen 6, h.cell 7, h.frozen 7, h.cell 8, h.frozen 8, h.cell 9, h.frozen 9, h.cell 10, h.frozen 10, h.cell 11, h.frozen 11, h.cell 12, h.frozen 12, h.cell 13, h.frozen 13, h.cell 14, h.frozen 14, h.cell 15, h.frozen 15, h.cell 16, h.frozen 16, h.cell 17, h.frozen 17, h.cell 18, h.frozen 18, h.cell 19, h.frozen 19, h.cell 20, h.frozen 20, h.cell 21, h.frozen 21, h.cell 22, h.frozen 22, h.cell 23, h.frozen 23⟩
theorem far4w {w : World} {g k : Nat} {t : TypeId} {cs : Array Value} (h : Blk w g t cs) (hne : g ≠ k) (x0 x1 x2 x3 : Value) : Blk ((((w.setCell ⟨k, 0, none⟩ x0).setCell ⟨k, 1, none⟩ x1).setCell ⟨k, 2, none⟩ x2).setCell ⟨k, 3, none⟩ x3) g t cs := (((h.far (p := ⟨k, 0, none⟩) hne x0).far (p := ⟨k, 1, none⟩) hne x1).far (p := ⟨k, 2, none⟩) hne x2).far (p := ⟨k, 3, none⟩) hne x3
/-- two segments in boxes of their own, and nothing else has changed -/
def Rel7 (m1 m2 m3 m4 n1 n2 n3 n4 : Int) (w0 : World) (px py : Value) (wx : World) : Prop := ∃ BX BY, px = .pointer (some ⟨BX, 0, none⟩) ∧ py = .pointer (some ⟨BY, 0, none⟩) ∧ Blk wx BX 48 #[.int .i64 m1, .int .i64 m2, .int .i64 m3, .int .i64 m4] ∧ Blk wx BY 48 #[.int .i64 n1, .int .i64 n2, .int .i64 n3, .int .i64 n4] ∧ Nw w0 wx
section
variable {m1 m2 m3 m4 n1 n2 n3 n4 : Int} {w0 w5 : World} {u0 u1 u2 u3 v0 v1 v2 v3 : Value} (hk : Nw w0 w5)
include hk
theorem sg1 : Rel7 m1 m2 m3 m4 n1 n2 n3 n4 w0 (.pointer (some ⟨w5.heap.size, 0, none⟩)) (.pointer (some ⟨w5.heap.size + 1, 0, none⟩)) ((w5.alloc (.cells #[.int .i64 m1, .int .i64 m2, .int .i64 m3, .int .i64 m4] 48)).alloc (.cells #[.int .i64 n1, .int .i64 n2, .int .i64 n3, .int .i64 n4] 48)) :=
  ⟨_, _, rfl, rfl, (Blk.new _ _ _).alloc _, Blk.new_at _ _ _ (by simp), hk.tr ((nw_alloc w5 _).alloc _)⟩
theorem sg2 : Rel7 m1 m2 m3 m4 n1 n2 n3 n4 w0 (.pointer (some ⟨w5.heap.size + 1, 0, none⟩)) (.pointer (some ⟨w5.heap.size, 0, none⟩)) ((w5.alloc (.cells #[.int .i64 n1, .int .i64 n2, .int .i64 n3, .int .i64 n4] 48)).alloc (.cells #[.int .i64 m1, .int .i64 m2, .int .i64 m3, .int .i64 m4] 48)) :=
  ⟨_, _, rfl, rfl, Blk.new_at _ _ _ (by simp), (Blk.new _ _ _).alloc _, hk.tr ((nw_alloc w5 _).alloc _)⟩
theorem sg4 {h1 h2 : Nat} (b1 : Blk w5 h1 48 #[u0, u1, u2, u3]) (b2 : Blk w5 h2 48 #[v0, v1, v2, v3]) (hne : h1 ≠ h2) (s1 : w0.heap.size ≤ h1) (s2 : w0.heap.size ≤ h2) : Rel7 m1 m2 m3 m4 n1 n2 n3 n4 w0 (.pointer (some ⟨h1, 0, none⟩)) (.pointer (some ⟨h2, 0, none⟩)) ((((((((w5.setCell ⟨h1, 0, none⟩ (.int .i64 m1)).setCell ⟨h1, 1, none⟩ (.int .i64 m2)).setCell ⟨h1, 2, none⟩ (.int .i64 m3)).setCell ⟨h1, 3, none⟩ (.int .i64 m4)).setCell ⟨h2, 0, none⟩ (.int .i64 n1)).setCell ⟨h2, 1, none⟩ (.int .i64 n2)).setCell ⟨h2, 2, none⟩ (.int .i64 n3)).setCell ⟨h2, 3, none⟩ (.int .i64 n4)) :=
  ⟨_, _, rfl, rfl, far4w (lay4w b1 _ _ _ _) hne _ _ _ _, lay4w (far4w b2 (Ne.symm hne) _ _ _ _) _ _ _ _, new4w (new4w hk s1 _ _ _ _) s2 _ _ _ _⟩
theorem sg5 {h2 : Nat} (b2 : Blk w5 h2 48 #[v0, v1, v2, v3]) (s2 : w0.heap.size ≤ h2) : Rel7 m1 m2 m3 m4 n1 n2 n3 n4 w0 (.pointer (some ⟨w5.heap.size, 0, none⟩)) (.pointer (some ⟨h2, 0, none⟩)) (((((w5.alloc (.cells #[.int .i64 m1, .int .i64 m2, .int .i64 m3, .int .i64 m4] 48)).setCell ⟨h2, 0, none⟩ (.int .i64 n1)).setCell ⟨h2, 1, none⟩ (.int .i64 n2)).setCell ⟨h2, 2, none⟩ (.int .i64 n3)).setCell ⟨h2, 3, none⟩ (.int .i64 n4)) :=
  ⟨_, _, rfl, rfl, far4w (Blk.new _ _ _) (Nat.ne_of_gt b2.lt) _ _ _ _, lay4w (b2.alloc _) _ _ _ _, new4w (hk.alloc _) s2 _ _ _ _⟩
theorem sg3 {h1 : Nat} (b1 : Blk w5 h1 48 #[u0, u1, u2, u3]) (s1 : w0.heap.size ≤ h1) : Rel7 m1 m2 m3 m4 n1 n2 n3 n4 w0 (.pointer (some ⟨h1, 0, none⟩)) (.pointer (some ⟨w5.heap.size, 0, none⟩)) (((((((((w5.alloc (.cells #[.int .i64 0, .int .i64 0, .int .i64 0, .int .i64 0] 48)).setCell ⟨h1, 0, none⟩ (.int .i64 m1)).setCell ⟨h1, 1, none⟩ (.int .i64 m2)).setCell ⟨h1, 2, none⟩ (.int .i64 m3)).setCell ⟨h1, 3, none⟩ (.int .i64 m4)).setCell ⟨w5.heap.size, 0, none⟩ (.int .i64 n1)).setCell ⟨w5.heap.size, 1, none⟩ (.int .i64 n2)).setCell ⟨w5.heap.size, 2, none⟩ (.int .i64 n3)).setCell ⟨w5.heap.size, 3, none⟩ (.int .i64 n4)) :=
  sg4 (hk.alloc _) (b1.alloc _) (Blk.new w5 _ _) (Nat.ne_of_lt b1.lt) s1 hk.size
end
theorem kind_four (ax ay bx bz cx cy dx dy : Int) : kindS ax ay bx bz cx cy dx dy = 0 ∨ kindS ax ay bx bz cx cy dx dy = 1 ∨ kindS ax ay bx bz cx cy dx dy = 2 ∨ kindS ax ay bx bz cx cy dx dy = 3 := by
  unfold kindS
  split
  · split
    · split
      · exact .inr (.inr (.inl rfl))
      · exact .inl rfl
    · split
      · exact .inr (.inl rfl)
      · exact .inr (.inr (.inr rfl))
  · exact .inl rfl
theorem at_valid {ax ay bx bz cx cy dx dy : Int} (h1 : validS ax ay bx bz = true) (h2 : validS cx cy dx dy = true) (hk : kindS ax ay bx bz cx cy dx dy = 1 ∨ kindS ax ay bx bz cx cy dx dy = 2) : validP (atS ax ay bx bz cx cy dx dy).1 (atS ax ay bx bz cx cy dx dy).2.1 (atS ax ay bx bz cx cy dx dy).2.2 = true := by
  have hp : Lm 0 0 := by unfold Lm; omega
  unfold atS
  rcases hk with h | h
  · rw [if_pos h]
    exact valid_int (common1 h1 h2 hp h).2
  · rw [if_neg (by omega), if_pos h]
    exact (common2 h1 h2 hp h).2
theorem share_lm {ax ay bx bz cx cy dx dy : Int} (h1 : validS ax ay bx bz = true) (h2 : validS cx cy dx dy = true) (hk : kindS ax ay bx bz cx cy dx dy = 3) : Lm (shareS ax ay bx bz cx cy dx dy).1.1 (shareS ax ay bx bz cx cy dx dy).1.2 ∧ Lm (shareS ax ay bx bz cx cy dx dy).2.1 (shareS ax ay bx bz cx cy dx dy).2.2 := by
  have hp : Lm 0 0 := by unfold Lm; omega
  obtain ⟨_, o1, o2, _, _, _⟩ := common3 h1 h2 hp hk
  unfold shareS
  rw [if_pos hk]
  exact ⟨((on_valid h1).1 o1).1, ((on_valid h1).1 o2).1⟩
theorem mv_small {a v : Int} (ha : -4000 ≤ a ∧ a ≤ 4000) (hv : -10000 ≤ v ∧ v ≤ 10000) : w64 (a + v) = a + v := w64_id ⟨by omega, by omega⟩
theorem within_ten {x y : Int} (h : withinV x y 10000 = true) : (-10000 ≤ x ∧ x ≤ 10000) ∧ (-10000 ≤ y ∧ y ≤ 10000) := by
  unfold withinV at h
  rw [show w64 (-10000) = -10000 from w64_id ⟨by omega, by omega⟩] at h
  simp at h
  omega
theorem mul_ten {v d : Int} (hv : -10000 ≤ v ∧ v ≤ 10000) (hd : 1 ≤ d ∧ d ≤ 134217728) : -1342177280000 ≤ v * d ∧ v * d ≤ 1342177280000 := by
  have := abs_le_mul (x := v) (y := d) (A := 10000) (B := 134217728) hv (by omega)
  omega
def prs3 (ax ay bx bz cx cy dx dy : Int) : List (Int × Int × Int × Int × Int × Int × Int × Int) := [(cx, cy, dx, dy, ax, ay, bx, bz), (bx, bz, ax, ay, cx, cy, dx, dy), (ax, ay, bx, bz, dx, dy, cx, cy)]
theorem prs_same {ax ay bx bz cx cy dx dy : Int} {k : Nat} {s1 s2 s3 s4 t1 t2 t3 t4 : Int} (h : (prs3 ax ay bx bz cx cy dx dy)[k]? = some (s1, s2, s3, s4, t1, t2, t3, t4)) : kindS s1 s2 s3 s4 t1 t2 t3 t4 = kindS ax ay bx bz cx cy dx dy ∧ atS s1 s2 s3 s4 t1 t2 t3 t4 = atS ax ay bx bz cx cy dx dy ∧ shareS s1 s2 s3 s4 t1 t2 t3 t4 = shareS ax ay bx bz cx cy dx dy := by
  unfold prs3 at h
  match k, h with
  | 0, h =>
    simp at h
    obtain ⟨rfl, rfl, rfl, rfl, rfl, rfl, rfl, rfl⟩ := h
    exact way_swap ax ay bx bz cx cy dx dy
  | 1, h =>
    simp at h
    obtain ⟨rfl, rfl, rfl, rfl, rfl, rfl, rfl, rfl⟩ := h
    exact way_left ax ay bx bz cx cy dx dy
  | 2, h =>
    simp at h
    obtain ⟨rfl, rfl, rfl, rfl, rfl, rfl, rfl, rfl⟩ := h
    exact way_right ax ay bx bz cx cy dx dy
  | k + 3, h => simp at h
set_option maxRecDepth 100000 in
set_option maxHeartbeats 12800000 in
theorem segSymmetric_any (ax ay bx bz cx cy dx dy vx vy : Int) (w : World) : Calls Try.prog 10 #[sV ax ay bx bz, sV cx cy dx dy, vV vx vy] w fun e w' => e = .returned (.bool true) ∧ Nw w w' := by
  have hmix := mixed7
  have c0 := fun w1 => awake7_any w1
  have cA := fun w1 => at_any ax ay bx bz cx cy dx dy w1
  have cS := fun w1 => share_any ax ay bx bz cx cy dx dy w1
  have cK := fun w1 => meetK_any ax ay bx bz cx cy dx dy w1
  unfold atV at cA
  unfold shareV at cS
  have HSAME := Lib.hid (show ∀ (k : Nat) (s1 s2 s3 s4 t1 t2 t3 t4 : Int), (prs3 ax ay bx bz cx cy dx dy)[k]? = some (s1, s2, s3, s4, t1, t2, t3, t4) → kindS s1 s2 s3 s4 t1 t2 t3 t4 = kindS ax ay bx bz cx cy dx dy ∧ atS s1 s2 s3 s4 t1 t2 t3 t4 = atS ax ay bx bz cx cy dx dy ∧ shareS s1 s2 s3 s4 t1 t2 t3 t4 = shareS ax ay bx bz cx cy dx dy from fun k s1 s2 s3 s4 t1 t2 t3 t4 h => prs_same h)
  have HMV := Lib.hid (show validS ax ay bx bz = true → validS cx cy dx dy = true → validS (ax + vx) (ay + vy) (bx + vx) (bz + vy) = true → validS (cx + vx) (cy + vy) (dx + vx) (dy + vy) = true → _ from fun h1 h2 h3 h4 => way_moved vx vy h1 h2 h3 h4)
  have HQB := Lib.hid (show validS ax ay bx bz = true → validS cx cy dx dy = true → (kindS ax ay bx bz cx cy dx dy = 1 ∨ kindS ax ay bx bz cx cy dx dy = 2) → _ from fun h1 h2 h3 => at_valid h1 h2 h3)
  have HXB := Lib.hid (show validS ax ay bx bz = true → validS cx cy dx dy = true → kindS ax ay bx bz cx cy dx dy = 3 → _ from fun h1 h2 h3 => share_lm h1 h2 h3)
  have HR := Lib.hid (show kindS ax ay bx bz cx cy dx dy = 0 ∨ kindS ax ay bx bz cx cy dx dy = 1 ∨ kindS ax ay bx bz cx cy dx dy = 2 ∨ kindS ax ay bx bz cx cy dx dy = 3 from kind_four ax ay bx bz cx cy dx dy)
  obtain ⟨ok, hok⟩ : ∃ b, (kindS ax ay bx bz cx cy dx dy == 1 || kindS ax ay bx bz cx cy dx dy == 2) = b := ⟨_, rfl⟩
  obtain ⟨is, his⟩ : ∃ b, (kindS ax ay bx bz cx cy dx dy == 3) = b := ⟨_, rfl⟩
  have HO := Lib.hid (And.intro hok his)
  rw [hok] at cA
  rw [his] at cS
  clear hok his
  generalize kindS ax ay bx bz cx cy dx dy = kk at *
  generalize atS ax ay bx bz cx cy dx dy = q at *
  generalize shareS ax ay bx bz cx cy dx dy = x at *
  obtain ⟨q1, q2, q3⟩ := q
  obtain ⟨⟨x1, x2⟩, ⟨x3, x4⟩⟩ := x
  have hF : ∀ w', Nw (((w.alloc (.cells #[.int .i64 ax, .int .i64 ay, .int .i64 bx, .int .i64 bz] 48)).alloc (.cells #[.int .i64 cx, .int .i64 cy, .int .i64 dx, .int .i64 dy] 48)).alloc (.cells #[.int .i64 vx, .int .i64 vy] 23)) w' → Blk w' w.heap.size 48 #[.int .i64 ax, .int .i64 ay, .int .i64 bx, .int .i64 bz] ∧ Blk w' (w.heap.size + 1) 48 #[.int .i64 cx, .int .i64 cy, .int .i64 dx, .int .i64 dy] ∧ Blk w' (w.heap.size + 1 + 1) 23 #[.int .i64 vx, .int .i64 vy] := fun w' h => ⟨(((Blk.new_at w 48 #[.int .i64 ax, .int .i64 ay, .int .i64 bx, .int .i64 bz] (n := w.heap.size) rfl).alloc _).alloc _).kp h id, ((Blk.new_at _ 48 #[.int .i64 cx, .int .i64 cy, .int .i64 dx, .int .i64 dy] (n := w.heap.size + 1) (by simp)).alloc _).kp h id, (Blk.new_at _ 23 #[.int .i64 vx, .int .i64 vy] (n := w.heap.size + 1 + 1) (by simp)).kp h id⟩
  have HF := Lib.hid hF
  clear hF
  have hb0 := Blk.new_at w 48 #[.int .i64 ax, .int .i64 ay, .int .i64 bx, .int .i64 bz] (n := w.heap.size) (by simp)
  have hb1 := Blk.new_at (w.alloc (.cells #[.int .i64 ax, .int .i64 ay, .int .i64 bx, .int .i64 bz] 48)) 48 #[.int .i64 cx, .int .i64 cy, .int .i64 dx, .int .i64 dy] (n := w.heap.size + 1) (by simp)
  have hb2 := Blk.new_at ((w.alloc (.cells #[.int .i64 ax, .int .i64 ay, .int .i64 bx, .int .i64 bz] 48)).alloc (.cells #[.int .i64 cx, .int .i64 cy, .int .i64 dx, .int .i64 dy] 48)) 23 #[.int .i64 vx, .int .i64 vy] (n := w.heap.size + 1 + 1) (by simp)
  have hk0 : ∀ p : KeptW (((w.alloc (.cells #[.int .i64 ax, .int .i64 ay, .int .i64 bx, .int .i64 bz] 48)).alloc (.cells #[.int .i64 cx, .int .i64 cy, .int .i64 dx, .int .i64 dy] 48)).alloc (.cells #[.int .i64 vx, .int .i64 vy] 23)), Blk p.wd (w.heap.size) 48 #[.int .i64 ax, .int .i64 ay, .int .i64 bx, .int .i64 bz] := fun p => ((hb0.alloc _).alloc _).kept p
  have qa0 := fun p => (hk0 p).cell 0
  have qa1 := fun p => (hk0 p).cell 1
  have qa2 := fun p => (hk0 p).cell 2
  have qa3 := fun p => (hk0 p).cell 3
  have hk1 : ∀ p : KeptW (((w.alloc (.cells #[.int .i64 ax, .int .i64 ay, .int .i64 bx, .int .i64 bz] 48)).alloc (.cells #[.int .i64 cx, .int .i64 cy, .int .i64 dx, .int .i64 dy] 48)).alloc (.cells #[.int .i64 vx, .int .i64 vy] 23)), Blk p.wd (w.heap.size + 1) 48 #[.int .i64 cx, .int .i64 cy, .int .i64 dx, .int .i64 dy] := fun p => (hb1.alloc _).kept p
  have qa4 := fun p => (hk1 p).cell 0
  have qa5 := fun p => (hk1 p).cell 1
  have qa6 := fun p => (hk1 p).cell 2
  have qa7 := fun p => (hk1 p).cell 3
  have hk2 : ∀ p : KeptW (((w.alloc (.cells #[.int .i64 ax, .int .i64 ay, .int .i64 bx, .int .i64 bz] 48)).alloc (.cells #[.int .i64 cx, .int .i64 cy, .int .i64 dx, .int .i64 dy] 48)).alloc (.cells #[.int .i64 vx, .int .i64 vy] 23)), Blk p.wd (w.heap.size + 1 + 1) 23 #[.int .i64 vx, .int .i64 vy] := fun p => hb2.kept p
  have qa8 := fun p => (hk2 p).cell 0
  have qa9 := fun p => (hk2 p).cell 1
  skip
  clear hb0 hk0 hb1 hk1 hb2 hk2
  go_enter Try.func10, Try.ntmps10
  go_upto_region 5 with (first | (go_at_call 51; ((with_reducible refine (Calls.kept_first (c0 _)).mono ?_); rintro e _ ⟨rfl, p, rfl⟩)) | (go_at_call 58; ((with_reducible refine (Calls.kept_of (cK _)).mono ?_); rintro e _ ⟨rfl, p, rfl⟩)) | (go_at_call 52; ((with_reducible refine (Calls.kept_of (cA _)).mono ?_); rintro e _ ⟨rfl, p, rfl⟩)) | fail)
  obtain ⟨g8, hg1⟩ : ∃ g, p.wd.heap.size = g := ⟨_, rfl⟩
  have hbb := Blk.new_at p.wd 50 #[.int .i64 q1, .int .i64 q2, .int .i64 q3] hg1
  have hn1 := p.since.alloc (.cells #[.int .i64 q1, .int .i64 q2, .int .i64 q3] 50)
  rw [hg1]
  generalize p.wd.alloc (.cells #[.int .i64 q1, .int .i64 q2, .int .i64 q3] 50) = w1 at hbb hn1 ⊢
  clear hg1
  have HN1 := Lib.hid hn1
  have HB1 := Lib.hid hbb
  clear hn1 hbb qa0 qa1 qa2 qa3 qa4 qa5 qa6 qa7 qa8 qa9
  have qb0 := fun p : KeptW w1 => (HF.out p.wd (HN1.out.tr p.since)).1.cell 0
  have qb1 := fun p : KeptW w1 => (HF.out p.wd (HN1.out.tr p.since)).1.cell 1
  have qb2 := fun p : KeptW w1 => (HF.out p.wd (HN1.out.tr p.since)).1.cell 2
  have qb3 := fun p : KeptW w1 => (HF.out p.wd (HN1.out.tr p.since)).1.cell 3
  have qb4 := fun p : KeptW w1 => (HF.out p.wd (HN1.out.tr p.since)).2.1.cell 0
  have qb5 := fun p : KeptW w1 => (HF.out p.wd (HN1.out.tr p.since)).2.1.cell 1
  have qb6 := fun p : KeptW w1 => (HF.out p.wd (HN1.out.tr p.since)).2.1.cell 2
  have qb7 := fun p : KeptW w1 => (HF.out p.wd (HN1.out.tr p.since)).2.1.cell 3
  have qb8 := fun p : KeptW w1 => (HF.out p.wd (HN1.out.tr p.since)).2.2.cell 0
  have qb9 := fun p : KeptW w1 => (HF.out p.wd (HN1.out.tr p.since)).2.2.cell 1
  have zqb0 := qb0 ⟨w1, Kp.refl _ _⟩
  have zqb1 := qb1 ⟨w1, Kp.refl _ _⟩
  have zqb2 := qb2 ⟨w1, Kp.refl _ _⟩
  have zqb3 := qb3 ⟨w1, Kp.refl _ _⟩
  have zqb4 := qb4 ⟨w1, Kp.refl _ _⟩
  have zqb5 := qb5 ⟨w1, Kp.refl _ _⟩
  have zqb6 := qb6 ⟨w1, Kp.refl _ _⟩
  have zqb7 := qb7 ⟨w1, Kp.refl _ _⟩
  have zqb8 := qb8 ⟨w1, Kp.refl _ _⟩
  have zqb9 := qb9 ⟨w1, Kp.refl _ _⟩
  go_upto_region 6 with (first | (go_at_call 54; ((with_reducible refine (Calls.kept_first (cS _)).mono ?_); rintro e _ ⟨rfl, p, rfl⟩)) | fail)
  obtain ⟨g10, hg1⟩ : ∃ g, p.wd.heap.size = g := ⟨_, rfl⟩
  have hbb := Blk.new_at p.wd 48 #[.int .i64 x1, .int .i64 x2, .int .i64 x3, .int .i64 x4] hg1
  have hn1 := p.since.alloc (.cells #[.int .i64 x1, .int .i64 x2, .int .i64 x3, .int .i64 x4] 48)
  rw [hg1]
  generalize p.wd.alloc (.cells #[.int .i64 x1, .int .i64 x2, .int .i64 x3, .int .i64 x4] 48) = w2 at hbb hn1 ⊢
  clear hg1
  have HN2 := Lib.hid (HN1.out.tr hn1)
  have HB2 := Lib.hid hbb
  have HB1 := Lib.hid (HB1.out.nw hn1)
  clear hn1 hbb qb0 zqb0 qb1 zqb1 qb2 zqb2 qb3 zqb3 qb4 zqb4 qb5 zqb5 qb6 zqb6 qb7 zqb7 qb8 zqb8 qb9 zqb9 cA cS cK c0
  have HP := Lib.hid (show ∀ w', Nw w2 w' → w'.cell? (⟨w.heap.size, 0, none⟩ : Addr) = some (.int .i64 ax) ∧ w'.cell? (⟨w.heap.size, 1, none⟩ : Addr) = some (.int .i64 ay) ∧ w'.cell? (⟨w.heap.size, 2, none⟩ : Addr) = some (.int .i64 bx) ∧ w'.cell? (⟨w.heap.size, 3, none⟩ : Addr) = some (.int .i64 bz) ∧ w'.cell? (⟨w.heap.size + 1, 0, none⟩ : Addr) = some (.int .i64 cx) ∧ w'.cell? (⟨w.heap.size + 1, 1, none⟩ : Addr) = some (.int .i64 cy) ∧ w'.cell? (⟨w.heap.size + 1, 2, none⟩ : Addr) = some (.int .i64 dx) ∧ w'.cell? (⟨w.heap.size + 1, 3, none⟩ : Addr) = some (.int .i64 dy) from fun w' h => by
    obtain ⟨a, b, _⟩ := HF.out w' (HN2.out.tr h)
    exact ⟨a.cell 0, a.cell 1, a.cell 2, a.cell 3, b.cell 0, b.cell 1, b.cell 2, b.cell 3⟩)
  have ct := fun w1 => turned_any ax ay bx bz w1
  have cu := fun w1 => turned_any cx cy dx dy w1
  go_cut [12] from 41 to 53 (fun pv wx => ∃ g, pv = .pointer (some ⟨g, 0, none⟩) ∧ Blk wx g 69 #[.int .i64 cx, .int .i64 cy, .int .i64 dx, .int .i64 dy, .int .i64 ax, .int .i64 ay, .int .i64 bx, .int .i64 bz, .int .i64 bx, .int .i64 bz, .int .i64 ax, .int .i64 ay, .int .i64 cx, .int .i64 cy, .int .i64 dx, .int .i64 dy, .int .i64 ax, .int .i64 ay, .int .i64 bx, .int .i64 bz, .int .i64 dx, .int .i64 dy, .int .i64 cx, .int .i64 cy] ∧ Nw w2 wx)
  case first =>
    go_wp2_with fail
    refine wp_region_held_drew (S := fun w' : World => w'.cell? (⟨w.heap.size, 0, none⟩ : Addr) = some (.int .i64 ax) ∧ w'.cell? (⟨w.heap.size, 1, none⟩ : Addr) = some (.int .i64 ay) ∧ w'.cell? (⟨w.heap.size, 2, none⟩ : Addr) = some (.int .i64 bx) ∧ w'.cell? (⟨w.heap.size, 3, none⟩ : Addr) = some (.int .i64 bz) ∧ w'.cell? (⟨w.heap.size + 1, 0, none⟩ : Addr) = some (.int .i64 cx) ∧ w'.cell? (⟨w.heap.size + 1, 1, none⟩ : Addr) = some (.int .i64 cy) ∧ w'.cell? (⟨w.heap.size + 1, 2, none⟩ : Addr) = some (.int .i64 dx) ∧ w'.cell? (⟨w.heap.size + 1, 3, none⟩ : Addr) = some (.int .i64 dy)) (by kernel_rfl) (HP.out _ ((Kp.refl _ _).drew)) (fun hHeld => ?_)
    refine wpAnyH_take (i := 0) (oi := { dst := some 41, op := _, type := _, pos := _, after := _, guard := _ }) (v := ?v1) rfl (by kernel_rfl) (by kernel_rfl) (by kernel_rfl) (fun _ _ _ h => h) (Or.inl ⟨by rfl, ?hy1⟩) (by assumption) ?rest1
    case hy1 => (intro w hSw; (try dsimp only at hSw); go_simp; try with_reducible rfl)
    case rest1 =>
      try simp only [Act.put, List.setIfInBounds_toArray, List.set_cons_zero, List.set_cons_succ]
      refine wpAnyH_take (i := 1) (oi := { dst := some 42, op := _, type := _, pos := _, after := _, guard := _ }) (v := ?v2) rfl (by kernel_rfl) (by kernel_rfl) (by kernel_rfl) (fun _ _ _ h => h) (Or.inl ⟨by rfl, ?hy2⟩) (by assumption) ?rest2
      case hy2 => (intro w hSw; (try dsimp only at hSw); go_simp; try with_reducible rfl)
      case rest2 =>
        try simp only [Act.put, List.setIfInBounds_toArray, List.set_cons_zero, List.set_cons_succ]
        refine wpAnyH_take (i := 2) (oi := { dst := some 43, op := _, type := _, pos := _, after := _, guard := _ }) (v := ?v3) rfl (by kernel_rfl) (by kernel_rfl) (by kernel_rfl) (fun _ _ _ h => h) (Or.inl ⟨by rfl, ?hy3⟩) (by assumption) ?rest3
        case hy3 => (intro w hSw; (try dsimp only at hSw); go_simp; try with_reducible rfl)
        case rest3 =>
          try simp only [Act.put, List.setIfInBounds_toArray, List.set_cons_zero, List.set_cons_succ]
          refine wpAnyH_take (i := 3) (oi := { dst := some 44, op := _, type := _, pos := _, after := _, guard := _ }) (v := ?v4) rfl (by kernel_rfl) (by kernel_rfl) (by kernel_rfl) (fun _ _ _ h => h) (Or.inl ⟨by rfl, ?hy4⟩) (by assumption) ?rest4
          case hy4 => (intro w hSw; (try dsimp only at hSw); go_simp; try with_reducible rfl)
          case rest4 =>
            try simp only [Act.put, List.setIfInBounds_toArray, List.set_cons_zero, List.set_cons_succ]
            refine wpAnyH_take (i := 5) (oi := { dst := some 46, op := _, type := _, pos := _, after := _, guard := _ }) (v := ?v5) rfl (by kernel_rfl) (by kernel_rfl) (by kernel_rfl) (fun _ _ _ h => h) (Or.inl ⟨by rfl, ?hy5⟩) (by assumption) ?rest5
            case hy5 => (intro w hSw; (try dsimp only at hSw); go_simp; try with_reducible rfl)
            case rest5 =>
              try simp only [Act.put, List.setIfInBounds_toArray, List.set_cons_zero, List.set_cons_succ]
              refine wpAnyH_take (i := 7) (oi := { dst := some 48, op := _, type := _, pos := _, after := _, guard := _ }) (v := ?v6) rfl (by kernel_rfl) (by kernel_rfl) (by kernel_rfl) (fun _ _ _ h => h) (Or.inl ⟨by rfl, ?hy6⟩) (by assumption) ?rest6
              case hy6 => (intro w hSw; (try dsimp only at hSw); go_simp; try with_reducible rfl)
              case rest6 =>
                try simp only [Act.put, List.setIfInBounds_toArray, List.set_cons_zero, List.set_cons_succ]
                refine wpAnyH_take (i := 8) (oi := { dst := some 49, op := _, type := _, pos := _, after := _, guard := _ }) (v := ?v7) rfl (by kernel_rfl) (by kernel_rfl) (by kernel_rfl) (fun _ _ _ h => h) (Or.inl ⟨by rfl, ?hy7⟩) (by assumption) ?rest7
                case hy7 => (intro w hSw; (try dsimp only at hSw); go_simp; try with_reducible rfl)
                case rest7 =>
                  try simp only [Act.put, List.setIfInBounds_toArray, List.set_cons_zero, List.set_cons_succ]
                  refine wpAnyH_ready (rs := [4, 12]) (by kernel_rfl) (by simp) ?_
                  refine (AllReadyH.cons (o := _) rfl (fun K hK => ?b8x0) (AllReadyH.cons (o := _) rfl (fun K hK => ?b8x1) AllReadyH.nil))
                  case b8x0 =>
                    go_simp
                    go_at_call 72
                    (with_reducible refine (ct _).mono ?_)
                    rintro e u1 ⟨rfl, hk1⟩
                    have hb1 : Nw w2 u1 := Kp.tr (by repeat (first | with_reducible exact hb2 | with_reducible exact hb1 | with_reducible exact Kp.refl _ _ | with_reducible refine Kp.alloc ?_ _ | with_reducible refine Kp.drew ?_)) hk1
                    have lu1 := hb1.size
                    refine hK.out _ _ (HP.out _ hb1) (fun hHeld2 => ?_)
                    clear hK K
                    try simp only [Act.put, List.setIfInBounds_toArray, List.set_cons_zero, List.set_cons_succ]
                    refine wpAnyH_take (i := 6) (oi := { dst := some 47, op := _, type := _, pos := _, after := _, guard := _ }) (v := ?v9) rfl (by kernel_rfl) (by kernel_rfl) (by kernel_rfl) (fun _ _ _ h => h) (Or.inl ⟨by rfl, ?hy9⟩) (by assumption) ?rest9
                    case hy9 => (intro w hSw; (try dsimp only at hSw); go_simp; try with_reducible rfl)
                    case rest9 =>
                      try simp only [Act.put, List.setIfInBounds_toArray, List.set_cons_zero, List.set_cons_succ]
                      refine wpAnyH_ready (rs := [9, 12]) (by kernel_rfl) (by simp) ?_
                      refine (AllReadyH.cons (o := _) rfl (fun K hK => ?b10x0) (AllReadyH.cons (o := _) rfl (fun K hK => ?b10x1) AllReadyH.nil))
                      case b10x0 =>
                        go_simp
                        go_at_call 72
                        (with_reducible refine (cu _).mono ?_)
                        rintro e u2 ⟨rfl, hk2⟩
                        have hb2 : Nw w2 u2 := Kp.tr (by repeat (first | with_reducible exact hb2 | with_reducible exact hb1 | with_reducible exact Kp.refl _ _ | with_reducible refine Kp.alloc ?_ _ | with_reducible refine Kp.drew ?_)) hk2
                        have lu2 := hb2.size
                        refine hK.out _ _ (HP.out _ hb2) (fun hHeld2 => ?_)
                        clear hK K
                        try simp only [Act.put, List.setIfInBounds_toArray, List.set_cons_zero, List.set_cons_succ]
                        refine wpAnyH_take (i := 10) (oi := { dst := some 51, op := _, type := _, pos := _, after := _, guard := _ }) (v := ?v11) rfl (by kernel_rfl) (by kernel_rfl) (by kernel_rfl) (fun _ _ _ h => h) (Or.inl ⟨by rfl, ?hy11⟩) (by assumption) ?rest11
                        case hy11 => (intro w hSw; (try dsimp only at hSw); go_simp; try with_reducible rfl)
                        case rest11 =>
                          try simp only [Act.put, List.setIfInBounds_toArray, List.set_cons_zero, List.set_cons_succ]
                          refine wpAnyH_take (i := 11) (oi := { dst := some 52, op := _, type := _, pos := _, after := _, guard := _ }) (v := ?v12) rfl (by kernel_rfl) (by kernel_rfl) (by kernel_rfl) (fun _ _ _ h => h) (Or.inl ⟨by rfl, ?hy12⟩) (by assumption) ?rest12
                          case hy12 => (intro w hSw; (try dsimp only at hSw); go_simp; try with_reducible rfl)
                          case rest12 =>
                            try simp only [Act.put, List.setIfInBounds_toArray, List.set_cons_zero, List.set_cons_succ]
                            refine wpAnyH_ready (rs := [12]) (by kernel_rfl) (by simp) ?_
                            refine (AllReadyH.cons (o := _) rfl (fun K hK => ?b13x0) AllReadyH.nil)
                            go_simp
                            refine hK.out _ _ (HP.out _ (hb2.alloc _)) (fun hHeld2 => ?_)
                            clear hK K
                            try simp only [Act.put, List.setIfInBounds_toArray, List.set_cons_zero, List.set_cons_succ]
                            refine wpAnyH_ready (rs := [13]) (by kernel_rfl) (by simp) ?_
                            refine (AllReadyH.cons (o := _) rfl (fun K hK => ?_) AllReadyH.nil)
                            refine step_store (by rfl) 69 (.tmp 12) (.tmp 52) (by rfl) (u2.heap.size) 69 #[.int .i64 0, .int .i64 0, .int .i64 0, .int .i64 0, .int .i64 0, .int .i64 0, .int .i64 0, .int .i64 0, .int .i64 0, .int .i64 0, .int .i64 0, .int .i64 0, .int .i64 0, .int .i64 0, .int .i64 0, .int .i64 0, .int .i64 0, .int .i64 0, .int .i64 0, .int .i64 0, .int .i64 0, .int .i64 0, .int .i64 0, .int .i64 0] #[.int .i64 cx, .int .i64 cy, .int .i64 dx, .int .i64 dy, .int .i64 ax, .int .i64 ay, .int .i64 bx, .int .i64 bz, .int .i64 bx, .int .i64 bz, .int .i64 ax, .int .i64 ay, .int .i64 cx, .int .i64 cy, .int .i64 dx, .int .i64 dy, .int .i64 ax, .int .i64 ay, .int .i64 bx, .int .i64 bz, .int .i64 dx, .int .i64 dy, .int .i64 cx, .int .i64 cy] (by rfl) (by rfl) (Blk.new_at u2 69 #[.int .i64 0, .int .i64 0, .int .i64 0, .int .i64 0, .int .i64 0, .int .i64 0, .int .i64 0, .int .i64 0, .int .i64 0, .int .i64 0, .int .i64 0, .int .i64 0, .int .i64 0, .int .i64 0, .int .i64 0, .int .i64 0, .int .i64 0, .int .i64 0, .int .i64 0, .int .i64 0, .int .i64 0, .int .i64 0, .int .i64 0, .int .i64 0] (n := u2.heap.size) rfl) (by rfl) (by kernel_rfl) (by simp [Value.oneCell']) ?_
                            intro w9 hb9 hk9
                            have hend := own_store (hb2.alloc _) hb2.size hb9 hk9
                            refine hK.out _ _ (HP.out _ (by obtain ⟨_, _, _, h⟩ := hend; exact h)) (fun hHeld3 => ?_)
                            clear hK K
                            try simp only [Act.put]
                            refine wpAnyH_done (by kernel_rfl) ?_ _
                            go_wp2_with fail; go_meet
                            case rel => exact hend
                      case b10x1 =>
                        go_simp
                        refine hK.out _ _ (HP.out _ (hb1.alloc _)) (fun hHeld2 => ?_)
                        clear hK K
                        try simp only [Act.put, List.setIfInBounds_toArray, List.set_cons_zero, List.set_cons_succ]
                        have p0 := Blk.new_at u1 69 #[.int .i64 0, .int .i64 0, .int .i64 0, .int .i64 0, .int .i64 0, .int .i64 0, .int .i64 0, .int .i64 0, .int .i64 0, .int .i64 0, .int .i64 0, .int .i64 0, .int .i64 0, .int .i64 0, .int .i64 0, .int .i64 0, .int .i64 0, .int .i64 0, .int .i64 0, .int .i64 0, .int .i64 0, .int .i64 0, .int .i64 0, .int .i64 0] (n := u1.heap.size) rfl
                        refine wpAnyH_ready (rs := [9]) (by kernel_rfl) (by simp) ?_
                        refine (AllReadyH.cons (o := _) rfl (fun K hK => ?b14x0) AllReadyH.nil)
                        go_simp
                        go_at_call 72
                        (with_reducible refine (cu _).mono ?_)
                        rintro e u2 ⟨rfl, hk2⟩
                        have hb2 : Nw w2 u2 := Kp.tr (by repeat (first | with_reducible exact hb2 | with_reducible exact hb1 | with_reducible exact Kp.refl _ _ | with_reducible refine Kp.alloc ?_ _ | with_reducible refine Kp.drew ?_)) hk2
                        have lu2 := hb2.size
                        refine hK.out _ _ (HP.out _ hb2) (fun hHeld2 => ?_)
                        clear hK K
                        try simp only [Act.put, List.setIfInBounds_toArray, List.set_cons_zero, List.set_cons_succ]
                        refine wpAnyH_take (i := 10) (oi := { dst := some 51, op := _, type := _, pos := _, after := _, guard := _ }) (v := ?v15) rfl (by kernel_rfl) (by kernel_rfl) (by kernel_rfl) (fun _ _ _ h => h) (Or.inl ⟨by rfl, ?hy15⟩) (by assumption) ?rest15
                        case hy15 => (intro w hSw; (try dsimp only at hSw); go_simp; try with_reducible rfl)
                        case rest15 =>
                          try simp only [Act.put, List.setIfInBounds_toArray, List.set_cons_zero, List.set_cons_succ]
                          refine wpAnyH_take (i := 11) (oi := { dst := some 52, op := _, type := _, pos := _, after := _, guard := _ }) (v := ?v16) rfl (by kernel_rfl) (by kernel_rfl) (by kernel_rfl) (fun _ _ _ h => h) (Or.inl ⟨by rfl, ?hy16⟩) (by assumption) ?rest16
                          case hy16 => (intro w hSw; (try dsimp only at hSw); go_simp; try with_reducible rfl)
                          case rest16 =>
                            try simp only [Act.put, List.setIfInBounds_toArray, List.set_cons_zero, List.set_cons_succ]
                            refine wpAnyH_ready (rs := [13]) (by kernel_rfl) (by simp) ?_
                            refine (AllReadyH.cons (o := _) rfl (fun K hK => ?_) AllReadyH.nil)
                            refine step_store (by rfl) 69 (.tmp 12) (.tmp 52) (by rfl) (u1.heap.size) 69 #[.int .i64 0, .int .i64 0, .int .i64 0, .int .i64 0, .int .i64 0, .int .i64 0, .int .i64 0, .int .i64 0, .int .i64 0, .int .i64 0, .int .i64 0, .int .i64 0, .int .i64 0, .int .i64 0, .int .i64 0, .int .i64 0, .int .i64 0, .int .i64 0, .int .i64 0, .int .i64 0, .int .i64 0, .int .i64 0, .int .i64 0, .int .i64 0] #[.int .i64 cx, .int .i64 cy, .int .i64 dx, .int .i64 dy, .int .i64 ax, .int .i64 ay, .int .i64 bx, .int .i64 bz, .int .i64 bx, .int .i64 bz, .int .i64 ax, .int .i64 ay, .int .i64 cx, .int .i64 cy, .int .i64 dx, .int .i64 dy, .int .i64 ax, .int .i64 ay, .int .i64 bx, .int .i64 bz, .int .i64 dx, .int .i64 dy, .int .i64 cx, .int .i64 cy] (by rfl) (by rfl) (Blk.nw p0 hk2) (by rfl) (by kernel_rfl) (by simp [Value.oneCell']) ?_
                            intro w9 hb9 hk9
                            have hend := own_store hb2 hb1.size hb9 hk9
                            refine hK.out _ _ (HP.out _ (by obtain ⟨_, _, _, h⟩ := hend; exact h)) (fun hHeld3 => ?_)
                            clear hK K
                            try simp only [Act.put]
                            refine wpAnyH_done (by kernel_rfl) ?_ _
                            go_wp2_with fail; go_meet
                            case rel => exact hend
                  case b8x1 =>
                    go_simp
                    refine hK.out _ _ (HP.out _ (by repeat (first | exact Kp.refl _ _ | refine Kp.alloc ?_ _ | refine Kp.drew ?_))) (fun hHeld2 => ?_)
                    clear hK K
                    try simp only [Act.put, List.setIfInBounds_toArray, List.set_cons_zero, List.set_cons_succ]
                    refine wpAnyH_ready (rs := [4]) (by kernel_rfl) (by simp) ?_
                    refine (AllReadyH.cons (o := _) rfl (fun K hK => ?b17x0) AllReadyH.nil)
                    go_simp
                    go_at_call 72
                    (with_reducible refine (ct _).mono ?_)
                    rintro e u1 ⟨rfl, hk1⟩
                    have hb1 : Nw w2 u1 := Kp.tr (by repeat (first | with_reducible exact hb2 | with_reducible exact hb1 | with_reducible exact Kp.refl _ _ | with_reducible refine Kp.alloc ?_ _ | with_reducible refine Kp.drew ?_)) hk1
                    have lu1 := hb1.size
                    refine hK.out _ _ (HP.out _ hb1) (fun hHeld2 => ?_)
                    clear hK K
                    try simp only [Act.put, List.setIfInBounds_toArray, List.set_cons_zero, List.set_cons_succ]
                    have p1 := Blk.nw (Blk.drew (Blk.new_at w2 69 #[.int .i64 0, .int .i64 0, .int .i64 0, .int .i64 0, .int .i64 0, .int .i64 0, .int .i64 0, .int .i64 0, .int .i64 0, .int .i64 0, .int .i64 0, .int .i64 0, .int .i64 0, .int .i64 0, .int .i64 0, .int .i64 0, .int .i64 0, .int .i64 0, .int .i64 0, .int .i64 0, .int .i64 0, .int .i64 0, .int .i64 0, .int .i64 0] (n := w2.heap.size) rfl)) hk1
                    refine wpAnyH_take (i := 6) (oi := { dst := some 47, op := _, type := _, pos := _, after := _, guard := _ }) (v := ?v18) rfl (by kernel_rfl) (by kernel_rfl) (by kernel_rfl) (fun _ _ _ h => h) (Or.inl ⟨by rfl, ?hy18⟩) (by assumption) ?rest18
                    case hy18 => (intro w hSw; (try dsimp only at hSw); go_simp; try with_reducible rfl)
                    case rest18 =>
                      try simp only [Act.put, List.setIfInBounds_toArray, List.set_cons_zero, List.set_cons_succ]
                      refine wpAnyH_ready (rs := [9]) (by kernel_rfl) (by simp) ?_
                      refine (AllReadyH.cons (o := _) rfl (fun K hK => ?b19x0) AllReadyH.nil)
                      go_simp
                      go_at_call 72
                      (with_reducible refine (cu _).mono ?_)
                      rintro e u2 ⟨rfl, hk2⟩
                      have hb2 : Nw w2 u2 := Kp.tr (by repeat (first | with_reducible exact hb2 | with_reducible exact hb1 | with_reducible exact Kp.refl _ _ | with_reducible refine Kp.alloc ?_ _ | with_reducible refine Kp.drew ?_)) hk2
                      have lu2 := hb2.size
                      refine hK.out _ _ (HP.out _ hb2) (fun hHeld2 => ?_)
                      clear hK K
                      try simp only [Act.put, List.setIfInBounds_toArray, List.set_cons_zero, List.set_cons_succ]
                      refine wpAnyH_take (i := 10) (oi := { dst := some 51, op := _, type := _, pos := _, after := _, guard := _ }) (v := ?v20) rfl (by kernel_rfl) (by kernel_rfl) (by kernel_rfl) (fun _ _ _ h => h) (Or.inl ⟨by rfl, ?hy20⟩) (by assumption) ?rest20
                      case hy20 => (intro w hSw; (try dsimp only at hSw); go_simp; try with_reducible rfl)
                      case rest20 =>
                        try simp only [Act.put, List.setIfInBounds_toArray, List.set_cons_zero, List.set_cons_succ]
                        refine wpAnyH_take (i := 11) (oi := { dst := some 52, op := _, type := _, pos := _, after := _, guard := _ }) (v := ?v21) rfl (by kernel_rfl) (by kernel_rfl) (by kernel_rfl) (fun _ _ _ h => h) (Or.inl ⟨by rfl, ?hy21⟩) (by assumption) ?rest21
                        case hy21 => (intro w hSw; (try dsimp only at hSw); go_simp; try with_reducible rfl)
                        case rest21 =>
                          try simp only [Act.put, List.setIfInBounds_toArray, List.set_cons_zero, List.set_cons_succ]
                          refine wpAnyH_ready (rs := [13]) (by kernel_rfl) (by simp) ?_
                          refine (AllReadyH.cons (o := _) rfl (fun K hK => ?_) AllReadyH.nil)
                          refine step_store (by rfl) 69 (.tmp 12) (.tmp 52) (by rfl) (w2.heap.size) 69 #[.int .i64 0, .int .i64 0, .int .i64 0, .int .i64 0, .int .i64 0, .int .i64 0, .int .i64 0, .int .i64 0, .int .i64 0, .int .i64 0, .int .i64 0, .int .i64 0, .int .i64 0, .int .i64 0, .int .i64 0, .int .i64 0, .int .i64 0, .int .i64 0, .int .i64 0, .int .i64 0, .int .i64 0, .int .i64 0, .int .i64 0, .int .i64 0] #[.int .i64 cx, .int .i64 cy, .int .i64 dx, .int .i64 dy, .int .i64 ax, .int .i64 ay, .int .i64 bx, .int .i64 bz, .int .i64 bx, .int .i64 bz, .int .i64 ax, .int .i64 ay, .int .i64 cx, .int .i64 cy, .int .i64 dx, .int .i64 dy, .int .i64 ax, .int .i64 ay, .int .i64 bx, .int .i64 bz, .int .i64 dx, .int .i64 dy, .int .i64 cx, .int .i64 cy] (by rfl) (by rfl) (Blk.nw p1 hk2) (by rfl) (by kernel_rfl) (by simp [Value.oneCell']) ?_
                          intro w9 hb9 hk9
                          have hend := own_store hb2 (Nat.le_refl _) hb9 hk9
                          refine hK.out _ _ (HP.out _ (by obtain ⟨_, _, _, h⟩ := hend; exact h)) (fun hHeld3 => ?_)
                          clear hK K
                          try simp only [Act.put]
                          refine wpAnyH_done (by kernel_rfl) ?_ _
                          go_wp2_with fail; go_meet
                          case rel => exact hend

  case rest =>
    obtain ⟨g12, rfl, b12, hkc⟩ := hcut
    have HN3 := Lib.hid (HN2.out.tr hkc)
    have HA := Lib.hid b12
    have HB1 := Lib.hid (HB1.out.nw hkc)
    have HB2 := Lib.hid (HB2.out.nw hkc)
    obtain ⟨w3, hw3⟩ : ∃ x, x = wc := ⟨_, rfl⟩
    rw [← hw3] at HN3 HA HB1 HB2 ⊢
    clear b12 hkc HP ct cu hw3 wc
    go_wp2_with fail
    go_loopw [13] (fun i wr => ∃ k : Nat, i = .int .i64 k ∧ k ≤ 3 ∧ Nw w3 wr) (fun i _ => 3 - (intOf i).toNat)
    case atStart => exact ⟨0, rfl, by omega, Kp.refl _ _⟩
    case round =>
      obtain ⟨k, rfl, hk, hnr⟩ := hrel
      have HNR := Lib.hid hnr
      clear hnr
      by_cases hk3 : k < 3
      · obtain ⟨⟨s1, s2, s3, s4, t1, t2, t3, t4⟩, he⟩ : ∃ z, (prs3 ax ay bx bz cx cy dx dy)[k]? = some z := ⟨(prs3 ax ay bx bz cx cy dx dy)[k]'(by simpa [prs3] using hk3), List.getElem?_eq_getElem _⟩
        have i0 : (0 : Int) ≤ (k : Int) := by omega
        have i1 : (k : Int) < 3 := by omega
        have e4 : IntKind.i64.wrap ((k : Int) + 1) = ((k + 1 : Nat) : Int) := by rw [IntKind.wrap_i64]; omega
        have HPK := Lib.hid (show ∀ w', Nw wr w' → w'.cell? (⟨g12, k * 8, none⟩ : Addr) = some (.int .i64 s1) ∧ w'.cell? (⟨g12, k * 8 + 1, none⟩ : Addr) = some (.int .i64 s2) ∧ w'.cell? (⟨g12, k * 8 + 2, none⟩ : Addr) = some (.int .i64 s3) ∧ w'.cell? (⟨g12, k * 8 + 3, none⟩ : Addr) = some (.int .i64 s4) ∧ w'.cell? (⟨g12, k * 8 + 4, none⟩ : Addr) = some (.int .i64 t1) ∧ w'.cell? (⟨g12, k * 8 + 4 + 1, none⟩ : Addr) = some (.int .i64 t2) ∧ w'.cell? (⟨g12, k * 8 + 4 + 2, none⟩ : Addr) = some (.int .i64 t3) ∧ w'.cell? (⟨g12, k * 8 + 4 + 3, none⟩ : Addr) = some (.int .i64 t4) from fun w' h => by
          have hb := HA.out.nw (HNR.out.tr h)
          obtain rfl | rfl | rfl : k = 0 ∨ k = 1 ∨ k = 2 := by omega
          all_goals (simp [prs3] at he; obtain ⟨rfl, rfl, rfl, rfl, rfl, rfl, rfl, rfl⟩ := he)
          · exact ⟨hb.cell 0, hb.cell 1, hb.cell 2, hb.cell 3, hb.cell 4, hb.cell 5, hb.cell 6, hb.cell 7⟩
          · exact ⟨hb.cell 8, hb.cell 9, hb.cell 10, hb.cell 11, hb.cell 12, hb.cell 13, hb.cell 14, hb.cell 15⟩
          · exact ⟨hb.cell 16, hb.cell 17, hb.cell 18, hb.cell 19, hb.cell 20, hb.cell 21, hb.cell 22, hb.cell 23⟩)
        obtain ⟨hs1, hs2, hs3⟩ := HSAME.out k _ _ _ _ _ _ _ _ he
        have cA := fun w1 => at_any s1 s2 s3 s4 t1 t2 t3 t4 w1
        have cS := fun w1 => share_any s1 s2 s3 s4 t1 t2 t3 t4 w1
        have cK := fun w1 => meetK_any s1 s2 s3 s4 t1 t2 t3 t4 w1
        unfold atV at cA
        unfold shareV at cS
        rw [hs1, hs2, HO.out.1] at cA
        rw [hs1, hs3, HO.out.2] at cS
        rw [hs1] at cK
        clear hs1 hs2 hs3 he
        go_upto_region 10 with fail
        go_cut [14, 15] from 57 to 69 (fun pv bv wx => ∃ g, pv = .pointer (some ⟨g, 0, none⟩) ∧ bv = .bool ok ∧ Blk wx g 50 #[.int .i64 q1, .int .i64 q2, .int .i64 q3] ∧ Nw wr wx)
        case first =>
          go_wp2_with fail
          go_region_held3 (fun w' : World => w'.cell? (⟨g12, k * 8, none⟩ : Addr) = some (.int .i64 s1) ∧ w'.cell? (⟨g12, k * 8 + 1, none⟩ : Addr) = some (.int .i64 s2) ∧ w'.cell? (⟨g12, k * 8 + 2, none⟩ : Addr) = some (.int .i64 s3) ∧ w'.cell? (⟨g12, k * 8 + 3, none⟩ : Addr) = some (.int .i64 s4) ∧ w'.cell? (⟨g12, k * 8 + 4, none⟩ : Addr) = some (.int .i64 t1) ∧ w'.cell? (⟨g12, k * 8 + 4 + 1, none⟩ : Addr) = some (.int .i64 t2) ∧ w'.cell? (⟨g12, k * 8 + 4 + 2, none⟩ : Addr) = some (.int .i64 t3) ∧ w'.cell? (⟨g12, k * 8 + 4 + 3, none⟩ : Addr) = some (.int .i64 t4))
            (first | ((refine HPK.out _ ?_); (repeat (first | with_reducible exact hb2 | with_reducible exact hb1 | with_reducible exact Kp.refl _ _ | with_reducible refine Kp.alloc ?_ _ | with_reducible refine Kp.drew ?_ | with_reducible refine Kp.new ?_ (by omega) _ _))) | fail)
            (first | (go_at_call 52; ((with_reducible refine (cA _).mono ?_); rintro e u1 ⟨rfl, hk1⟩; have hb1 : Nw wr u1 := Kp.tr (by repeat (first | with_reducible exact hb2 | with_reducible exact hb1 | with_reducible exact Kp.refl _ _ | with_reducible refine Kp.alloc ?_ _ | with_reducible refine Kp.drew ?_ | with_reducible refine Kp.new ?_ (by omega) _ _)) hk1; have l1 := hb1.size; with_reducible (first | (have pp0 := Blk.nw (Blk.drew (Blk.new_at _ 50 #[.int .i64 0, .int .i64 0, .int .i64 0] (n := wr.heap.size) (by simp))) hk1; have t0c := pp0.cell 0; have t0f := pp0.frozen 0; have t1c := pp0.cell 1; have t1f := pp0.frozen 1; have t2c := pp0.cell 2; have t2f := pp0.frozen 2; have t5 := pp0.lt) | skip))))
          all_goals (go_wp2_with fail; go_meet; case rel => (first | with_reducible exact ⟨_, rfl, rfl, Blk.new _ _ _, Kp.alloc hb1 _⟩ | with_reducible exact ⟨_, rfl, rfl, (lay3w pp0 _ _ _), (new3w hb1 (by omega) _ _ _)⟩))

        case rest =>
          obtain ⟨g14, rfl, rfl, b14, hkc⟩ := hcut
          have HNR := Lib.hid (HNR.out.tr hkc)
          have HP2 := Lib.hid (fun w' h => HPK.out w' (hkc.tr h))
          have H14 := Lib.hid b14
          obtain ⟨w4, hw4⟩ : ∃ x, x = wc := ⟨_, rfl⟩
          rw [← hw4] at HNR HP2 H14 ⊢
          clear b14 hkc HPK hw4 wc
          go_upto_region 11 with fail
          go_cut [16, 17] from 69 to 81 (fun pv bv wx => ∃ g, pv = .pointer (some ⟨g, 0, none⟩) ∧ bv = .bool is ∧ Blk wx g 48 #[.int .i64 x1, .int .i64 x2, .int .i64 x3, .int .i64 x4] ∧ Nw w4 wx)
          case first =>
            go_wp2_with fail
            go_region_held3 (fun w' : World => w'.cell? (⟨g12, k * 8, none⟩ : Addr) = some (.int .i64 s1) ∧ w'.cell? (⟨g12, k * 8 + 1, none⟩ : Addr) = some (.int .i64 s2) ∧ w'.cell? (⟨g12, k * 8 + 2, none⟩ : Addr) = some (.int .i64 s3) ∧ w'.cell? (⟨g12, k * 8 + 3, none⟩ : Addr) = some (.int .i64 s4) ∧ w'.cell? (⟨g12, k * 8 + 4, none⟩ : Addr) = some (.int .i64 t1) ∧ w'.cell? (⟨g12, k * 8 + 4 + 1, none⟩ : Addr) = some (.int .i64 t2) ∧ w'.cell? (⟨g12, k * 8 + 4 + 2, none⟩ : Addr) = some (.int .i64 t3) ∧ w'.cell? (⟨g12, k * 8 + 4 + 3, none⟩ : Addr) = some (.int .i64 t4))
              (first | ((refine HP2.out _ ?_); (repeat (first | with_reducible exact hb2 | with_reducible exact hb1 | with_reducible exact Kp.refl _ _ | with_reducible refine Kp.alloc ?_ _ | with_reducible refine Kp.drew ?_ | with_reducible refine Kp.new ?_ (by omega) _ _))) | fail)
              (first | (go_at_call 54; ((with_reducible refine (cS _).mono ?_); rintro e u1 ⟨rfl, hk1⟩; have hb1 : Nw w4 u1 := Kp.tr (by repeat (first | with_reducible exact hb2 | with_reducible exact hb1 | with_reducible exact Kp.refl _ _ | with_reducible refine Kp.alloc ?_ _ | with_reducible refine Kp.drew ?_ | with_reducible refine Kp.new ?_ (by omega) _ _)) hk1; have l1 := hb1.size; with_reducible (first | (have pp0 := Blk.nw (Blk.drew (Blk.new_at _ 48 #[.int .i64 0, .int .i64 0, .int .i64 0, .int .i64 0] (n := w4.heap.size) (by simp))) hk1; have t0c := pp0.cell 0; have t0f := pp0.frozen 0; have t1c := pp0.cell 1; have t1f := pp0.frozen 1; have t2c := pp0.cell 2; have t2f := pp0.frozen 2; have t3c := pp0.cell 3; have t3f := pp0.frozen 3; have t5 := pp0.lt) | skip))))
            all_goals (go_wp2_with fail; go_meet; case rel => (first | with_reducible exact ⟨_, rfl, rfl, Blk.new _ _ _, Kp.alloc hb1 _⟩ | with_reducible exact ⟨_, rfl, rfl, (lay4w pp0 _ _ _ _), (new4w hb1 (by omega) _ _ _ _)⟩))

          case rest =>
            obtain ⟨g16, rfl, rfl, b16, hkc⟩ := hcut
            have HNR := Lib.hid (HNR.out.tr hkc)
            have H14 := Lib.hid (H14.out.nw hkc)
            have H16 := Lib.hid b16
            have hP3 := fun (p : KeptW wc) => HP2.out p.wd (hkc.tr p.since)
            have hq1 := fun w1 => eql_pt q1 q2 q3 q1 q2 q3 w1
            have hq2 := fun w1 => eql_seg x1 x2 x3 x4 x1 x2 x3 x4 w1
            simp only [beq_self_eq_true, Bool.and_self] at hq1 hq2
            have r0 := fun p => (hP3 p).1
            have r1 := fun p => (hP3 p).2.1
            have r2 := fun p => (hP3 p).2.2.1
            have r3 := fun p => (hP3 p).2.2.2.1
            have r4 := fun p => (hP3 p).2.2.2.2.1
            have r5 := fun p => (hP3 p).2.2.2.2.2.1
            have r6 := fun p => (hP3 p).2.2.2.2.2.2.1
            have r7 := fun p => (hP3 p).2.2.2.2.2.2.2
            have r8 := fun p : KeptW wc => (H14.out.kept p).cell 0
            have r9 := fun p : KeptW wc => (H14.out.kept p).cell 1
            have r10 := fun p : KeptW wc => (H14.out.kept p).cell 2
            have r11 := fun p : KeptW wc => (H16.out.kept p).cell 0
            have r12 := fun p : KeptW wc => (H16.out.kept p).cell 1
            have r13 := fun p : KeptW wc => (H16.out.kept p).cell 2
            have r14 := fun p : KeptW wc => (H16.out.kept p).cell 3
            have r15 := fun p : KeptW wc => ((HB1.out.nw HNR.out).kept p).cell 0
            have r16 := fun p : KeptW wc => ((HB1.out.nw HNR.out).kept p).cell 1
            have r17 := fun p : KeptW wc => ((HB1.out.nw HNR.out).kept p).cell 2
            have r18 := fun p : KeptW wc => ((HB2.out.nw HNR.out).kept p).cell 0
            have r19 := fun p : KeptW wc => ((HB2.out.nw HNR.out).kept p).cell 1
            have r20 := fun p : KeptW wc => ((HB2.out.nw HNR.out).kept p).cell 2
            have r21 := fun p : KeptW wc => ((HB2.out.nw HNR.out).kept p).cell 3
            clear hP3
            go_upto_region 12 with fail
            refine wp_region_kept (by repeat (first | exact Kp.refl _ _ | refine Kp.drew ?_)) (by assumption) (by kernel_rfl) ?_
            repeat (with_reducible refine wpQuiet_step (fun K hK => ?_); go_simp; first | ((with_reducible refine hK _ ?_); clear hK K) | (with_reducible apply Exists.intro; (with_reducible refine ⟨fun _ => ?_, hK _ ?_⟩); ((first | (go_at_call 58; with_reducible exact Calls.kept_of (cK _)) | fail)); clear hK K) | (simp only [undef, reduceCtorEq, if_false]; (with_reducible refine hK _ ?_); clear hK K))
            with_reducible refine wpQuiet_nil ?_
            rintro _ ⟨p, rfl⟩
            go_wp2_with fail
            go_roundw
            case rel => exact ⟨k + 1, rfl, by omega, HNR.out.tr p.since⟩
            case measure => (simp [intOf]; try omega)
      · obtain rfl : k = 3 := by omega
        have i1 : ¬ (((3 : Nat) : Int) < 3) := by omega
        have HN4 := Lib.hid (HN3.out.tr HNR.out)
        have HB1 := Lib.hid (HB1.out.nw HNR.out)
        have HB2 := Lib.hid (HB2.out.nw HNR.out)
        have cm := fun w1 => moved_any ax ay bx bz vx vy w1
        have cn := fun w1 => moved_any cx cy dx dy vx vy w1
        have HMO := Lib.hid (show w64 (ax + vx) = w64 (ax + vx) ∧ True from ⟨rfl, trivial⟩)
        obtain ⟨m1, hm1⟩ : ∃ m, w64 (ax + vx) = m := ⟨_, rfl⟩
        obtain ⟨m2, hm2⟩ : ∃ m, w64 (ay + vy) = m := ⟨_, rfl⟩
        obtain ⟨m3, hm3⟩ : ∃ m, w64 (bx + vx) = m := ⟨_, rfl⟩
        obtain ⟨m4, hm4⟩ : ∃ m, w64 (bz + vy) = m := ⟨_, rfl⟩
        obtain ⟨n1, hn1⟩ : ∃ m, w64 (cx + vx) = m := ⟨_, rfl⟩
        obtain ⟨n2, hn2⟩ : ∃ m, w64 (cy + vy) = m := ⟨_, rfl⟩
        obtain ⟨n3, hn3⟩ : ∃ m, w64 (dx + vx) = m := ⟨_, rfl⟩
        obtain ⟨n4, hn4⟩ : ∃ m, w64 (dy + vy) = m := ⟨_, rfl⟩
        rw [hm1, hm2, hm3, hm4] at cm
        rw [hn1, hn2, hn3, hn4] at cn
        have HMM := Lib.hid (And.intro (And.intro hm1 (And.intro hm2 (And.intro hm3 hm4))) (And.intro hn1 (And.intro hn2 (And.intro hn3 hn4))))
        clear hm1 hm2 hm3 hm4 hn1 hn2 hn3 hn4 HMO hmix
        have HP := Lib.hid (show ∀ w', Nw wr w' → w'.cell? (⟨w.heap.size, 0, none⟩ : Addr) = some (.int .i64 ax) ∧ w'.cell? (⟨w.heap.size, 1, none⟩ : Addr) = some (.int .i64 ay) ∧ w'.cell? (⟨w.heap.size, 2, none⟩ : Addr) = some (.int .i64 bx) ∧ w'.cell? (⟨w.heap.size, 3, none⟩ : Addr) = some (.int .i64 bz) ∧ w'.cell? (⟨w.heap.size + 1, 0, none⟩ : Addr) = some (.int .i64 cx) ∧ w'.cell? (⟨w.heap.size + 1, 1, none⟩ : Addr) = some (.int .i64 cy) ∧ w'.cell? (⟨w.heap.size + 1, 2, none⟩ : Addr) = some (.int .i64 dx) ∧ w'.cell? (⟨w.heap.size + 1, 3, none⟩ : Addr) = some (.int .i64 dy) ∧ w'.cell? (⟨w.heap.size + 1 + 1, 0, none⟩ : Addr) = some (.int .i64 vx) ∧ w'.cell? (⟨w.heap.size + 1 + 1, 1, none⟩ : Addr) = some (.int .i64 vy) from fun w' h => by
          obtain ⟨a, b, c⟩ := HF.out w' (HN4.out.tr h)
          exact ⟨a.cell 0, a.cell 1, a.cell 2, a.cell 3, b.cell 0, b.cell 1, b.cell 2, b.cell 3, c.cell 0, c.cell 1⟩)
        go_upto_region 14 with fail
        go_cut [18, 19] from 102 to 108 (fun pv qv wx => Rel7 m1 m2 m3 m4 n1 n2 n3 n4 wr pv qv wx)
        case first =>
          go_wp2_with fail
          go_region_held3 (fun w' : World => w'.cell? (⟨w.heap.size, 0, none⟩ : Addr) = some (.int .i64 ax) ∧ w'.cell? (⟨w.heap.size, 1, none⟩ : Addr) = some (.int .i64 ay) ∧ w'.cell? (⟨w.heap.size, 2, none⟩ : Addr) = some (.int .i64 bx) ∧ w'.cell? (⟨w.heap.size, 3, none⟩ : Addr) = some (.int .i64 bz) ∧ w'.cell? (⟨w.heap.size + 1, 0, none⟩ : Addr) = some (.int .i64 cx) ∧ w'.cell? (⟨w.heap.size + 1, 1, none⟩ : Addr) = some (.int .i64 cy) ∧ w'.cell? (⟨w.heap.size + 1, 2, none⟩ : Addr) = some (.int .i64 dx) ∧ w'.cell? (⟨w.heap.size + 1, 3, none⟩ : Addr) = some (.int .i64 dy) ∧ w'.cell? (⟨w.heap.size + 1 + 1, 0, none⟩ : Addr) = some (.int .i64 vx) ∧ w'.cell? (⟨w.heap.size + 1 + 1, 1, none⟩ : Addr) = some (.int .i64 vy))
            (first | ((refine HP.out _ ?_); (repeat (first | with_reducible exact hb2 | with_reducible exact hb1 | with_reducible exact Kp.refl _ _ | with_reducible refine Kp.alloc ?_ _ | with_reducible refine Kp.drew ?_ | with_reducible refine Kp.new ?_ (by omega) _ _))) | fail)
            (first | (go_at_call 73; ((with_reducible refine (cm _).mono ?_); rintro e u1 ⟨rfl, hk1⟩; have hb1 : Nw wr u1 := Kp.tr (by repeat (first | with_reducible exact hb2 | with_reducible exact hb1 | with_reducible exact Kp.refl _ _ | with_reducible refine Kp.alloc ?_ _ | with_reducible refine Kp.drew ?_ | with_reducible refine Kp.new ?_ (by omega) _ _)) hk1; have l1 := hb1.size; with_reducible (first | (have p1 := Blk.nw (Blk.drew (Blk.new_at _ 48 #[.int .i64 0, .int .i64 0, .int .i64 0, .int .i64 0] (n := wr.heap.size + 1) (by simp))) hk1; have p0 := Blk.nw (Blk.drew (Blk.alloc (Blk.new_at _ 48 #[.int .i64 0, .int .i64 0, .int .i64 0, .int .i64 0] (n := wr.heap.size) (by simp)) _)) hk1; have t0c := (p0).cell 0; have t0f := (p0).frozen 0; have t1c := (p0).cell 1; have t1f := (p0).frozen 1; have t2c := (p0).cell 2; have t2f := (p0).frozen 2; have t3c := (p0).cell 3; have t3f := (p0).frozen 3; have t5 := Nat.ne_of_lt p0.lt; have t6 := Ne.symm (Nat.ne_of_lt p0.lt); have t0c := (p1).cell 0; have t0f := (p1).frozen 0; have t1c := (p1).cell 1; have t1f := (p1).frozen 1; have t2c := (p1).cell 2; have t2f := (p1).frozen 2; have t3c := (p1).cell 3; have t3f := (p1).frozen 3; have t5 := Nat.ne_of_lt p1.lt; have t6 := Ne.symm (Nat.ne_of_lt p1.lt)) | (have p0 := Blk.nw (Blk.drew (Blk.new_at _ 48 #[.int .i64 0, .int .i64 0, .int .i64 0, .int .i64 0] (n := wr.heap.size) (by simp))) hk1; have t0c := (p0).cell 0; have t0f := (p0).frozen 0; have t1c := (p0).cell 1; have t1f := (p0).frozen 1; have t2c := (p0).cell 2; have t2f := (p0).frozen 2; have t3c := (p0).cell 3; have t3f := (p0).frozen 3; have t5 := Nat.ne_of_lt p0.lt; have t6 := Ne.symm (Nat.ne_of_lt p0.lt)) | skip))) | (go_at_call 73; ((with_reducible refine (cn _).mono ?_); rintro e u2 ⟨rfl, hk2⟩; have hb2 : Nw wr u2 := Kp.tr (by repeat (first | with_reducible exact hb2 | with_reducible exact hb1 | with_reducible exact Kp.refl _ _ | with_reducible refine Kp.alloc ?_ _ | with_reducible refine Kp.drew ?_ | with_reducible refine Kp.new ?_ (by omega) _ _)) hk2; have l2 := hb2.size; with_reducible (first | (have t := p1; have rr1 := Blk.nw p1 hk2; have rr0 := Blk.nw p0 hk2; have t0c := (rr0).cell 0; have t0f := (rr0).frozen 0; have t1c := (rr0).cell 1; have t1f := (rr0).frozen 1; have t2c := (rr0).cell 2; have t2f := (rr0).frozen 2; have t3c := (rr0).cell 3; have t3f := (rr0).frozen 3; have t5 := Nat.ne_of_lt rr0.lt; have t6 := Ne.symm (Nat.ne_of_lt rr0.lt); have t0c := (rr1).cell 0; have t0f := (rr1).frozen 0; have t1c := (rr1).cell 1; have t1f := (rr1).frozen 1; have t2c := (rr1).cell 2; have t2f := (rr1).frozen 2; have t3c := (rr1).cell 3; have t3f := (rr1).frozen 3; have t5 := Nat.ne_of_lt rr1.lt; have t6 := Ne.symm (Nat.ne_of_lt rr1.lt)) | (have t := p0; have rr0 := Blk.nw (Blk.alloc p0 _) hk2; have o0 := Blk.nw (Blk.new_at _ 48 #[.int .i64 0, .int .i64 0, .int .i64 0, .int .i64 0] (n := u1.heap.size) (by simp)) hk2; have t0c := (rr0).cell 0; have t0f := (rr0).frozen 0; have t1c := (rr0).cell 1; have t1f := (rr0).frozen 1; have t2c := (rr0).cell 2; have t2f := (rr0).frozen 2; have t3c := (rr0).cell 3; have t3f := (rr0).frozen 3; have t5 := Nat.ne_of_lt rr0.lt; have t6 := Ne.symm (Nat.ne_of_lt rr0.lt); have t0c := (o0).cell 0; have t0f := (o0).frozen 0; have t1c := (o0).cell 1; have t1f := (o0).frozen 1; have t2c := (o0).cell 2; have t2f := (o0).frozen 2; have t3c := (o0).cell 3; have t3f := (o0).frozen 3; have t5 := Nat.ne_of_lt o0.lt; have t6 := Ne.symm (Nat.ne_of_lt o0.lt)) | (have t := p0; have rr0 := Blk.nw p0 hk2; have t0c := (rr0).cell 0; have t0f := (rr0).frozen 0; have t1c := (rr0).cell 1; have t1f := (rr0).frozen 1; have t2c := (rr0).cell 2; have t2f := (rr0).frozen 2; have t3c := (rr0).cell 3; have t3f := (rr0).frozen 3; have t5 := Nat.ne_of_lt rr0.lt; have t6 := Ne.symm (Nat.ne_of_lt rr0.lt); have t0c := (rr0.alloc (.cells #[.int .i64 0, .int .i64 0, .int .i64 0, .int .i64 0] 48)).cell 0; have t0f := (rr0.alloc (.cells #[.int .i64 0, .int .i64 0, .int .i64 0, .int .i64 0] 48)).frozen 0; have t1c := (rr0.alloc (.cells #[.int .i64 0, .int .i64 0, .int .i64 0, .int .i64 0] 48)).cell 1; have t1f := (rr0.alloc (.cells #[.int .i64 0, .int .i64 0, .int .i64 0, .int .i64 0] 48)).frozen 1; have t2c := (rr0.alloc (.cells #[.int .i64 0, .int .i64 0, .int .i64 0, .int .i64 0] 48)).cell 2; have t2f := (rr0.alloc (.cells #[.int .i64 0, .int .i64 0, .int .i64 0, .int .i64 0] 48)).frozen 2; have t3c := (rr0.alloc (.cells #[.int .i64 0, .int .i64 0, .int .i64 0, .int .i64 0] 48)).cell 3; have t3f := (rr0.alloc (.cells #[.int .i64 0, .int .i64 0, .int .i64 0, .int .i64 0] 48)).frozen 3; have t0c := (rr0.alloc (.cells #[.int .i64 m1, .int .i64 m2, .int .i64 m3, .int .i64 m4] 48)).cell 0; have t0f := (rr0.alloc (.cells #[.int .i64 m1, .int .i64 m2, .int .i64 m3, .int .i64 m4] 48)).frozen 0; have t1c := (rr0.alloc (.cells #[.int .i64 m1, .int .i64 m2, .int .i64 m3, .int .i64 m4] 48)).cell 1; have t1f := (rr0.alloc (.cells #[.int .i64 m1, .int .i64 m2, .int .i64 m3, .int .i64 m4] 48)).frozen 1; have t2c := (rr0.alloc (.cells #[.int .i64 m1, .int .i64 m2, .int .i64 m3, .int .i64 m4] 48)).cell 2; have t2f := (rr0.alloc (.cells #[.int .i64 m1, .int .i64 m2, .int .i64 m3, .int .i64 m4] 48)).frozen 2; have t3c := (rr0.alloc (.cells #[.int .i64 m1, .int .i64 m2, .int .i64 m3, .int .i64 m4] 48)).cell 3; have t3f := (rr0.alloc (.cells #[.int .i64 m1, .int .i64 m2, .int .i64 m3, .int .i64 m4] 48)).frozen 3) | (have o1 := Blk.nw (Blk.new_at _ 48 #[.int .i64 0, .int .i64 0, .int .i64 0, .int .i64 0] (n := u1.heap.size + 1) (by simp)) hk2; have o0 := Blk.nw (Blk.alloc (Blk.new_at _ 48 #[.int .i64 0, .int .i64 0, .int .i64 0, .int .i64 0] (n := u1.heap.size) (by simp)) _) hk2; have t0c := (o0).cell 0; have t0f := (o0).frozen 0; have t1c := (o0).cell 1; have t1f := (o0).frozen 1; have t2c := (o0).cell 2; have t2f := (o0).frozen 2; have t3c := (o0).cell 3; have t3f := (o0).frozen 3; have t5 := Nat.ne_of_lt o0.lt; have t6 := Ne.symm (Nat.ne_of_lt o0.lt); have t0c := (o1).cell 0; have t0f := (o1).frozen 0; have t1c := (o1).cell 1; have t1f := (o1).frozen 1; have t2c := (o1).cell 2; have t2f := (o1).frozen 2; have t3c := (o1).cell 3; have t3f := (o1).frozen 3; have t5 := Nat.ne_of_lt o1.lt; have t6 := Ne.symm (Nat.ne_of_lt o1.lt)) | (have o0 := Blk.nw (Blk.new_at _ 48 #[.int .i64 0, .int .i64 0, .int .i64 0, .int .i64 0] (n := u1.heap.size) (by simp)) hk2; have t0c := (o0).cell 0; have t0f := (o0).frozen 0; have t1c := (o0).cell 1; have t1f := (o0).frozen 1; have t2c := (o0).cell 2; have t2f := (o0).frozen 2; have t3c := (o0).cell 3; have t3f := (o0).frozen 3; have t5 := Nat.ne_of_lt o0.lt; have t6 := Ne.symm (Nat.ne_of_lt o0.lt); have t0c := (o0.alloc (.cells #[.int .i64 0, .int .i64 0, .int .i64 0, .int .i64 0] 48)).cell 0; have t0f := (o0.alloc (.cells #[.int .i64 0, .int .i64 0, .int .i64 0, .int .i64 0] 48)).frozen 0; have t1c := (o0.alloc (.cells #[.int .i64 0, .int .i64 0, .int .i64 0, .int .i64 0] 48)).cell 1; have t1f := (o0.alloc (.cells #[.int .i64 0, .int .i64 0, .int .i64 0, .int .i64 0] 48)).frozen 1; have t2c := (o0.alloc (.cells #[.int .i64 0, .int .i64 0, .int .i64 0, .int .i64 0] 48)).cell 2; have t2f := (o0.alloc (.cells #[.int .i64 0, .int .i64 0, .int .i64 0, .int .i64 0] 48)).frozen 2; have t3c := (o0.alloc (.cells #[.int .i64 0, .int .i64 0, .int .i64 0, .int .i64 0] 48)).cell 3; have t3f := (o0.alloc (.cells #[.int .i64 0, .int .i64 0, .int .i64 0, .int .i64 0] 48)).frozen 3; have t0c := (o0.alloc (.cells #[.int .i64 m1, .int .i64 m2, .int .i64 m3, .int .i64 m4] 48)).cell 0; have t0f := (o0.alloc (.cells #[.int .i64 m1, .int .i64 m2, .int .i64 m3, .int .i64 m4] 48)).frozen 0; have t1c := (o0.alloc (.cells #[.int .i64 m1, .int .i64 m2, .int .i64 m3, .int .i64 m4] 48)).cell 1; have t1f := (o0.alloc (.cells #[.int .i64 m1, .int .i64 m2, .int .i64 m3, .int .i64 m4] 48)).frozen 1; have t2c := (o0.alloc (.cells #[.int .i64 m1, .int .i64 m2, .int .i64 m3, .int .i64 m4] 48)).cell 2; have t2f := (o0.alloc (.cells #[.int .i64 m1, .int .i64 m2, .int .i64 m3, .int .i64 m4] 48)).frozen 2; have t3c := (o0.alloc (.cells #[.int .i64 m1, .int .i64 m2, .int .i64 m3, .int .i64 m4] 48)).cell 3; have t3f := (o0.alloc (.cells #[.int .i64 m1, .int .i64 m2, .int .i64 m3, .int .i64 m4] 48)).frozen 3) | skip))))
          all_goals (go_wp2_with fail; go_meet; case rel => (first | with_reducible exact sg1 hb2 | with_reducible exact sg2 hb2 | with_reducible exact sg3 hb2 rr0 (by omega) | with_reducible exact sg3 hb2 rr1 (by omega) | with_reducible exact sg3 hb2 o0 (by omega) | with_reducible exact sg3 hb2 o1 (by omega) | with_reducible exact sg5 hb2 rr0 (by omega) | with_reducible exact sg5 hb2 rr1 (by omega) | with_reducible exact sg5 hb2 o0 (by omega) | with_reducible exact sg5 hb2 o1 (by omega) | with_reducible exact sg4 hb2 rr0 rr1 (by omega) (by omega) (by omega) | with_reducible exact sg4 hb2 rr0 o0 (by omega) (by omega) (by omega) | with_reducible exact sg4 hb2 rr0 o1 (by omega) (by omega) (by omega) | with_reducible exact sg4 hb2 rr1 rr0 (by omega) (by omega) (by omega) | with_reducible exact sg4 hb2 rr1 o0 (by omega) (by omega) (by omega) | with_reducible exact sg4 hb2 rr1 o1 (by omega) (by omega) (by omega) | with_reducible exact sg4 hb2 o0 rr0 (by omega) (by omega) (by omega) | with_reducible exact sg4 hb2 o0 rr1 (by omega) (by omega) (by omega) | with_reducible exact sg4 hb2 o0 o1 (by omega) (by omega) (by omega) | with_reducible exact sg4 hb2 o1 rr0 (by omega) (by omega) (by omega) | with_reducible exact sg4 hb2 o1 rr1 (by omega) (by omega) (by omega) | with_reducible exact sg4 hb2 o1 o0 (by omega) (by omega) (by omega)))
        case rest =>
          obtain ⟨g18, g19, rfl, rfl, b18, b19, hkc⟩ := hcut
          have HN5 := Lib.hid (HN4.out.tr hkc)
          have HB1 := Lib.hid (HB1.out.nw hkc)
          have HB2 := Lib.hid (HB2.out.nw hkc)
          have H18 := Lib.hid b18
          have H19 := Lib.hid b19
          clear b18 b19 hkc HP cm cn
          obtain ⟨w7, hw7⟩ : ∃ x, x = wc := ⟨_, rfl⟩
          rw [← hw7] at HN5 HB1 HB2 H18 H19 ⊢
          clear hw7 wc
          have hmix := mixed7
          have c1 := fun w1 => rwithin_any vx vy 10000 w1
          have c2 := fun w1 => valid_any ax ay bx bz w1
          have c3 := fun w1 => valid_any cx cy dx dy w1
          have c4 := fun w1 => valid_any m1 m2 m3 m4 w1
          have c5 := fun w1 => valid_any n1 n2 n3 n4 w1
          have fq0 := fun p : KeptW w7 => (HF.out p.wd (HN5.out.tr p.since)).1.cell 0
          have fq1 := fun p : KeptW w7 => (HF.out p.wd (HN5.out.tr p.since)).1.cell 1
          have fq2 := fun p : KeptW w7 => (HF.out p.wd (HN5.out.tr p.since)).1.cell 2
          have fq3 := fun p : KeptW w7 => (HF.out p.wd (HN5.out.tr p.since)).1.cell 3
          have fq4 := fun p : KeptW w7 => (HF.out p.wd (HN5.out.tr p.since)).2.1.cell 0
          have fq5 := fun p : KeptW w7 => (HF.out p.wd (HN5.out.tr p.since)).2.1.cell 1
          have fq6 := fun p : KeptW w7 => (HF.out p.wd (HN5.out.tr p.since)).2.1.cell 2
          have fq7 := fun p : KeptW w7 => (HF.out p.wd (HN5.out.tr p.since)).2.1.cell 3
          have fq8 := fun p : KeptW w7 => (HF.out p.wd (HN5.out.tr p.since)).2.2.cell 0
          have fq9 := fun p : KeptW w7 => (HF.out p.wd (HN5.out.tr p.since)).2.2.cell 1
          have fq10 := fun p : KeptW w7 => (H18.out.kept p).cell 0
          have fq11 := fun p : KeptW w7 => (H18.out.kept p).cell 1
          have fq12 := fun p : KeptW w7 => (H18.out.kept p).cell 2
          have fq13 := fun p : KeptW w7 => (H18.out.kept p).cell 3
          have fq14 := fun p : KeptW w7 => (H19.out.kept p).cell 0
          have fq15 := fun p : KeptW w7 => (H19.out.kept p).cell 1
          have fq16 := fun p : KeptW w7 => (H19.out.kept p).cell 2
          have fq17 := fun p : KeptW w7 => (H19.out.kept p).cell 3
          have fq18 := fun p : KeptW w7 => (HB1.out.kept p).cell 0
          have fq19 := fun p : KeptW w7 => (HB1.out.kept p).cell 1
          have fq20 := fun p : KeptW w7 => (HB1.out.kept p).cell 2
          have fq21 := fun p : KeptW w7 => (HB2.out.kept p).cell 0
          have fq22 := fun p : KeptW w7 => (HB2.out.kept p).cell 1
          have fq23 := fun p : KeptW w7 => (HB2.out.kept p).cell 2
          have fq24 := fun p : KeptW w7 => (HB2.out.kept p).cell 3
          have fz0 := fq0 ⟨w7, Kp.refl _ _⟩
          have fz1 := fq1 ⟨w7, Kp.refl _ _⟩
          have fz2 := fq2 ⟨w7, Kp.refl _ _⟩
          have fz3 := fq3 ⟨w7, Kp.refl _ _⟩
          have fz4 := fq4 ⟨w7, Kp.refl _ _⟩
          have fz5 := fq5 ⟨w7, Kp.refl _ _⟩
          have fz6 := fq6 ⟨w7, Kp.refl _ _⟩
          have fz7 := fq7 ⟨w7, Kp.refl _ _⟩
          have fz8 := fq8 ⟨w7, Kp.refl _ _⟩
          have fz9 := fq9 ⟨w7, Kp.refl _ _⟩
          have fz10 := fq10 ⟨w7, Kp.refl _ _⟩
          have fz11 := fq11 ⟨w7, Kp.refl _ _⟩
          have fz12 := fq12 ⟨w7, Kp.refl _ _⟩
          have fz13 := fq13 ⟨w7, Kp.refl _ _⟩
          have fz14 := fq14 ⟨w7, Kp.refl _ _⟩
          have fz15 := fq15 ⟨w7, Kp.refl _ _⟩
          have fz16 := fq16 ⟨w7, Kp.refl _ _⟩
          have fz17 := fq17 ⟨w7, Kp.refl _ _⟩
          have fz18 := fq18 ⟨w7, Kp.refl _ _⟩
          have fz19 := fq19 ⟨w7, Kp.refl _ _⟩
          have fz20 := fq20 ⟨w7, Kp.refl _ _⟩
          have fz21 := fq21 ⟨w7, Kp.refl _ _⟩
          have fz22 := fq22 ⟨w7, Kp.refl _ _⟩
          have fz23 := fq23 ⟨w7, Kp.refl _ _⟩
          have fz24 := fq24 ⟨w7, Kp.refl _ _⟩
          by_cases w1t : withinV vx vy 10000 = true
          case neg =>
            rw [Bool.not_eq_true] at w1t
            rw [w1t] at c1
            go_wp2_with (first | (go_at_call 43; ((with_reducible refine (Calls.kept_first (c1 _)).mono ?_); rintro e _ ⟨rfl, p, rfl⟩)) | fail)
            go_ret
            exact ⟨rfl, ((((nw_alloc _ _).alloc _).alloc _).tr HN5.out).tr p.since⟩
          by_cases v1t : validS ax ay bx bz = true
          case neg =>
            rw [Bool.not_eq_true] at v1t
            rw [w1t] at c1
            rw [v1t] at c2
            go_wp2_with (first | (go_at_call 43; ((with_reducible refine (Calls.kept_first (c1 _)).mono ?_); rintro e _ ⟨rfl, p, rfl⟩)) | (go_at_call 56; ((with_reducible refine (Calls.kept_of (c2 _)).mono ?_); rintro e _ ⟨rfl, p, rfl⟩)) | fail)
            go_ret
            exact ⟨rfl, ((((nw_alloc _ _).alloc _).alloc _).tr HN5.out).tr p.since⟩
          by_cases v2t : validS cx cy dx dy = true
          case neg =>
            rw [Bool.not_eq_true] at v2t
            rw [w1t] at c1
            rw [v1t] at c2
            rw [v2t] at c3
            go_wp2_with (first | (go_at_call 43; ((with_reducible refine (Calls.kept_first (c1 _)).mono ?_); rintro e _ ⟨rfl, p, rfl⟩)) | (go_at_call 56; ((with_reducible refine (Calls.kept_of (c2 _)).mono ?_); rintro e _ ⟨rfl, p, rfl⟩)) | (go_at_call 56; ((with_reducible refine (Calls.kept_of (c3 _)).mono ?_); rintro e _ ⟨rfl, p, rfl⟩)) | fail)
            go_ret
            exact ⟨rfl, ((((nw_alloc _ _).alloc _).alloc _).tr HN5.out).tr p.since⟩
          by_cases v3t : validS m1 m2 m3 m4 = true
          case neg =>
            rw [Bool.not_eq_true] at v3t
            rw [w1t] at c1
            rw [v1t] at c2
            rw [v2t] at c3
            rw [v3t] at c4
            go_wp2_with (first | (go_at_call 43; ((with_reducible refine (Calls.kept_first (c1 _)).mono ?_); rintro e _ ⟨rfl, p, rfl⟩)) | (go_at_call 56; ((with_reducible refine (Calls.kept_of (c2 _)).mono ?_); rintro e _ ⟨rfl, p, rfl⟩)) | (go_at_call 56; ((with_reducible refine (Calls.kept_of (c3 _)).mono ?_); rintro e _ ⟨rfl, p, rfl⟩)) | (go_at_call 56; ((with_reducible refine (Calls.kept_of (c4 _)).mono ?_); rintro e _ ⟨rfl, p, rfl⟩)) | fail)
            go_ret
            exact ⟨rfl, ((((nw_alloc _ _).alloc _).alloc _).tr HN5.out).tr p.since⟩
          by_cases v4t : validS n1 n2 n3 n4 = true
          case neg =>
            rw [Bool.not_eq_true] at v4t
            rw [w1t] at c1
            rw [v1t] at c2
            rw [v2t] at c3
            rw [v3t] at c4
            rw [v4t] at c5
            go_wp2_with (first | (go_at_call 43; ((with_reducible refine (Calls.kept_first (c1 _)).mono ?_); rintro e _ ⟨rfl, p, rfl⟩)) | (go_at_call 56; ((with_reducible refine (Calls.kept_of (c2 _)).mono ?_); rintro e _ ⟨rfl, p, rfl⟩)) | (go_at_call 56; ((with_reducible refine (Calls.kept_of (c3 _)).mono ?_); rintro e _ ⟨rfl, p, rfl⟩)) | (go_at_call 56; ((with_reducible refine (Calls.kept_of (c4 _)).mono ?_); rintro e _ ⟨rfl, p, rfl⟩)) | (go_at_call 56; ((with_reducible refine (Calls.kept_of (c5 _)).mono ?_); rintro e _ ⟨rfl, p, rfl⟩)) | fail)
            go_ret
            exact ⟨rfl, ((((nw_alloc _ _).alloc _).alloc _).tr HN5.out).tr p.since⟩
          obtain ⟨tx, ty⟩ := within_ten w1t
          obtain ⟨ha, hb⟩ := valid_lm v1t
          obtain ⟨hc, hd⟩ := valid_lm v2t
          have hmm := HMM.out
          unfold Lm at ha hb hc hd
          rw [mv_small (by omega) tx, mv_small (by omega) ty, mv_small (by omega) tx, mv_small (by omega) ty, mv_small (by omega) tx, mv_small (by omega) ty, mv_small (by omega) tx, mv_small (by omega) ty] at hmm
          obtain ⟨⟨rfl, rfl, rfl, rfl⟩, ⟨rfl, rfl, rfl, rfl⟩⟩ := hmm
          obtain ⟨hm1, hm2, hm3⟩ := HMV.out v1t v2t v3t v4t
          have hqb := HQB.out v1t v2t
          have hxb := HXB.out v1t v2t
          (try simp only at hm2)
          (try simp only at hm3)
          (try simp only at hqb)
          (try simp only at hxb)
          have dA := fun w1 => at_any (ax + vx) (ay + vy) (bx + vx) (bz + vy) (cx + vx) (cy + vy) (dx + vx) (dy + vy) w1
          have dS := fun w1 => share_any (ax + vx) (ay + vy) (bx + vx) (bz + vy) (cx + vx) (cy + vy) (dx + vx) (dy + vy) w1
          have dK := fun w1 => meetK_any (ax + vx) (ay + vy) (bx + vx) (bz + vy) (cx + vx) (cy + vy) (dx + vx) (dy + vy) w1
          unfold atV at dA
          unfold shareV at dS
          rw [hm1, HO.out.1] at dA
          rw [hm1, HO.out.2] at dS
          rw [hm1] at dK
          rw [w1t] at c1
          rw [v1t] at c2
          rw [v2t] at c3
          rw [v3t] at c4
          rw [v4t] at c5
          generalize atS (ax + vx) (ay + vy) (bx + vx) (bz + vy) (cx + vx) (cy + vy) (dx + vx) (dy + vy) = r at *
          generalize shareS (ax + vx) (ay + vy) (bx + vx) (bz + vy) (cx + vx) (cy + vy) (dx + vx) (dy + vy) = y at *
          obtain ⟨r1, r2, r3⟩ := r
          obtain ⟨⟨y1, y2⟩, ⟨y3, y4⟩⟩ := y
          have cm := fun w1 => moved_any x1 x2 x3 x4 vx vy w1
          clear v1t v2t v3t v4t w1t hm1 ha hb hc hd
          generalize ax + vx = m1 at *
          generalize ay + vy = m2 at *
          generalize bx + vx = m3 at *
          generalize bz + vy = m4 at *
          generalize cx + vx = n1 at *
          generalize cy + vy = n2 at *
          generalize dx + vx = n3 at *
          generalize dy + vy = n4 at *
          have ho := HO.out
          rcases HR.out with rfl | rfl | rfl | rfl
          · obtain rfl : false = ok := ho.1
            obtain rfl : false = is := ho.2
            go_upto_region 18 with (first | (go_at_call 43; ((with_reducible refine (Calls.kept_first (c1 _)).mono ?_); rintro e _ ⟨rfl, p, rfl⟩)) | (go_at_call 56; ((with_reducible refine (Calls.kept_of (c2 _)).mono ?_); rintro e _ ⟨rfl, p, rfl⟩)) | (go_at_call 56; ((with_reducible refine (Calls.kept_of (c3 _)).mono ?_); rintro e _ ⟨rfl, p, rfl⟩)) | (go_at_call 56; ((with_reducible refine (Calls.kept_of (c4 _)).mono ?_); rintro e _ ⟨rfl, p, rfl⟩)) | (go_at_call 56; ((with_reducible refine (Calls.kept_of (c5 _)).mono ?_); rintro e _ ⟨rfl, p, rfl⟩)) | (go_at_call 52; ((with_reducible refine (Calls.kept_of (dA _)).mono ?_); rintro e _ ⟨rfl, p, rfl⟩)) | fail)
            obtain ⟨g20, hg1⟩ : ∃ g, p.wd.heap.size = g := ⟨_, rfl⟩
            have hbb := Blk.new_at p.wd 50 #[.int .i64 r1, .int .i64 r2, .int .i64 r3] hg1
            have hn1 := p.since.alloc (.cells #[.int .i64 r1, .int .i64 r2, .int .i64 r3] 50)
            rw [hg1]
            generalize p.wd.alloc (.cells #[.int .i64 r1, .int .i64 r2, .int .i64 r3] 50) = w8 at hbb hn1 ⊢
            clear hg1
            have HN8 := Lib.hid (HN5.out.tr hn1)
            have H20 := Lib.hid hbb
            have H18 := Lib.hid (H18.out.nw hn1)
            have H19 := Lib.hid (H19.out.nw hn1)
            have HB1 := Lib.hid (HB1.out.nw hn1)
            have HB2 := Lib.hid (HB2.out.nw hn1)
            clear hbb hn1 c1 c2 c3 c4 c5 fq0 fz0 fq1 fz1 fq2 fz2 fq3 fz3 fq4 fz4 fq5 fz5 fq6 fz6 fq7 fz7 fq8 fz8 fq9 fz9 fq10 fz10 fq11 fz11 fq12 fz12 fq13 fz13 fq14 fz14 fq15 fz15 fq16 fz16 fq17 fz17 fq18 fz18 fq19 fz19 fq20 fz20 fq21 fz21 fq22 fz22 fq23 fz23 fq24 fz24
            have fr0 := fun p : KeptW w8 => (H18.out.kept p).cell 0
            have fr1 := fun p : KeptW w8 => (H18.out.kept p).cell 1
            have fr2 := fun p : KeptW w8 => (H18.out.kept p).cell 2
            have fr3 := fun p : KeptW w8 => (H18.out.kept p).cell 3
            have fr4 := fun p : KeptW w8 => (H19.out.kept p).cell 0
            have fr5 := fun p : KeptW w8 => (H19.out.kept p).cell 1
            have fr6 := fun p : KeptW w8 => (H19.out.kept p).cell 2
            have fr7 := fun p : KeptW w8 => (H19.out.kept p).cell 3
            have fr8 := fun p : KeptW w8 => (HF.out p.wd (HN8.out.tr p.since)).1.cell 0
            have fr9 := fun p : KeptW w8 => (HF.out p.wd (HN8.out.tr p.since)).1.cell 1
            have fr10 := fun p : KeptW w8 => (HF.out p.wd (HN8.out.tr p.since)).1.cell 2
            have fr11 := fun p : KeptW w8 => (HF.out p.wd (HN8.out.tr p.since)).1.cell 3
            have fr12 := fun p : KeptW w8 => (HF.out p.wd (HN8.out.tr p.since)).2.1.cell 0
            have fr13 := fun p : KeptW w8 => (HF.out p.wd (HN8.out.tr p.since)).2.1.cell 1
            have fr14 := fun p : KeptW w8 => (HF.out p.wd (HN8.out.tr p.since)).2.1.cell 2
            have fr15 := fun p : KeptW w8 => (HF.out p.wd (HN8.out.tr p.since)).2.1.cell 3
            have fr16 := fun p : KeptW w8 => (HF.out p.wd (HN8.out.tr p.since)).2.2.cell 0
            have fr17 := fun p : KeptW w8 => (HF.out p.wd (HN8.out.tr p.since)).2.2.cell 1
            have fy0 := fr0 ⟨w8, Kp.refl _ _⟩
            have fy1 := fr1 ⟨w8, Kp.refl _ _⟩
            have fy2 := fr2 ⟨w8, Kp.refl _ _⟩
            have fy3 := fr3 ⟨w8, Kp.refl _ _⟩
            have fy4 := fr4 ⟨w8, Kp.refl _ _⟩
            have fy5 := fr5 ⟨w8, Kp.refl _ _⟩
            have fy6 := fr6 ⟨w8, Kp.refl _ _⟩
            have fy7 := fr7 ⟨w8, Kp.refl _ _⟩
            go_upto_region 19 with (first | (go_at_call 54; ((with_reducible refine (Calls.kept_first (dS _)).mono ?_); rintro e _ ⟨rfl, p, rfl⟩)) | fail)
            obtain ⟨g22, hg1⟩ : ∃ g, p.wd.heap.size = g := ⟨_, rfl⟩
            have hbb := Blk.new_at p.wd 48 #[.int .i64 y1, .int .i64 y2, .int .i64 y3, .int .i64 y4] hg1
            have hn1 := p.since.alloc (.cells #[.int .i64 y1, .int .i64 y2, .int .i64 y3, .int .i64 y4] 48)
            rw [hg1]
            generalize p.wd.alloc (.cells #[.int .i64 y1, .int .i64 y2, .int .i64 y3, .int .i64 y4] 48) = w9 at hbb hn1 ⊢
            clear hg1
            have HN9 := Lib.hid (HN8.out.tr hn1)
            have H22 := Lib.hid hbb
            have H20 := Lib.hid (H20.out.nw hn1)
            have H18 := Lib.hid (H18.out.nw hn1)
            have H19 := Lib.hid (H19.out.nw hn1)
            have HB1 := Lib.hid (HB1.out.nw hn1)
            have HB2 := Lib.hid (HB2.out.nw hn1)
            clear hbb hn1 dA dS fr0 fr1 fr2 fr3 fr4 fr5 fr6 fr7 fr8 fr9 fr10 fr11 fr12 fr13 fr14 fr15 fr16 fr17 fy0 fy1 fy2 fy3 fy4 fy5 fy6 fy7
            have fr0 := fun p : KeptW w9 => (H18.out.kept p).cell 0
            have fr1 := fun p : KeptW w9 => (H18.out.kept p).cell 1
            have fr2 := fun p : KeptW w9 => (H18.out.kept p).cell 2
            have fr3 := fun p : KeptW w9 => (H18.out.kept p).cell 3
            have fr4 := fun p : KeptW w9 => (H19.out.kept p).cell 0
            have fr5 := fun p : KeptW w9 => (H19.out.kept p).cell 1
            have fr6 := fun p : KeptW w9 => (H19.out.kept p).cell 2
            have fr7 := fun p : KeptW w9 => (H19.out.kept p).cell 3
            have fr8 := fun p : KeptW w9 => (HB1.out.kept p).cell 0
            have fr9 := fun p : KeptW w9 => (HB1.out.kept p).cell 1
            have fr10 := fun p : KeptW w9 => (HB1.out.kept p).cell 2
            have fr11 := fun p : KeptW w9 => (HB2.out.kept p).cell 0
            have fr12 := fun p : KeptW w9 => (HB2.out.kept p).cell 1
            have fr13 := fun p : KeptW w9 => (HB2.out.kept p).cell 2
            have fr14 := fun p : KeptW w9 => (HB2.out.kept p).cell 3
            have fr15 := fun p : KeptW w9 => (H20.out.kept p).cell 0
            have fr16 := fun p : KeptW w9 => (H20.out.kept p).cell 1
            have fr17 := fun p : KeptW w9 => (H20.out.kept p).cell 2
            have fr18 := fun p : KeptW w9 => (H22.out.kept p).cell 0
            have fr19 := fun p : KeptW w9 => (H22.out.kept p).cell 1
            have fr20 := fun p : KeptW w9 => (H22.out.kept p).cell 2
            have fr21 := fun p : KeptW w9 => (H22.out.kept p).cell 3
            have fr22 := fun p : KeptW w9 => (HF.out p.wd (HN9.out.tr p.since)).1.cell 0
            have fr23 := fun p : KeptW w9 => (HF.out p.wd (HN9.out.tr p.since)).1.cell 1
            have fr24 := fun p : KeptW w9 => (HF.out p.wd (HN9.out.tr p.since)).1.cell 2
            have fr25 := fun p : KeptW w9 => (HF.out p.wd (HN9.out.tr p.since)).1.cell 3
            have fr26 := fun p : KeptW w9 => (HF.out p.wd (HN9.out.tr p.since)).2.1.cell 0
            have fr27 := fun p : KeptW w9 => (HF.out p.wd (HN9.out.tr p.since)).2.1.cell 1
            have fr28 := fun p : KeptW w9 => (HF.out p.wd (HN9.out.tr p.since)).2.1.cell 2
            have fr29 := fun p : KeptW w9 => (HF.out p.wd (HN9.out.tr p.since)).2.1.cell 3
            have fr30 := fun p : KeptW w9 => (HF.out p.wd (HN9.out.tr p.since)).2.2.cell 0
            have fr31 := fun p : KeptW w9 => (HF.out p.wd (HN9.out.tr p.since)).2.2.cell 1
            refine wp_region_kept (Kp.refl _ _) (by assumption) (by kernel_rfl) ?_
            repeat (with_reducible refine wpQuiet_step (fun K hK => ?_); go_simp; first | ((with_reducible refine hK _ ?_); clear hK K) | (with_reducible apply Exists.intro; (with_reducible refine ⟨fun _ => ?_, hK _ ?_⟩); ((first | (go_at_call 58; with_reducible exact Calls.kept_of (dK _)) | (go_at_call 73; with_reducible exact Calls.kept_of (cm _)) | fail)); clear hK K) | (simp only [undef, reduceCtorEq, if_false]; (with_reducible refine hK _ ?_); clear hK K))
            with_reducible refine wpQuiet_nil ?_
            rintro _ ⟨p, rfl⟩
            go_wp2_with fail
            go_ret
            exact ⟨by simp, ((((nw_alloc _ _).alloc _).alloc _).tr HN9.out).tr p.since⟩
          · obtain rfl : true = ok := ho.1
            obtain rfl : false = is := ho.2
            obtain ⟨gd, ⟨b1, b2, b3, b4⟩, _, _⟩ := in_mid (m := 4000) (by omega) (by have h := hqb (Or.inl rfl); unfold validP at h; exact (Bool.and_eq_true_iff.1 h).1)
            have h3 := hm2 (Or.inl rfl)
            injection h3 with h4 h5
            injection h5 with h6 h7
            have k1 := mul_ten (v := vx) (d := q3) tx gd
            have k2 := mul_ten (v := vy) (d := q3) ty gd
            obtain ⟨p1, hp1⟩ : ∃ p, vx * q3 = p := ⟨_, rfl⟩
            obtain ⟨p2, hp2⟩ : ∃ p, vy * q3 = p := ⟨_, rfl⟩
            rw [hp1] at h4 k1
            rw [hp2] at h6 k2
            have d1 : IntKind.i64.wrap (vx * q3) = p1 := by rw [hp1]; exact wrap_mid (by omega)
            have d2 : IntKind.i64.wrap (vy * q3) = p2 := by rw [hp2]; exact wrap_mid (by omega)
            have d3 : IntKind.i64.wrap (q1 + p1) = r1 := by rw [h4]; exact wrap_mid (by omega)
            have d4 : IntKind.i64.wrap (q2 + p2) = r2 := by rw [h6]; exact wrap_mid (by omega)
            subst h7
            have hqp := fun w1 => eql_pt r1 r2 r3 r1 r2 r3 w1
            simp only [beq_self_eq_true, Bool.and_self] at hqp
            clear gd b1 b2 b3 b4 h4 h6 k1 k2 hp1 hp2 hm2 hm3 hqb hxb tx ty ho
            go_upto_region 18 with (first | (go_at_call 43; ((with_reducible refine (Calls.kept_first (c1 _)).mono ?_); rintro e _ ⟨rfl, p, rfl⟩)) | (go_at_call 56; ((with_reducible refine (Calls.kept_of (c2 _)).mono ?_); rintro e _ ⟨rfl, p, rfl⟩)) | (go_at_call 56; ((with_reducible refine (Calls.kept_of (c3 _)).mono ?_); rintro e _ ⟨rfl, p, rfl⟩)) | (go_at_call 56; ((with_reducible refine (Calls.kept_of (c4 _)).mono ?_); rintro e _ ⟨rfl, p, rfl⟩)) | (go_at_call 56; ((with_reducible refine (Calls.kept_of (c5 _)).mono ?_); rintro e _ ⟨rfl, p, rfl⟩)) | (go_at_call 52; ((with_reducible refine (Calls.kept_of (dA _)).mono ?_); rintro e _ ⟨rfl, p, rfl⟩)) | fail)
            obtain ⟨g20, hg1⟩ : ∃ g, p.wd.heap.size = g := ⟨_, rfl⟩
            have hbb := Blk.new_at p.wd 50 #[.int .i64 r1, .int .i64 r2, .int .i64 r3] hg1
            have hn1 := p.since.alloc (.cells #[.int .i64 r1, .int .i64 r2, .int .i64 r3] 50)
            rw [hg1]
            generalize p.wd.alloc (.cells #[.int .i64 r1, .int .i64 r2, .int .i64 r3] 50) = w8 at hbb hn1 ⊢
            clear hg1
            have HN8 := Lib.hid (HN5.out.tr hn1)
            have H20 := Lib.hid hbb
            have H18 := Lib.hid (H18.out.nw hn1)
            have H19 := Lib.hid (H19.out.nw hn1)
            have HB1 := Lib.hid (HB1.out.nw hn1)
            have HB2 := Lib.hid (HB2.out.nw hn1)
            clear hbb hn1 c1 c2 c3 c4 c5 fq0 fz0 fq1 fz1 fq2 fz2 fq3 fz3 fq4 fz4 fq5 fz5 fq6 fz6 fq7 fz7 fq8 fz8 fq9 fz9 fq10 fz10 fq11 fz11 fq12 fz12 fq13 fz13 fq14 fz14 fq15 fz15 fq16 fz16 fq17 fz17 fq18 fz18 fq19 fz19 fq20 fz20 fq21 fz21 fq22 fz22 fq23 fz23 fq24 fz24
            have fr0 := fun p : KeptW w8 => (H18.out.kept p).cell 0
            have fr1 := fun p : KeptW w8 => (H18.out.kept p).cell 1
            have fr2 := fun p : KeptW w8 => (H18.out.kept p).cell 2
            have fr3 := fun p : KeptW w8 => (H18.out.kept p).cell 3
            have fr4 := fun p : KeptW w8 => (H19.out.kept p).cell 0
            have fr5 := fun p : KeptW w8 => (H19.out.kept p).cell 1
            have fr6 := fun p : KeptW w8 => (H19.out.kept p).cell 2
            have fr7 := fun p : KeptW w8 => (H19.out.kept p).cell 3
            have fr8 := fun p : KeptW w8 => (HF.out p.wd (HN8.out.tr p.since)).1.cell 0
            have fr9 := fun p : KeptW w8 => (HF.out p.wd (HN8.out.tr p.since)).1.cell 1
            have fr10 := fun p : KeptW w8 => (HF.out p.wd (HN8.out.tr p.since)).1.cell 2
            have fr11 := fun p : KeptW w8 => (HF.out p.wd (HN8.out.tr p.since)).1.cell 3
            have fr12 := fun p : KeptW w8 => (HF.out p.wd (HN8.out.tr p.since)).2.1.cell 0
            have fr13 := fun p : KeptW w8 => (HF.out p.wd (HN8.out.tr p.since)).2.1.cell 1
            have fr14 := fun p : KeptW w8 => (HF.out p.wd (HN8.out.tr p.since)).2.1.cell 2
            have fr15 := fun p : KeptW w8 => (HF.out p.wd (HN8.out.tr p.since)).2.1.cell 3
            have fr16 := fun p : KeptW w8 => (HF.out p.wd (HN8.out.tr p.since)).2.2.cell 0
            have fr17 := fun p : KeptW w8 => (HF.out p.wd (HN8.out.tr p.since)).2.2.cell 1
            have fy0 := fr0 ⟨w8, Kp.refl _ _⟩
            have fy1 := fr1 ⟨w8, Kp.refl _ _⟩
            have fy2 := fr2 ⟨w8, Kp.refl _ _⟩
            have fy3 := fr3 ⟨w8, Kp.refl _ _⟩
            have fy4 := fr4 ⟨w8, Kp.refl _ _⟩
            have fy5 := fr5 ⟨w8, Kp.refl _ _⟩
            have fy6 := fr6 ⟨w8, Kp.refl _ _⟩
            have fy7 := fr7 ⟨w8, Kp.refl _ _⟩
            go_upto_region 19 with (first | (go_at_call 54; ((with_reducible refine (Calls.kept_first (dS _)).mono ?_); rintro e _ ⟨rfl, p, rfl⟩)) | fail)
            obtain ⟨g22, hg1⟩ : ∃ g, p.wd.heap.size = g := ⟨_, rfl⟩
            have hbb := Blk.new_at p.wd 48 #[.int .i64 y1, .int .i64 y2, .int .i64 y3, .int .i64 y4] hg1
            have hn1 := p.since.alloc (.cells #[.int .i64 y1, .int .i64 y2, .int .i64 y3, .int .i64 y4] 48)
            rw [hg1]
            generalize p.wd.alloc (.cells #[.int .i64 y1, .int .i64 y2, .int .i64 y3, .int .i64 y4] 48) = w9 at hbb hn1 ⊢
            clear hg1
            have HN9 := Lib.hid (HN8.out.tr hn1)
            have H22 := Lib.hid hbb
            have H20 := Lib.hid (H20.out.nw hn1)
            have H18 := Lib.hid (H18.out.nw hn1)
            have H19 := Lib.hid (H19.out.nw hn1)
            have HB1 := Lib.hid (HB1.out.nw hn1)
            have HB2 := Lib.hid (HB2.out.nw hn1)
            clear hbb hn1 dA dS fr0 fr1 fr2 fr3 fr4 fr5 fr6 fr7 fr8 fr9 fr10 fr11 fr12 fr13 fr14 fr15 fr16 fr17 fy0 fy1 fy2 fy3 fy4 fy5 fy6 fy7
            have fr0 := fun p : KeptW w9 => (H18.out.kept p).cell 0
            have fr1 := fun p : KeptW w9 => (H18.out.kept p).cell 1
            have fr2 := fun p : KeptW w9 => (H18.out.kept p).cell 2
            have fr3 := fun p : KeptW w9 => (H18.out.kept p).cell 3
            have fr4 := fun p : KeptW w9 => (H19.out.kept p).cell 0
            have fr5 := fun p : KeptW w9 => (H19.out.kept p).cell 1
            have fr6 := fun p : KeptW w9 => (H19.out.kept p).cell 2
            have fr7 := fun p : KeptW w9 => (H19.out.kept p).cell 3
            have fr8 := fun p : KeptW w9 => (HB1.out.kept p).cell 0
            have fr9 := fun p : KeptW w9 => (HB1.out.kept p).cell 1
            have fr10 := fun p : KeptW w9 => (HB1.out.kept p).cell 2
            have fr11 := fun p : KeptW w9 => (HB2.out.kept p).cell 0
            have fr12 := fun p : KeptW w9 => (HB2.out.kept p).cell 1
            have fr13 := fun p : KeptW w9 => (HB2.out.kept p).cell 2
            have fr14 := fun p : KeptW w9 => (HB2.out.kept p).cell 3
            have fr15 := fun p : KeptW w9 => (H20.out.kept p).cell 0
            have fr16 := fun p : KeptW w9 => (H20.out.kept p).cell 1
            have fr17 := fun p : KeptW w9 => (H20.out.kept p).cell 2
            have fr18 := fun p : KeptW w9 => (H22.out.kept p).cell 0
            have fr19 := fun p : KeptW w9 => (H22.out.kept p).cell 1
            have fr20 := fun p : KeptW w9 => (H22.out.kept p).cell 2
            have fr21 := fun p : KeptW w9 => (H22.out.kept p).cell 3
            have fr22 := fun p : KeptW w9 => (HF.out p.wd (HN9.out.tr p.since)).1.cell 0
            have fr23 := fun p : KeptW w9 => (HF.out p.wd (HN9.out.tr p.since)).1.cell 1
            have fr24 := fun p : KeptW w9 => (HF.out p.wd (HN9.out.tr p.since)).1.cell 2
            have fr25 := fun p : KeptW w9 => (HF.out p.wd (HN9.out.tr p.since)).1.cell 3
            have fr26 := fun p : KeptW w9 => (HF.out p.wd (HN9.out.tr p.since)).2.1.cell 0
            have fr27 := fun p : KeptW w9 => (HF.out p.wd (HN9.out.tr p.since)).2.1.cell 1
            have fr28 := fun p : KeptW w9 => (HF.out p.wd (HN9.out.tr p.since)).2.1.cell 2
            have fr29 := fun p : KeptW w9 => (HF.out p.wd (HN9.out.tr p.since)).2.1.cell 3
            have fr30 := fun p : KeptW w9 => (HF.out p.wd (HN9.out.tr p.since)).2.2.cell 0
            have fr31 := fun p : KeptW w9 => (HF.out p.wd (HN9.out.tr p.since)).2.2.cell 1
            refine wp_region_kept (Kp.refl _ _) (by assumption) (by kernel_rfl) ?_
            repeat (with_reducible refine wpQuiet_step (fun K hK => ?_); go_simp; first | ((with_reducible refine hK _ ?_); clear hK K) | (with_reducible apply Exists.intro; (with_reducible refine ⟨fun _ => ?_, hK _ ?_⟩); ((first | (go_at_call 58; with_reducible exact Calls.kept_of (dK _)) | (go_at_call 73; with_reducible exact Calls.kept_of (cm _)) | fail)); clear hK K) | (simp only [undef, reduceCtorEq, if_false]; (with_reducible refine hK _ ?_); clear hK K))
            with_reducible refine wpQuiet_nil ?_
            rintro _ ⟨p, rfl⟩
            go_wp2_with fail
            go_ret
            exact ⟨by simp, ((((nw_alloc _ _).alloc _).alloc _).tr HN9.out).tr p.since⟩
          · obtain rfl : true = ok := ho.1
            obtain rfl : false = is := ho.2
            obtain ⟨gd, ⟨b1, b2, b3, b4⟩, _, _⟩ := in_mid (m := 4000) (by omega) (by have h := hqb (Or.inr rfl); unfold validP at h; exact (Bool.and_eq_true_iff.1 h).1)
            have h3 := hm2 (Or.inr rfl)
            injection h3 with h4 h5
            injection h5 with h6 h7
            have k1 := mul_ten (v := vx) (d := q3) tx gd
            have k2 := mul_ten (v := vy) (d := q3) ty gd
            obtain ⟨p1, hp1⟩ : ∃ p, vx * q3 = p := ⟨_, rfl⟩
            obtain ⟨p2, hp2⟩ : ∃ p, vy * q3 = p := ⟨_, rfl⟩
            rw [hp1] at h4 k1
            rw [hp2] at h6 k2
            have d1 : IntKind.i64.wrap (vx * q3) = p1 := by rw [hp1]; exact wrap_mid (by omega)
            have d2 : IntKind.i64.wrap (vy * q3) = p2 := by rw [hp2]; exact wrap_mid (by omega)
            have d3 : IntKind.i64.wrap (q1 + p1) = r1 := by rw [h4]; exact wrap_mid (by omega)
            have d4 : IntKind.i64.wrap (q2 + p2) = r2 := by rw [h6]; exact wrap_mid (by omega)
            subst h7
            have hqp := fun w1 => eql_pt r1 r2 r3 r1 r2 r3 w1
            simp only [beq_self_eq_true, Bool.and_self] at hqp
            clear gd b1 b2 b3 b4 h4 h6 k1 k2 hp1 hp2 hm2 hm3 hqb hxb tx ty ho
            go_upto_region 18 with (first | (go_at_call 43; ((with_reducible refine (Calls.kept_first (c1 _)).mono ?_); rintro e _ ⟨rfl, p, rfl⟩)) | (go_at_call 56; ((with_reducible refine (Calls.kept_of (c2 _)).mono ?_); rintro e _ ⟨rfl, p, rfl⟩)) | (go_at_call 56; ((with_reducible refine (Calls.kept_of (c3 _)).mono ?_); rintro e _ ⟨rfl, p, rfl⟩)) | (go_at_call 56; ((with_reducible refine (Calls.kept_of (c4 _)).mono ?_); rintro e _ ⟨rfl, p, rfl⟩)) | (go_at_call 56; ((with_reducible refine (Calls.kept_of (c5 _)).mono ?_); rintro e _ ⟨rfl, p, rfl⟩)) | (go_at_call 52; ((with_reducible refine (Calls.kept_of (dA _)).mono ?_); rintro e _ ⟨rfl, p, rfl⟩)) | fail)
            obtain ⟨g20, hg1⟩ : ∃ g, p.wd.heap.size = g := ⟨_, rfl⟩
            have hbb := Blk.new_at p.wd 50 #[.int .i64 r1, .int .i64 r2, .int .i64 r3] hg1
            have hn1 := p.since.alloc (.cells #[.int .i64 r1, .int .i64 r2, .int .i64 r3] 50)
            rw [hg1]
            generalize p.wd.alloc (.cells #[.int .i64 r1, .int .i64 r2, .int .i64 r3] 50) = w8 at hbb hn1 ⊢
            clear hg1
            have HN8 := Lib.hid (HN5.out.tr hn1)
            have H20 := Lib.hid hbb
            have H18 := Lib.hid (H18.out.nw hn1)
            have H19 := Lib.hid (H19.out.nw hn1)
            have HB1 := Lib.hid (HB1.out.nw hn1)
            have HB2 := Lib.hid (HB2.out.nw hn1)
            clear hbb hn1 c1 c2 c3 c4 c5 fq0 fz0 fq1 fz1 fq2 fz2 fq3 fz3 fq4 fz4 fq5 fz5 fq6 fz6 fq7 fz7 fq8 fz8 fq9 fz9 fq10 fz10 fq11 fz11 fq12 fz12 fq13 fz13 fq14 fz14 fq15 fz15 fq16 fz16 fq17 fz17 fq18 fz18 fq19 fz19 fq20 fz20 fq21 fz21 fq22 fz22 fq23 fz23 fq24 fz24
            have fr0 := fun p : KeptW w8 => (H18.out.kept p).cell 0
            have fr1 := fun p : KeptW w8 => (H18.out.kept p).cell 1
            have fr2 := fun p : KeptW w8 => (H18.out.kept p).cell 2
            have fr3 := fun p : KeptW w8 => (H18.out.kept p).cell 3
            have fr4 := fun p : KeptW w8 => (H19.out.kept p).cell 0
            have fr5 := fun p : KeptW w8 => (H19.out.kept p).cell 1
            have fr6 := fun p : KeptW w8 => (H19.out.kept p).cell 2
            have fr7 := fun p : KeptW w8 => (H19.out.kept p).cell 3
            have fr8 := fun p : KeptW w8 => (HF.out p.wd (HN8.out.tr p.since)).1.cell 0
            have fr9 := fun p : KeptW w8 => (HF.out p.wd (HN8.out.tr p.since)).1.cell 1
            have fr10 := fun p : KeptW w8 => (HF.out p.wd (HN8.out.tr p.since)).1.cell 2
            have fr11 := fun p : KeptW w8 => (HF.out p.wd (HN8.out.tr p.since)).1.cell 3
            have fr12 := fun p : KeptW w8 => (HF.out p.wd (HN8.out.tr p.since)).2.1.cell 0
            have fr13 := fun p : KeptW w8 => (HF.out p.wd (HN8.out.tr p.since)).2.1.cell 1
            have fr14 := fun p : KeptW w8 => (HF.out p.wd (HN8.out.tr p.since)).2.1.cell 2
            have fr15 := fun p : KeptW w8 => (HF.out p.wd (HN8.out.tr p.since)).2.1.cell 3
            have fr16 := fun p : KeptW w8 => (HF.out p.wd (HN8.out.tr p.since)).2.2.cell 0
            have fr17 := fun p : KeptW w8 => (HF.out p.wd (HN8.out.tr p.since)).2.2.cell 1
            have fy0 := fr0 ⟨w8, Kp.refl _ _⟩
            have fy1 := fr1 ⟨w8, Kp.refl _ _⟩
            have fy2 := fr2 ⟨w8, Kp.refl _ _⟩
            have fy3 := fr3 ⟨w8, Kp.refl _ _⟩
            have fy4 := fr4 ⟨w8, Kp.refl _ _⟩
            have fy5 := fr5 ⟨w8, Kp.refl _ _⟩
            have fy6 := fr6 ⟨w8, Kp.refl _ _⟩
            have fy7 := fr7 ⟨w8, Kp.refl _ _⟩
            go_upto_region 19 with (first | (go_at_call 54; ((with_reducible refine (Calls.kept_first (dS _)).mono ?_); rintro e _ ⟨rfl, p, rfl⟩)) | fail)
            obtain ⟨g22, hg1⟩ : ∃ g, p.wd.heap.size = g := ⟨_, rfl⟩
            have hbb := Blk.new_at p.wd 48 #[.int .i64 y1, .int .i64 y2, .int .i64 y3, .int .i64 y4] hg1
            have hn1 := p.since.alloc (.cells #[.int .i64 y1, .int .i64 y2, .int .i64 y3, .int .i64 y4] 48)
            rw [hg1]
            generalize p.wd.alloc (.cells #[.int .i64 y1, .int .i64 y2, .int .i64 y3, .int .i64 y4] 48) = w9 at hbb hn1 ⊢
            clear hg1
            have HN9 := Lib.hid (HN8.out.tr hn1)
            have H22 := Lib.hid hbb
            have H20 := Lib.hid (H20.out.nw hn1)
            have H18 := Lib.hid (H18.out.nw hn1)
            have H19 := Lib.hid (H19.out.nw hn1)
            have HB1 := Lib.hid (HB1.out.nw hn1)
            have HB2 := Lib.hid (HB2.out.nw hn1)
            clear hbb hn1 dA dS fr0 fr1 fr2 fr3 fr4 fr5 fr6 fr7 fr8 fr9 fr10 fr11 fr12 fr13 fr14 fr15 fr16 fr17 fy0 fy1 fy2 fy3 fy4 fy5 fy6 fy7
            have fr0 := fun p : KeptW w9 => (H18.out.kept p).cell 0
            have fr1 := fun p : KeptW w9 => (H18.out.kept p).cell 1
            have fr2 := fun p : KeptW w9 => (H18.out.kept p).cell 2
            have fr3 := fun p : KeptW w9 => (H18.out.kept p).cell 3
            have fr4 := fun p : KeptW w9 => (H19.out.kept p).cell 0
            have fr5 := fun p : KeptW w9 => (H19.out.kept p).cell 1
            have fr6 := fun p : KeptW w9 => (H19.out.kept p).cell 2
            have fr7 := fun p : KeptW w9 => (H19.out.kept p).cell 3
            have fr8 := fun p : KeptW w9 => (HB1.out.kept p).cell 0
            have fr9 := fun p : KeptW w9 => (HB1.out.kept p).cell 1
            have fr10 := fun p : KeptW w9 => (HB1.out.kept p).cell 2
            have fr11 := fun p : KeptW w9 => (HB2.out.kept p).cell 0
            have fr12 := fun p : KeptW w9 => (HB2.out.kept p).cell 1
            have fr13 := fun p : KeptW w9 => (HB2.out.kept p).cell 2
            have fr14 := fun p : KeptW w9 => (HB2.out.kept p).cell 3
            have fr15 := fun p : KeptW w9 => (H20.out.kept p).cell 0
            have fr16 := fun p : KeptW w9 => (H20.out.kept p).cell 1
            have fr17 := fun p : KeptW w9 => (H20.out.kept p).cell 2
            have fr18 := fun p : KeptW w9 => (H22.out.kept p).cell 0
            have fr19 := fun p : KeptW w9 => (H22.out.kept p).cell 1
            have fr20 := fun p : KeptW w9 => (H22.out.kept p).cell 2
            have fr21 := fun p : KeptW w9 => (H22.out.kept p).cell 3
            have fr22 := fun p : KeptW w9 => (HF.out p.wd (HN9.out.tr p.since)).1.cell 0
            have fr23 := fun p : KeptW w9 => (HF.out p.wd (HN9.out.tr p.since)).1.cell 1
            have fr24 := fun p : KeptW w9 => (HF.out p.wd (HN9.out.tr p.since)).1.cell 2
            have fr25 := fun p : KeptW w9 => (HF.out p.wd (HN9.out.tr p.since)).1.cell 3
            have fr26 := fun p : KeptW w9 => (HF.out p.wd (HN9.out.tr p.since)).2.1.cell 0
            have fr27 := fun p : KeptW w9 => (HF.out p.wd (HN9.out.tr p.since)).2.1.cell 1
            have fr28 := fun p : KeptW w9 => (HF.out p.wd (HN9.out.tr p.since)).2.1.cell 2
            have fr29 := fun p : KeptW w9 => (HF.out p.wd (HN9.out.tr p.since)).2.1.cell 3
            have fr30 := fun p : KeptW w9 => (HF.out p.wd (HN9.out.tr p.since)).2.2.cell 0
            have fr31 := fun p : KeptW w9 => (HF.out p.wd (HN9.out.tr p.since)).2.2.cell 1
            refine wp_region_kept (Kp.refl _ _) (by assumption) (by kernel_rfl) ?_
            repeat (with_reducible refine wpQuiet_step (fun K hK => ?_); go_simp; first | ((with_reducible refine hK _ ?_); clear hK K) | (with_reducible apply Exists.intro; (with_reducible refine ⟨fun _ => ?_, hK _ ?_⟩); ((first | (go_at_call 58; with_reducible exact Calls.kept_of (dK _)) | (go_at_call 73; with_reducible exact Calls.kept_of (cm _)) | fail)); clear hK K) | (simp only [undef, reduceCtorEq, if_false]; (with_reducible refine hK _ ?_); clear hK K))
            with_reducible refine wpQuiet_nil ?_
            rintro _ ⟨p, rfl⟩
            go_wp2_with fail
            go_ret
            exact ⟨by simp, ((((nw_alloc _ _).alloc _).alloc _).tr HN9.out).tr p.since⟩
          · obtain rfl : false = ok := ho.1
            obtain rfl : true = is := ho.2
            obtain ⟨⟨b1, b2, b3, b4⟩, ⟨b5, b6, b7, b8⟩⟩ := hxb rfl
            have h3 := hm3 rfl
            unfold mv at h3
            injection h3 with h4 h5
            injection h4 with h6 h7
            injection h5 with h8 h9
            rw [mv_small ⟨b1, b2⟩ tx, mv_small ⟨b3, b4⟩ ty, mv_small ⟨b5, b6⟩ tx, mv_small ⟨b7, b8⟩ ty, ← h6, ← h7, ← h8, ← h9] at cm
            have hqs := fun w1 => eql_seg y1 y2 y3 y4 y1 y2 y3 y4 w1
            simp only [beq_self_eq_true, Bool.and_self] at hqs
            clear b1 b2 b3 b4 b5 b6 b7 b8 h6 h7 h8 h9 hm2 hm3 hqb hxb tx ty ho
            go_upto_region 18 with (first | (go_at_call 43; ((with_reducible refine (Calls.kept_first (c1 _)).mono ?_); rintro e _ ⟨rfl, p, rfl⟩)) | (go_at_call 56; ((with_reducible refine (Calls.kept_of (c2 _)).mono ?_); rintro e _ ⟨rfl, p, rfl⟩)) | (go_at_call 56; ((with_reducible refine (Calls.kept_of (c3 _)).mono ?_); rintro e _ ⟨rfl, p, rfl⟩)) | (go_at_call 56; ((with_reducible refine (Calls.kept_of (c4 _)).mono ?_); rintro e _ ⟨rfl, p, rfl⟩)) | (go_at_call 56; ((with_reducible refine (Calls.kept_of (c5 _)).mono ?_); rintro e _ ⟨rfl, p, rfl⟩)) | (go_at_call 52; ((with_reducible refine (Calls.kept_of (dA _)).mono ?_); rintro e _ ⟨rfl, p, rfl⟩)) | fail)
            obtain ⟨g20, hg1⟩ : ∃ g, p.wd.heap.size = g := ⟨_, rfl⟩
            have hbb := Blk.new_at p.wd 50 #[.int .i64 r1, .int .i64 r2, .int .i64 r3] hg1
            have hn1 := p.since.alloc (.cells #[.int .i64 r1, .int .i64 r2, .int .i64 r3] 50)
            rw [hg1]
            generalize p.wd.alloc (.cells #[.int .i64 r1, .int .i64 r2, .int .i64 r3] 50) = w8 at hbb hn1 ⊢
            clear hg1
            have HN8 := Lib.hid (HN5.out.tr hn1)
            have H20 := Lib.hid hbb
            have H18 := Lib.hid (H18.out.nw hn1)
            have H19 := Lib.hid (H19.out.nw hn1)
            have HB1 := Lib.hid (HB1.out.nw hn1)
            have HB2 := Lib.hid (HB2.out.nw hn1)
            clear hbb hn1 c1 c2 c3 c4 c5 fq0 fz0 fq1 fz1 fq2 fz2 fq3 fz3 fq4 fz4 fq5 fz5 fq6 fz6 fq7 fz7 fq8 fz8 fq9 fz9 fq10 fz10 fq11 fz11 fq12 fz12 fq13 fz13 fq14 fz14 fq15 fz15 fq16 fz16 fq17 fz17 fq18 fz18 fq19 fz19 fq20 fz20 fq21 fz21 fq22 fz22 fq23 fz23 fq24 fz24
            have fr0 := fun p : KeptW w8 => (H18.out.kept p).cell 0
            have fr1 := fun p : KeptW w8 => (H18.out.kept p).cell 1
            have fr2 := fun p : KeptW w8 => (H18.out.kept p).cell 2
            have fr3 := fun p : KeptW w8 => (H18.out.kept p).cell 3
            have fr4 := fun p : KeptW w8 => (H19.out.kept p).cell 0
            have fr5 := fun p : KeptW w8 => (H19.out.kept p).cell 1
            have fr6 := fun p : KeptW w8 => (H19.out.kept p).cell 2
            have fr7 := fun p : KeptW w8 => (H19.out.kept p).cell 3
            have fr8 := fun p : KeptW w8 => (HF.out p.wd (HN8.out.tr p.since)).1.cell 0
            have fr9 := fun p : KeptW w8 => (HF.out p.wd (HN8.out.tr p.since)).1.cell 1
            have fr10 := fun p : KeptW w8 => (HF.out p.wd (HN8.out.tr p.since)).1.cell 2
            have fr11 := fun p : KeptW w8 => (HF.out p.wd (HN8.out.tr p.since)).1.cell 3
            have fr12 := fun p : KeptW w8 => (HF.out p.wd (HN8.out.tr p.since)).2.1.cell 0
            have fr13 := fun p : KeptW w8 => (HF.out p.wd (HN8.out.tr p.since)).2.1.cell 1
            have fr14 := fun p : KeptW w8 => (HF.out p.wd (HN8.out.tr p.since)).2.1.cell 2
            have fr15 := fun p : KeptW w8 => (HF.out p.wd (HN8.out.tr p.since)).2.1.cell 3
            have fr16 := fun p : KeptW w8 => (HF.out p.wd (HN8.out.tr p.since)).2.2.cell 0
            have fr17 := fun p : KeptW w8 => (HF.out p.wd (HN8.out.tr p.since)).2.2.cell 1
            have fy0 := fr0 ⟨w8, Kp.refl _ _⟩
            have fy1 := fr1 ⟨w8, Kp.refl _ _⟩
            have fy2 := fr2 ⟨w8, Kp.refl _ _⟩
            have fy3 := fr3 ⟨w8, Kp.refl _ _⟩
            have fy4 := fr4 ⟨w8, Kp.refl _ _⟩
            have fy5 := fr5 ⟨w8, Kp.refl _ _⟩
            have fy6 := fr6 ⟨w8, Kp.refl _ _⟩
            have fy7 := fr7 ⟨w8, Kp.refl _ _⟩
            go_upto_region 19 with (first | (go_at_call 54; ((with_reducible refine (Calls.kept_first (dS _)).mono ?_); rintro e _ ⟨rfl, p, rfl⟩)) | fail)
            obtain ⟨g22, hg1⟩ : ∃ g, p.wd.heap.size = g := ⟨_, rfl⟩
            have hbb := Blk.new_at p.wd 48 #[.int .i64 y1, .int .i64 y2, .int .i64 y3, .int .i64 y4] hg1
            have hn1 := p.since.alloc (.cells #[.int .i64 y1, .int .i64 y2, .int .i64 y3, .int .i64 y4] 48)
            rw [hg1]
            generalize p.wd.alloc (.cells #[.int .i64 y1, .int .i64 y2, .int .i64 y3, .int .i64 y4] 48) = w9 at hbb hn1 ⊢
            clear hg1
            have HN9 := Lib.hid (HN8.out.tr hn1)
            have H22 := Lib.hid hbb
            have H20 := Lib.hid (H20.out.nw hn1)
            have H18 := Lib.hid (H18.out.nw hn1)
            have H19 := Lib.hid (H19.out.nw hn1)
            have HB1 := Lib.hid (HB1.out.nw hn1)
            have HB2 := Lib.hid (HB2.out.nw hn1)
            clear hbb hn1 dA dS fr0 fr1 fr2 fr3 fr4 fr5 fr6 fr7 fr8 fr9 fr10 fr11 fr12 fr13 fr14 fr15 fr16 fr17 fy0 fy1 fy2 fy3 fy4 fy5 fy6 fy7
            have fr0 := fun p : KeptW w9 => (H18.out.kept p).cell 0
            have fr1 := fun p : KeptW w9 => (H18.out.kept p).cell 1
            have fr2 := fun p : KeptW w9 => (H18.out.kept p).cell 2
            have fr3 := fun p : KeptW w9 => (H18.out.kept p).cell 3
            have fr4 := fun p : KeptW w9 => (H19.out.kept p).cell 0
            have fr5 := fun p : KeptW w9 => (H19.out.kept p).cell 1
            have fr6 := fun p : KeptW w9 => (H19.out.kept p).cell 2
            have fr7 := fun p : KeptW w9 => (H19.out.kept p).cell 3
            have fr8 := fun p : KeptW w9 => (HB1.out.kept p).cell 0
            have fr9 := fun p : KeptW w9 => (HB1.out.kept p).cell 1
            have fr10 := fun p : KeptW w9 => (HB1.out.kept p).cell 2
            have fr11 := fun p : KeptW w9 => (HB2.out.kept p).cell 0
            have fr12 := fun p : KeptW w9 => (HB2.out.kept p).cell 1
            have fr13 := fun p : KeptW w9 => (HB2.out.kept p).cell 2
            have fr14 := fun p : KeptW w9 => (HB2.out.kept p).cell 3
            have fr15 := fun p : KeptW w9 => (H20.out.kept p).cell 0
            have fr16 := fun p : KeptW w9 => (H20.out.kept p).cell 1
            have fr17 := fun p : KeptW w9 => (H20.out.kept p).cell 2
            have fr18 := fun p : KeptW w9 => (H22.out.kept p).cell 0
            have fr19 := fun p : KeptW w9 => (H22.out.kept p).cell 1
            have fr20 := fun p : KeptW w9 => (H22.out.kept p).cell 2
            have fr21 := fun p : KeptW w9 => (H22.out.kept p).cell 3
            have fr22 := fun p : KeptW w9 => (HF.out p.wd (HN9.out.tr p.since)).1.cell 0
            have fr23 := fun p : KeptW w9 => (HF.out p.wd (HN9.out.tr p.since)).1.cell 1
            have fr24 := fun p : KeptW w9 => (HF.out p.wd (HN9.out.tr p.since)).1.cell 2
            have fr25 := fun p : KeptW w9 => (HF.out p.wd (HN9.out.tr p.since)).1.cell 3
            have fr26 := fun p : KeptW w9 => (HF.out p.wd (HN9.out.tr p.since)).2.1.cell 0
            have fr27 := fun p : KeptW w9 => (HF.out p.wd (HN9.out.tr p.since)).2.1.cell 1
            have fr28 := fun p : KeptW w9 => (HF.out p.wd (HN9.out.tr p.since)).2.1.cell 2
            have fr29 := fun p : KeptW w9 => (HF.out p.wd (HN9.out.tr p.since)).2.1.cell 3
            have fr30 := fun p : KeptW w9 => (HF.out p.wd (HN9.out.tr p.since)).2.2.cell 0
            have fr31 := fun p : KeptW w9 => (HF.out p.wd (HN9.out.tr p.since)).2.2.cell 1
            refine wp_region_kept (Kp.refl _ _) (by assumption) (by kernel_rfl) ?_
            repeat (with_reducible refine wpQuiet_step (fun K hK => ?_); go_simp; first | ((with_reducible refine hK _ ?_); clear hK K) | (with_reducible apply Exists.intro; (with_reducible refine ⟨fun _ => ?_, hK _ ?_⟩); ((first | (go_at_call 58; with_reducible exact Calls.kept_of (dK _)) | (go_at_call 73; with_reducible exact Calls.kept_of (cm _)) | fail)); clear hK K) | (simp only [undef, reduceCtorEq, if_false]; (with_reducible refine hK _ ?_); clear hK K))
            with_reducible refine wpQuiet_nil ?_
            rintro _ ⟨p, rfl⟩
            go_wp2_with fail
            go_ret
            exact ⟨by simp, ((((nw_alloc _ _).alloc _).alloc _).tr HN9.out).tr p.since⟩
end Go.Proofs.Ytahamffngmdjfaa.W
