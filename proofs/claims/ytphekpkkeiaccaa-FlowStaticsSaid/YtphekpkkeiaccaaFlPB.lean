/-
  What lies where in Predict: the parameters, the header, the answer.
-/
import Derived.Test.YtphekpkkeiaccaaFlFns
import Derived.Test.YtphekpkkeiaccaaPkFns
import Derived.Deep.DeepCutAuto
namespace Go.Proofs.Ytphekpkkeiaccaa
open Go Go.RowKit

/-- dynamic parameters, a header and another one in three blocks -/
structure PB (W : World) (k : Nat) (s f : Int) (h x : Hd) : Prop where
  d : W.heap[k]? = some (.cells #[.int .i64 s, .int .i64 f] 26 (0, 0))
  h : W.heap[k + 1]? = some (.cells #[.int .i64 h.kind, .int .i64 h.tos, .int .i64 h.id, .int .i64 h.fixed, .int .i64 h.ttl, .int .i64 h.frm, .int .i64 h.to, .int .i64 h.fromPort, .int .i64 h.toPort, .int .i64 h.check, .int .i64 h.marker, .int .i64 h.type, .int .i64 h.seq, .int .i64 h.time, .int .i64 h.source] 23 (0, 0))
  z : W.heap[k + 1 + 1]? = some (.cells #[.int .i64 x.kind, .int .i64 x.tos, .int .i64 x.id, .int .i64 x.fixed, .int .i64 x.ttl, .int .i64 x.frm, .int .i64 x.to, .int .i64 x.fromPort, .int .i64 x.toPort, .int .i64 x.check, .int .i64 x.marker, .int .i64 x.type, .int .i64 x.seq, .int .i64 x.time, .int .i64 x.source] 23 (0, 0))
theorem PB.below {w w' : World} {k : Nat} {s f : Int} {h x : Hd} (p : PB w k s f h x) (hb : Below w.heap.size w w') : PB w' k s f h x :=
  ⟨(hb.block _ (lt_of_block p.d)).trans p.d, (hb.block _ (lt_of_block p.h)).trans p.h, (hb.block _ (lt_of_block p.z)).trans p.z⟩
theorem PB.alloc {w : World} {k : Nat} {s f : Int} {h x : Hd} (p : PB w k s f h x) (o : Obj) : PB (w.alloc o) k s f h x := p.below ((Below.refl _ _).alloc (Nat.le_refl _) o)
theorem PB.set {w : World} {k : Nat} {s f : Int} {h x : Hd} (p : PB w k s f h x) (b : Nat) (hb : k + 1 + 1 < b) (i : Nat) (u : Value) : PB (w.setCell ⟨b, i, none⟩ u) k s f h x :=
  ⟨blk_set_ne p.d (by omega) i u, blk_set_ne p.h (by omega) i u, blk_set_ne p.z (by omega) i u⟩
theorem PB.laid (w : World) (s f : Int) (h : Hd) : PB (((w.alloc (.cells #[.int .i64 s, .int .i64 f] 26)).alloc (.cells #[.int .i64 h.kind, .int .i64 h.tos, .int .i64 h.id, .int .i64 h.fixed, .int .i64 h.ttl, .int .i64 h.frm, .int .i64 h.to, .int .i64 h.fromPort, .int .i64 h.toPort, .int .i64 h.check, .int .i64 h.marker, .int .i64 h.type, .int .i64 h.seq, .int .i64 h.time, .int .i64 h.source] 23)).alloc (.cells #[.int .i64 0, .int .i64 0, .int .i64 0, .int .i64 0, .int .i64 0, .int .i64 0, .int .i64 0, .int .i64 0, .int .i64 0, .int .i64 0, .int .i64 0, .int .i64 0, .int .i64 0, .int .i64 0, .int .i64 0] 23)) w.heap.size s f h ⟨0, 0, 0, 0, 0, 0, 0, 0, 0, 0, 0, 0, 0, 0, 0⟩ := by
  refine ⟨?_, ?_, ?_⟩
  · exact (heap_alloc_old _ _ (by simp; omega)).trans ((heap_alloc_old _ _ (by simp)).trans (heap_alloc_new w _))
  · have q := heap_alloc_new (w.alloc (.cells #[.int .i64 s, .int .i64 f] 26)) (.cells #[.int .i64 h.kind, .int .i64 h.tos, .int .i64 h.id, .int .i64 h.fixed, .int .i64 h.ttl, .int .i64 h.frm, .int .i64 h.to, .int .i64 h.fromPort, .int .i64 h.toPort, .int .i64 h.check, .int .i64 h.marker, .int .i64 h.type, .int .i64 h.seq, .int .i64 h.time, .int .i64 h.source] 23)
    rw [show (w.alloc (.cells #[.int .i64 s, .int .i64 f] 26)).heap.size = w.heap.size + 1 by simp] at q
    exact (heap_alloc_old _ _ (by simp)).trans q
  · have q := heap_alloc_new ((w.alloc (.cells #[.int .i64 s, .int .i64 f] 26)).alloc (.cells #[.int .i64 h.kind, .int .i64 h.tos, .int .i64 h.id, .int .i64 h.fixed, .int .i64 h.ttl, .int .i64 h.frm, .int .i64 h.to, .int .i64 h.fromPort, .int .i64 h.toPort, .int .i64 h.check, .int .i64 h.marker, .int .i64 h.type, .int .i64 h.seq, .int .i64 h.time, .int .i64 h.source] 23)) (.cells #[.int .i64 0, .int .i64 0, .int .i64 0, .int .i64 0, .int .i64 0, .int .i64 0, .int .i64 0, .int .i64 0, .int .i64 0, .int .i64 0, .int .i64 0, .int .i64 0, .int .i64 0, .int .i64 0, .int .i64 0] 23)
    rw [show ((w.alloc (.cells #[.int .i64 s, .int .i64 f] 26)).alloc (.cells #[.int .i64 h.kind, .int .i64 h.tos, .int .i64 h.id, .int .i64 h.fixed, .int .i64 h.ttl, .int .i64 h.frm, .int .i64 h.to, .int .i64 h.fromPort, .int .i64 h.toPort, .int .i64 h.check, .int .i64 h.marker, .int .i64 h.type, .int .i64 h.seq, .int .i64 h.time, .int .i64 h.source] 23)).heap.size = w.heap.size + 1 + 1 by simp] at q
    exact q

theorem below_set {B : Nat} {w W : World} (h : Below B w W) {k : Nat} (hk : B ≤ k) (hs : B ≤ W.heap.size) (i : Nat) (u : Value) : Below B w (W.setCell ⟨k, i, none⟩ u) := h.grown (setCell_but W k i u) hs (fun j e => by cases e; exact hk)
theorem low_add_wrap (n a y : Int) : lowV n (wrap64 (a + wrap64 y)) = lowV n (a + y) := by
  rw [low_wrap]
  unfold lowV
  split
  · rw [Int.add_emod, wrap_mod y _ (by omega), ← Int.add_emod]
  · rfl
end Go.Proofs.Ytphekpkkeiaccaa
