/-
  What lies where in Learn: two headers, the answer.
-/
import Derived.Test.YtphekpkkeiaccaaFlSame
import Derived.Test.YtphekpkkeiaccaaFlPB
import Derived.Deep.QuietTactic
import Derived.BigQuiet
namespace Go.Proofs.Ytphekpkkeiaccaa
open Go Go.RowKit

/-- two headers and dynamic parameters in three blocks -/
structure PL (W : World) (k : Nat) (a b : Hd) (s f : Int) : Prop where
  a : W.heap[k]? = some (.cells #[.int .i64 a.kind, .int .i64 a.tos, .int .i64 a.id, .int .i64 a.fixed, .int .i64 a.ttl, .int .i64 a.frm, .int .i64 a.to, .int .i64 a.fromPort, .int .i64 a.toPort, .int .i64 a.check, .int .i64 a.marker, .int .i64 a.type, .int .i64 a.seq, .int .i64 a.time, .int .i64 a.source] 23 (0, 0))
  b : W.heap[k + 1]? = some (.cells #[.int .i64 b.kind, .int .i64 b.tos, .int .i64 b.id, .int .i64 b.fixed, .int .i64 b.ttl, .int .i64 b.frm, .int .i64 b.to, .int .i64 b.fromPort, .int .i64 b.toPort, .int .i64 b.check, .int .i64 b.marker, .int .i64 b.type, .int .i64 b.seq, .int .i64 b.time, .int .i64 b.source] 23 (0, 0))
  z : W.heap[k + 1 + 1]? = some (.cells #[.int .i64 s, .int .i64 f] 26 (0, 0))
theorem PL.below {w w' : World} {k : Nat} {s f : Int} {a b : Hd} (p : PL w k a b s f) (hb : Below w.heap.size w w') : PL w' k a b s f :=
  ⟨(hb.block _ (lt_of_block p.a)).trans p.a, (hb.block _ (lt_of_block p.b)).trans p.b, (hb.block _ (lt_of_block p.z)).trans p.z⟩
theorem PL.alloc {w : World} {k : Nat} {s f : Int} {a b : Hd} (p : PL w k a b s f) (o : Obj) : PL (w.alloc o) k a b s f := p.below ((Below.refl _ _).alloc (Nat.le_refl _) o)
theorem PL.drew {w : World} {k : Nat} {s f : Int} {a b : Hd} (p : PL w k a b s f) : PL w.drew k a b s f := ⟨p.a, p.b, p.z⟩
theorem PL.drewN {w : World} {k : Nat} {s f : Int} {a b : Hd} (p : PL w k a b s f) (n : Nat) : PL (w.drewN n) k a b s f := ⟨p.a, p.b, p.z⟩
theorem PL.set {w : World} {k : Nat} {s f : Int} {a b : Hd} (p : PL w k a b s f) (j : Nat) (hb : k + 1 + 1 < j) (i : Nat) (u : Value) : PL (w.setCell ⟨j, i, none⟩ u) k a b s f :=
  ⟨blk_set_ne p.a (by omega) i u, blk_set_ne p.b (by omega) i u, blk_set_ne p.z (by omega) i u⟩
theorem PL.laid (w : World) (a b : Hd) : PL (((w.alloc (.cells #[.int .i64 a.kind, .int .i64 a.tos, .int .i64 a.id, .int .i64 a.fixed, .int .i64 a.ttl, .int .i64 a.frm, .int .i64 a.to, .int .i64 a.fromPort, .int .i64 a.toPort, .int .i64 a.check, .int .i64 a.marker, .int .i64 a.type, .int .i64 a.seq, .int .i64 a.time, .int .i64 a.source] 23)).alloc (.cells #[.int .i64 b.kind, .int .i64 b.tos, .int .i64 b.id, .int .i64 b.fixed, .int .i64 b.ttl, .int .i64 b.frm, .int .i64 b.to, .int .i64 b.fromPort, .int .i64 b.toPort, .int .i64 b.check, .int .i64 b.marker, .int .i64 b.type, .int .i64 b.seq, .int .i64 b.time, .int .i64 b.source] 23)).alloc (.cells #[.int .i64 0, .int .i64 0] 26)) w.heap.size a b 0 0 := by
  have q := HH.laid w a b
  refine ⟨(heap_alloc_old _ _ (by simp; omega)).trans q.1, (heap_alloc_old _ _ (by simp)).trans q.2, ?_⟩
  have q := heap_alloc_new ((w.alloc (.cells #[.int .i64 a.kind, .int .i64 a.tos, .int .i64 a.id, .int .i64 a.fixed, .int .i64 a.ttl, .int .i64 a.frm, .int .i64 a.to, .int .i64 a.fromPort, .int .i64 a.toPort, .int .i64 a.check, .int .i64 a.marker, .int .i64 a.type, .int .i64 a.seq, .int .i64 a.time, .int .i64 a.source] 23)).alloc (.cells #[.int .i64 b.kind, .int .i64 b.tos, .int .i64 b.id, .int .i64 b.fixed, .int .i64 b.ttl, .int .i64 b.frm, .int .i64 b.to, .int .i64 b.fromPort, .int .i64 b.toPort, .int .i64 b.check, .int .i64 b.marker, .int .i64 b.type, .int .i64 b.seq, .int .i64 b.time, .int .i64 b.source] 23)) (.cells #[.int .i64 0, .int .i64 0] 26)
  rw [show ((w.alloc (.cells #[.int .i64 a.kind, .int .i64 a.tos, .int .i64 a.id, .int .i64 a.fixed, .int .i64 a.ttl, .int .i64 a.frm, .int .i64 a.to, .int .i64 a.fromPort, .int .i64 a.toPort, .int .i64 a.check, .int .i64 a.marker, .int .i64 a.type, .int .i64 a.seq, .int .i64 a.time, .int .i64 a.source] 23)).alloc (.cells #[.int .i64 b.kind, .int .i64 b.tos, .int .i64 b.id, .int .i64 b.fixed, .int .i64 b.ttl, .int .i64 b.frm, .int .i64 b.to, .int .i64 b.fromPort, .int .i64 b.toPort, .int .i64 b.check, .int .i64 b.marker, .int .i64 b.type, .int .i64 b.seq, .int .i64 b.time, .int .i64 b.source] 23)).heap.size = w.heap.size + 1 + 1 by simp] at q
  exact q
theorem below_laid3 (w : World) (a b c : Obj) : Below w.heap.size w (((w.alloc a).alloc b).alloc c) := (((Below.refl w.heap.size w).alloc (Nat.le_refl _) a).alloc (by simp) b).alloc (by simp; omega) c
/-- where the walk stands behind a choice: what Learn has laid of its answer lies in block j -/
def LR (w wx : World) (j : Nat) (a b : Hd) (s : Int) : Prop := PL wx w.heap.size a b 0 0 ∧ wx.heap[j]? = some (.cells #[.int .i64 s, .int .i64 0] 26 (0, 0)) ∧ Below w.heap.size w wx
theorem ret_bool2 {x y : Bool} (h : x = y) : Value.bool x = .bool y := by rw [h]
/-- parameters stored over others, at a world that is not written out -/
theorem at_put2 {Q : World → Prop} (s f s0 f0 : Int) (w : World) (b : Nat) (K : w.heap[b]? = some (.cells #[.int .i64 s0, .int .i64 f0] 26 (0, 0))) (H : ∀ w6, w6.heap[b]? = some (.cells #[.int .i64 s, .int .i64 f] 26 (0, 0)) → w.grownBy w6 (some b) → Q w6) :
    Q ((w.setCell ⟨b, 0, none⟩ (.int .i64 s)).setCell ⟨b, 1, none⟩ (.int .i64 f)) := by
  refine H _ ?_ ?_
  · have K1 := blk_set (blk_set K 0 (.int .i64 s)) 1 (.int .i64 f)
    simpa only [List.setIfInBounds_toArray, List.set_cons_succ, List.set_cons_zero] using K1
  · exact grown_self (grown_self (World.grownBy.refl _ _) _ _) _ _

end Go.Proofs.Ytphekpkkeiaccaa
