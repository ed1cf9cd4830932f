/-
  A header in a block of the call's own: its cells and marks at every later world; stores into such a block.
-/
import Derived.Test.YtphekpkkeiaccaaHd
import Derived.Test.YtphekpkkeiaccaaPush
namespace Go.Proofs.Ytphekpkkeiaccaa
open Go Go.RowKit

theorem cells_of {w : World} {b : Nat} {cs : Array Value} {t : TypeId} {fz : Nat × Nat} (h : w.heap[b]? = some (.cells cs t fz)) (i : Nat) : w.cell? ⟨b, i, none⟩ = cs[i]? := by simp [World.cell?, h]
theorem frozen_of {w : World} {b : Nat} {cs : Array Value} {t : TypeId} (h : w.heap[b]? = some (.cells cs t (0, 0))) (i : Nat) : w.frozen? ⟨b, i, none⟩ = false := by simp [World.frozen?, h]
theorem grown_set {a w : World} {row : Option Nat} {b : Nat} (h : a.grownBy w row) (hb : a.heap.size ≤ b) (i : Nat) (u : Value) : a.grownBy (w.setCell ⟨b, i, none⟩ u) row := grown_then h (setCell_but w b i u) (fun k hk => by cases hk; exact .inr hb)
theorem grown_self {a w : World} {b : Nat} (h : a.grownBy w (some b)) (i : Nat) (u : Value) : a.grownBy (w.setCell ⟨b, i, none⟩ u) (some b) := grown_then h (setCell_but w b i u) (fun _ hk => .inl hk)
theorem blk_set {w : World} {b : Nat} {cs : Array Value} {t : TypeId} {fz : Nat × Nat} (h : w.heap[b]? = some (.cells cs t fz)) (i : Nat) (u : Value) : (w.setCell ⟨b, i, none⟩ u).heap[b]? = some (.cells (cs.setIfInBounds i u) t fz) := by
  have hlt := lt_of_block h
  have h' : w.heap[b] = .cells cs t fz := by simpa [Array.getElem?_eq_getElem hlt] using h
  show (w.heap.modify b _)[b]? = _
  rw [Array.getElem?_eq_getElem (by simpa using hlt), Array.getElem_modify_self, h']
  rfl
theorem blk_set_ne {w : World} {b k : Nat} {o : Obj} (h : w.heap[k]? = some o) (hk : k ≠ b) (i : Nat) (u : Value) : (w.setCell ⟨b, i, none⟩ u).heap[k]? = some o := (Below.heap_setCell w ⟨b, i, none⟩ u k hk).trans h
/-- the block of a header that the call laid first, at every later world -/
theorem hbox_blk (h : Hd) (w wk : World) (hb : Below (w.heap.size + 1) (w.alloc (.cells #[.int .i64 h.kind, .int .i64 h.tos, .int .i64 h.id, .int .i64 h.fixed, .int .i64 h.ttl, .int .i64 h.frm, .int .i64 h.to, .int .i64 h.fromPort, .int .i64 h.toPort, .int .i64 h.check, .int .i64 h.marker, .int .i64 h.type, .int .i64 h.seq, .int .i64 h.time, .int .i64 h.source] 23)) wk) : wk.heap[w.heap.size]? = some (.cells #[.int .i64 h.kind, .int .i64 h.tos, .int .i64 h.id, .int .i64 h.fixed, .int .i64 h.ttl, .int .i64 h.frm, .int .i64 h.to, .int .i64 h.fromPort, .int .i64 h.toPort, .int .i64 h.check, .int .i64 h.marker, .int .i64 h.type, .int .i64 h.seq, .int .i64 h.time, .int .i64 h.source] 23 (0, 0)) := (hb.block w.heap.size (by omega)).trans (heap_alloc_new w _)
/-- a header stored whole over another one, at a world that is not written out -/
theorem at_put {Q : World → Prop} (h x : Hd) (w : World) (b : Nat) (K : w.heap[b]? = some (.cells #[.int .i64 x.kind, .int .i64 x.tos, .int .i64 x.id, .int .i64 x.fixed, .int .i64 x.ttl, .int .i64 x.frm, .int .i64 x.to, .int .i64 x.fromPort, .int .i64 x.toPort, .int .i64 x.check, .int .i64 x.marker, .int .i64 x.type, .int .i64 x.seq, .int .i64 x.time, .int .i64 x.source] 23 (0, 0))) (H : ∀ w6, w6.heap[b]? = some (.cells #[.int .i64 h.kind, .int .i64 h.tos, .int .i64 h.id, .int .i64 h.fixed, .int .i64 h.ttl, .int .i64 h.frm, .int .i64 h.to, .int .i64 h.fromPort, .int .i64 h.toPort, .int .i64 h.check, .int .i64 h.marker, .int .i64 h.type, .int .i64 h.seq, .int .i64 h.time, .int .i64 h.source] 23 (0, 0)) → w.grownBy w6 (some b) → Q w6) :
    Q (((((((((((((((w.setCell ⟨b, 0, none⟩ (.int .i64 h.kind)).setCell ⟨b, 1, none⟩ (.int .i64 h.tos)).setCell ⟨b, 2, none⟩ (.int .i64 h.id)).setCell ⟨b, 3, none⟩ (.int .i64 h.fixed)).setCell ⟨b, 4, none⟩ (.int .i64 h.ttl)).setCell ⟨b, 5, none⟩ (.int .i64 h.frm)).setCell ⟨b, 6, none⟩ (.int .i64 h.to)).setCell ⟨b, 7, none⟩ (.int .i64 h.fromPort)).setCell ⟨b, 8, none⟩ (.int .i64 h.toPort)).setCell ⟨b, 9, none⟩ (.int .i64 h.check)).setCell ⟨b, 10, none⟩ (.int .i64 h.marker)).setCell ⟨b, 11, none⟩ (.int .i64 h.type)).setCell ⟨b, 12, none⟩ (.int .i64 h.seq)).setCell ⟨b, 13, none⟩ (.int .i64 h.time)).setCell ⟨b, 14, none⟩ (.int .i64 h.source)) := by
  refine H _ ?_ ?_
  · have K1 := blk_set (blk_set (blk_set (blk_set (blk_set (blk_set (blk_set (blk_set (blk_set (blk_set (blk_set (blk_set (blk_set (blk_set (blk_set (K) 0 (.int .i64 h.kind)) 1 (.int .i64 h.tos)) 2 (.int .i64 h.id)) 3 (.int .i64 h.fixed)) 4 (.int .i64 h.ttl)) 5 (.int .i64 h.frm)) 6 (.int .i64 h.to)) 7 (.int .i64 h.fromPort)) 8 (.int .i64 h.toPort)) 9 (.int .i64 h.check)) 10 (.int .i64 h.marker)) 11 (.int .i64 h.type)) 12 (.int .i64 h.seq)) 13 (.int .i64 h.time)) 14 (.int .i64 h.source)
    simpa only [List.setIfInBounds_toArray, List.set_cons_succ, List.set_cons_zero] using K1
  · iterate 15 refine grown_self ?_ _ _
    exact World.grownBy.refl _ _
end Go.Proofs.Ytphekpkkeiaccaa
