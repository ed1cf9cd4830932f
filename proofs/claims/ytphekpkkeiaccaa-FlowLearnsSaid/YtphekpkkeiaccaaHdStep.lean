/-
  A header stored whole: one step, whose world is not written out.
-/
import Derived.Test.YtphekpkkeiaccaaHdBox
import Derived.Test.YtphekpkkeiaccaaRegion
import Derived.Test.YtphekpkkeiaccaaProg
namespace Go.Proofs.Ytphekpkkeiaccaa
open Go Go.RowKit

theorem info_hdr : (Try.prog.info? 23).map (·.size) = some 15 := by kernel_rfl
theorem put_hd {w : World} {b : Nat} {h x : Hd} (K : w.heap[b]? = some (.cells #[.int .i64 x.kind, .int .i64 x.tos, .int .i64 x.id, .int .i64 x.fixed, .int .i64 x.ttl, .int .i64 x.frm, .int .i64 x.to, .int .i64 x.fromPort, .int .i64 x.toPort, .int .i64 x.check, .int .i64 x.marker, .int .i64 x.type, .int .i64 x.seq, .int .i64 x.time, .int .i64 x.source] 23 (0, 0))) :
    (w.setCells b 0 (#[.int .i64 h.kind, .int .i64 h.tos, .int .i64 h.id, .int .i64 h.fixed, .int .i64 h.ttl, .int .i64 h.frm, .int .i64 h.to, .int .i64 h.fromPort, .int .i64 h.toPort, .int .i64 h.check, .int .i64 h.marker, .int .i64 h.type, .int .i64 h.seq, .int .i64 h.time, .int .i64 h.source] : Array Value).toList).heap[b]? = some (.cells #[.int .i64 h.kind, .int .i64 h.tos, .int .i64 h.id, .int .i64 h.fixed, .int .i64 h.ttl, .int .i64 h.frm, .int .i64 h.to, .int .i64 h.fromPort, .int .i64 h.toPort, .int .i64 h.check, .int .i64 h.marker, .int .i64 h.type, .int .i64 h.seq, .int .i64 h.time, .int .i64 h.source] 23 (0, 0)) ∧ w.grownBy (w.setCells b 0 (#[.int .i64 h.kind, .int .i64 h.tos, .int .i64 h.id, .int .i64 h.fixed, .int .i64 h.ttl, .int .i64 h.frm, .int .i64 h.to, .int .i64 h.fromPort, .int .i64 h.toPort, .int .i64 h.check, .int .i64 h.marker, .int .i64 h.type, .int .i64 h.seq, .int .i64 h.time, .int .i64 h.source] : Array Value).toList) (some b) :=
  at_put (Q := fun W => W.heap[b]? = some (.cells #[.int .i64 h.kind, .int .i64 h.tos, .int .i64 h.id, .int .i64 h.fixed, .int .i64 h.ttl, .int .i64 h.frm, .int .i64 h.to, .int .i64 h.fromPort, .int .i64 h.toPort, .int .i64 h.check, .int .i64 h.marker, .int .i64 h.type, .int .i64 h.seq, .int .i64 h.time, .int .i64 h.source] 23 (0, 0)) ∧ w.grownBy W (some b)) h x w b K (fun _ k g => ⟨k, g⟩)
theorem there_hd {w : World} {b : Nat} {x : Hd} (K : w.heap[b]? = some (.cells #[.int .i64 x.kind, .int .i64 x.tos, .int .i64 x.id, .int .i64 x.fixed, .int .i64 x.ttl, .int .i64 x.frm, .int .i64 x.to, .int .i64 x.fromPort, .int .i64 x.toPort, .int .i64 x.check, .int .i64 x.marker, .int .i64 x.type, .int .i64 x.seq, .int .i64 x.time, .int .i64 x.source] 23 (0, 0))) : w.there b 0 15 := fun j hj => by
  rw [Nat.zero_add, cells_of K, frozen_of K]
  exact ⟨by rw [Array.getElem?_eq_getElem (by simpa using hj)]; rfl, rfl⟩
/-- in a drawn region -/
theorem step_store_hd {ops : Array Oper} {o : Oper} {a : Act} {w : World} {K : Act → World → Prop} {Q : Exit → Act → World → Prop} {E : Prop} {b : Nat} {h x : Hd} (hw : Region.wanted o (yielded ops a.tmps) = true) (hd : o.dst = none)
    (p q : Operand) (ho : o.op = .store 23 p q) (hp : a.eval p = .pointer (some ⟨b, 0, none⟩)) (hq : a.eval q = (.agg #[.int .i64 h.kind, .int .i64 h.tos, .int .i64 h.id, .int .i64 h.fixed, .int .i64 h.ttl, .int .i64 h.frm, .int .i64 h.to, .int .i64 h.fromPort, .int .i64 h.toPort, .int .i64 h.check, .int .i64 h.marker, .int .i64 h.type, .int .i64 h.seq, .int .i64 h.time, .int .i64 h.source])) (Kb : w.heap[b]? = some (.cells #[.int .i64 x.kind, .int .i64 x.tos, .int .i64 x.id, .int .i64 x.fixed, .int .i64 x.ttl, .int .i64 x.frm, .int .i64 x.to, .int .i64 x.fromPort, .int .i64 x.toPort, .int .i64 x.check, .int .i64 x.marker, .int .i64 x.type, .int .i64 x.seq, .int .i64 x.time, .int .i64 x.source] 23 (0, 0)))
    (H : ∀ w', w'.heap[b]? = some (.cells #[.int .i64 h.kind, .int .i64 h.tos, .int .i64 h.id, .int .i64 h.fixed, .int .i64 h.ttl, .int .i64 h.frm, .int .i64 h.to, .int .i64 h.fromPort, .int .i64 h.toPort, .int .i64 h.check, .int .i64 h.marker, .int .i64 h.type, .int .i64 h.seq, .int .i64 h.time, .int .i64 h.source] 23 (0, 0)) → w.grownBy w' (some b) → K a w') :
    if Region.wanted o (yielded ops a.tmps) = true then Oper.wp Try.prog o a w K Q else E := by
  rw [if_pos hw]
  refine wp_store_mid _ p q ho b 0 #[.int .i64 h.kind, .int .i64 h.tos, .int .i64 h.id, .int .i64 h.fixed, .int .i64 h.ttl, .int .i64 h.frm, .int .i64 h.to, .int .i64 h.fromPort, .int .i64 h.toPort, .int .i64 h.check, .int .i64 h.marker, .int .i64 h.type, .int .i64 h.seq, .int .i64 h.time, .int .i64 h.source] hp hq (there_hd Kb) info_hdr (by simp [Value.oneCell']) ?_
  rw [hd]
  exact H _ (put_hd Kb).1 (put_hd Kb).2
end Go.Proofs.Ytphekpkkeiaccaa
