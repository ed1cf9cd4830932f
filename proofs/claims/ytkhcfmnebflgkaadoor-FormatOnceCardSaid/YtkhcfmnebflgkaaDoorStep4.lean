/-
  A struct stored into a part of a block, in a drawn region; a header's range.
-/
import Derived.Test.YtkhcfmnebflgkaaDoorStep3
namespace Go.Proofs.YtkhcfmnebflgkaaDoor
open Go

theorem hd_range {W : World} {g : Nat} {h : Hd} (q : W.heap[g]? = some (.cells #[.int .i64 h.kind, .int .i64 h.tos, .int .i64 h.id, .int .i64 h.fixed, .int .i64 h.ttl, .int .i64 h.frm, .int .i64 h.to, .int .i64 h.fromPort, .int .i64 h.toPort, .int .i64 h.check, .int .i64 h.marker, .int .i64 h.type, .int .i64 h.seq, .int .i64 h.time, .int .i64 h.source] 23 (0, 0))) : W.rangeAt g 0 [.int .i64 h.kind, .int .i64 h.tos, .int .i64 h.id, .int .i64 h.fixed, .int .i64 h.ttl, .int .i64 h.frm, .int .i64 h.to, .int .i64 h.fromPort, .int .i64 h.toPort, .int .i64 h.check, .int .i64 h.marker, .int .i64 h.type, .int .i64 h.seq, .int .i64 h.time, .int .i64 h.source] := World.rangeAt_of_block q 0 15
theorem there_part {w : World} {b off n : Nat} {xs : Array Value} {T : TypeId} (h : w.heap[b]? = some (.cells xs T (0, 0))) (hn : off + n ≤ xs.size) : w.there b off n := fun j hj => by
  rw [cells_of h, frozen_of h]
  exact ⟨by rw [Array.getElem?_eq_getElem (by omega)]; rfl, rfl⟩
theorem step_store_part {ops : Array Oper} {o : Oper} {a : Act} {w : World} {K : Act → World → Prop} {Q : Exit → Act → World → Prop} {E : Prop} {b off n m : Nat} {xs cs : Array Value} {T T2 : TypeId} (hw : Region.wanted o (yielded ops a.tmps) = true) (hd : o.dst = none)
    (p q : Operand) (ho : o.op = .store T2 p q) (hp : a.eval p = .pointer (some ⟨b, off, none⟩)) (hq : a.eval q = .agg cs) (Kb : w.heap[b]? = some (.cells xs T (0, 0))) (hx : xs.size = m) (hm : off + n ≤ m) (hc : cs.size = n)
    (hi : (Tryd.prog.info? T2).map (·.size) = some n) (h1 : cs.all (·.oneCell') = true)
    (H : ∀ w', w'.heap[b]? = some (.cells (setFrom xs off cs.toList) T (0, 0)) → w.grownBy w' (some b) → K a w') :
    if Region.wanted o (yielded ops a.tmps) = true then Oper.wp Tryd.prog o a w K Q else E := by
  have k := setCells_blk cs.toList off w xs Kb
  rw [if_pos hw]
  refine wp_store_mid T2 p q ho b off cs hp hq (there_part Kb (by omega)) (by rw [hi, hc]) h1 ?_
  rw [hd]
  exact H _ k.1 k.2
theorem info_hd4 : (Tryd.prog.info? 23).map (·.size) = some 15 := by kernel_rfl
theorem info_dy4 : (Tryd.prog.info? 25).map (·.size) = some 2 := by kernel_rfl
end Go.Proofs.YtkhcfmnebflgkaaDoor
