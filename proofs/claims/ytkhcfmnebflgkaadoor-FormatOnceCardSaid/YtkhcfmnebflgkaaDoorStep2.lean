/-
  A call, and an operation by its run, in a drawn region, without a simp over the whole goal; d: the slot that it writes.
-/
import Derived.Test.YtkhcfmnebflgkaaDoorJBase
namespace Go.Proofs.YtkhcfmnebflgkaaDoor
open Go

section
variable {P : Program} {ops : Array Oper} {Q : Exit → Act → World → Prop}
theorem step_call {o : Oper} {a : Act} {w : World} {K : Act → World → Prop} {E : Prop} {R : Ending → World → Prop} (d : Nat) (hd : o.dst = some d) (f : FuncId) (args : Array Value) (hw : Region.wanted o (yielded ops a.tmps) = true) (h : (execOp a.eval o).run P w = .ok (.enter f args) w)
    (C : Calls P f args w R) (H : ∀ e w', R e w' → ∃ v, e = .returned v ∧ K (a.put (some d) v) w') : if Region.wanted o (yielded ops a.tmps) = true then Oper.wp P o a w K Q else E := by
  rw [if_pos hw]
  unfold Oper.wp
  rw [h]
  show Calls P f args w _
  exact C.mono fun e w' hr => by
    obtain ⟨v, rfl, hk⟩ := H e w' hr
    rw [← hd] at hk
    exact hk
theorem step_run2 {o : Oper} {a : Act} {w : World} {K : Act → World → Prop} {E : Prop} (d : Nat) (hd : o.dst = some d) (v : Value) (w' : World) (hw : Region.wanted o (yielded ops a.tmps) = true) (h : (execOp a.eval o).run P w = .ok (.value v) w') (H : K (a.put (some d) v) w') : if Region.wanted o (yielded ops a.tmps) = true then Oper.wp P o a w K Q else E := by
  rw [← hd] at H
  exact step_run v w' hw h H
end
end Go.Proofs.YtkhcfmnebflgkaaDoor
