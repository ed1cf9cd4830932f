/-
  The last store of a drawn region.
-/
import Derived.Test.YtkhcfmnebflgkaaDoorStep2
import Derived.Test.YtkhcfmnebflgkaaDoorJBase
namespace Go.Proofs.YtkhcfmnebflgkaaDoor
open Go

theorem ready_store {ops : Array Oper} {md : Region.Mode} {S : World → Prop} {fuel : Nat} {l : Array Bool} {o : Oper} {a : Act} {w : World} {Q : Exit → Act → World → Prop} {b n : Nat} {xs cs : Array Value} {T : TypeId} (hw : Region.wanted o (yielded ops a.tmps) = true) (hd : o.dst = none)
    (p q : Operand) (ho : o.op = .store T p q) (hp : a.eval p = .pointer (some ⟨b, 0, none⟩)) (hq : a.eval q = .agg cs) (Kb : w.heap[b]? = some (.cells xs T (0, 0))) (hx : xs.size = n) (hc : cs.size = n)
    (hi : (Tryd.prog.info? T).map (·.size) = some n) (h1 : cs.all (·.oneCell') = true)
    (H : ∀ w', w'.heap[b]? = some (.cells cs T (0, 0)) → w.grownBy w' (some b) → S w' ∧ (S w' → wpAnyH Tryd.prog md ops Q S fuel l a w')) (K : Act → World → Prop) (hK : Shut (∀ a w, S w → (S w → wpAnyH Tryd.prog md ops Q S fuel l a w) → K a w)) :
    if Region.wanted o (yielded ops a.tmps) = true then Oper.wp Tryd.prog o a w K Q else K (a.put o.dst undef) w :=
  step_store_blk hw hd p q ho hp hq Kb hx hc hi h1 (fun w' k g => by
    obtain ⟨h1, h2⟩ := H w' k g
    exact hK.out _ _ h1 h2)
theorem last_store {ops : Array Oper} {md : Region.Mode} {S : World → Prop} {fuel i : Nat} {l : Array Bool} {o : Oper} {a : Act} {w : World} {Q : Exit → Act → World → Prop} {b n : Nat} {xs cs : Array Value} {T : TypeId} (hi0 : ops[i]? = some o) (hw : Region.wanted o (yielded ops a.tmps) = true) (hd : o.dst = none)
    (p q : Operand) (ho : o.op = .store T p q) (hp : a.eval p = .pointer (some ⟨b, 0, none⟩)) (hq : a.eval q = .agg cs) (Kb : w.heap[b]? = some (.cells xs T (0, 0))) (hx : xs.size = n) (hc : cs.size = n)
    (hi : (Tryd.prog.info? T).map (·.size) = some n) (h1 : cs.all (·.oneCell') = true)
    (H : ∀ w', w'.heap[b]? = some (.cells cs T (0, 0)) → w.grownBy w' (some b) → S w' ∧ (S w' → wpAnyH Tryd.prog md ops Q S fuel (l.setIfInBounds i true) a w')) : AllReadyH Tryd.prog md ops Q S fuel l a w [i] :=
  AllReadyH.cons hi0 (ready_store hw hd p q ho hp hq Kb hx hc hi h1 H) AllReadyH.nil
end Go.Proofs.YtkhcfmnebflgkaaDoor
