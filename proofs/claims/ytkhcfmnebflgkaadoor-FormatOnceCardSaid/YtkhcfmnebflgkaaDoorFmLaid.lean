/-
  The program's table of layer 8, as the rows list it: what the walks read.
-/
import Derived.Test.YtkhcfmnebflgkaaDoorJBase
import Derived.Test.YtkhcfmnebflgkaaDoorFmEncP
import Derived.Test.YtkhcfmnebflgkaaDoorRows
namespace Go.Proofs.YtkhcfmnebflgkaaDoor
open Go Go.RowKit Go.ChangeShapes Go.WideShapes Go.ChangeAt

def laid08 : List (String × DataW Unit) := [("radiolink/format.starts", Rows.laid_radiolink_format_starts)]
theorem gStarts : Tryd.prog.globalNamed "radiolink/format.starts" = some 0 := by kernel_rfl
theorem tStarts : (Tryd.prog.globals[0]?).map (·.type) = some 57 := by kernel_rfl
theorem door_met08 (os : Os) (args : Array Value) : laidMetH Tryd.prog laid08 ((World.doorLaid Tryd.prog 400 os).forCall (fun _ _ => 0) ⟨#[], args, []⟩).memory :=
  laidMetH_of_parts3 (fuel := 8) (laidMet_of_run' 8 (by kernel_rfl) (by kernel_rfl)) (by kernel_rfl) (by kernel_rfl)
theorem st_of_laid {W : World} (h : laidMetH Tryd.prog laid08 W) : St W := by
  rw [MakeChecks.laidMetH_plain _ _ _ (by kernel_rfl)] at h
  obtain ⟨ps, ⟨g0, t0, cs0, f0, p0, q0, hg0, ht0, hv0, hd0, _, _⟩, _, _⟩ := h
  obtain rfl := Option.some.inj (gStarts.symm.trans hg0)
  obtain rfl := Option.some.inj (tStarts.symm.trans ht0)
  have P := fun i x hi => pairs_lit (D := [(0, 0), (1, 0), (2, 2), (7, 96), (8, 208), (8, 209), (8, 210)]) Tryd.underlying57 (by kernel_rfl) Tryd.underlying56 rfl rfl (by kernel_rfl) (by kernel_rfl) Tryd.underlying3 Tryd.underlying3 hd0 i x hi
  intro i v hv
  rw [World.var?_cell hg0 hv0 i, ← Array.getElem?_toList]
  have hi : i < 14 := (List.getElem?_eq_some_iff.1 hv).1
  rcases (show i = 0 ∨ i = 1 ∨ i = 2 ∨ i = 3 ∨ i = 4 ∨ i = 5 ∨ i = 6 ∨ i = 7 ∨ i = 8 ∨ i = 9 ∨ i = 10 ∨ i = 11 ∨ i = 12 ∨ i = 13 by omega) with rfl | rfl | rfl | rfl | rfl | rfl | rfl | rfl | rfl | rfl | rfl | rfl | rfl | rfl
  · exact (P 0 _ rfl).1.trans hv
  · exact (P 0 _ rfl).2.trans hv
  · exact (P 1 _ rfl).1.trans hv
  · exact (P 1 _ rfl).2.trans hv
  · exact (P 2 _ rfl).1.trans hv
  · exact (P 2 _ rfl).2.trans hv
  · exact (P 3 _ rfl).1.trans hv
  · exact (P 3 _ rfl).2.trans hv
  · exact (P 4 _ rfl).1.trans hv
  · exact (P 4 _ rfl).2.trans hv
  · exact (P 5 _ rfl).1.trans hv
  · exact (P 5 _ rfl).2.trans hv
  · exact (P 6 _ rfl).1.trans hv
  · exact (P 6 _ rfl).2.trans hv
end Go.Proofs.YtkhcfmnebflgkaaDoor
