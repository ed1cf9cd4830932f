/-
  No cell of these rows narrows 'for every input' (looked for: loops, veiled, ifaces, maps, wideKeys, modest, calm, conditions, laid).
  DERIVED. THE GIVEN ROWS OF THIS SEAT. 5 by the template 'for every input the law returns true; each argument reads behind the call as it read before'; 0 by the template 'total and deterministic' (their statements: YthbganohmcomjaaTotals.lean).
  GIVEN WITH THE SEED: the statements are not yours to turn. If you find one false, say at which input.
  Laid BY PROGRAM, IN A SANDBOX (cutbox-rows.mjs): the forced cells as the released guide's own fill.sh prints them over the translation 5cba39dda00fd518… (all of the seat's roots in one cut). By AI agents, Wed Nov 11 2026. No macro, syntax, notation, axiom, sorry.
-/
import Derived.Test.YthbganohmcomjaaChecked
import GoSem.Claim
import GoSem.ClaimJoined
import GoSem.ClaimMapViews
import Derived.JoinedTies
import Derived.KernelRfl
namespace Go.Proofs.Ythbganohmcomjaa
/- THE CELL 'sum', in the pinned program and in every row, IS THE sha256 OF THE DUMP (.gsa) THAT YthbganohmcomjaaProg.lean LOADS. Nothing in Lean hashes anything: it is a label: what it is worth is what the hold of that sum in a sandbox is worth. -/
noncomputable def Try.pinned : Pinned := { name := "ythbganohmcomjaa", sum := "5cba39dda00fd518cd9734154c594cf8ab12fb8d9279e3f421d9c45eb8e69122", checked := Try.checked }
namespace Rows
def none {H : Type} : Left H := { results := [], args := [] }

/-- 'radiolinklaw03.CheckExact': WHATEVER THE INPUT: true; the input reads as it did. -/
def checkExactSpec : ChangeSpec := { name := "checkExact", fn := fun _ => fun
  | [d1, d2, d3] => { results := [.lit (.bool true)], args := [d1, d2, d3] }
  | _ => none }
def checkExactRow : OpenClaim := { program := "ythbganohmcomjaa", sum := "5cba39dda00fd518cd9734154c594cf8ab12fb8d9279e3f421d9c45eb8e69122", func := "radiolink/radiolinklaw03.CheckExact", spec := "checkExact", apart := false }
def CheckExactSaid : Prop := checkExactRow.holds Try.pinned (OpenSpec.ofChange checkExactSpec)

/-- ITS FALSE NEIGHBOUR: 'it returns false'. Refute it at one input. -/
def checkExactWrong : ChangeSpec := { name := "checkExact", fn := fun _ => fun
  | [d1, d2, d3] => { results := [.lit (.bool false)], args := [d1, d2, d3] }
  | _ => none }
def CheckExactWrongFalsely : Prop := checkExactRow.holds Try.pinned (OpenSpec.ofChange checkExactWrong)

/-- 'radiolinklaw03.CheckGoesOn': WHATEVER THE INPUT: true; the input reads as it did. -/
def checkGoesOnSpec : ChangeSpec := { name := "checkGoesOn", fn := fun _ => fun
  | [d1, d2, d3] => { results := [.lit (.bool true)], args := [d1, d2, d3] }
  | _ => none }
def checkGoesOnRow : OpenClaim := { program := "ythbganohmcomjaa", sum := "5cba39dda00fd518cd9734154c594cf8ab12fb8d9279e3f421d9c45eb8e69122", func := "radiolink/radiolinklaw03.CheckGoesOn", spec := "checkGoesOn", apart := false }
def CheckGoesOnSaid : Prop := checkGoesOnRow.holds Try.pinned (OpenSpec.ofChange checkGoesOnSpec)

/-- ITS FALSE NEIGHBOUR: 'it returns false'. Refute it at one input. -/
def checkGoesOnWrong : ChangeSpec := { name := "checkGoesOn", fn := fun _ => fun
  | [d1, d2, d3] => { results := [.lit (.bool false)], args := [d1, d2, d3] }
  | _ => none }
def CheckGoesOnWrongFalsely : Prop := checkGoesOnRow.holds Try.pinned (OpenSpec.ofChange checkGoesOnWrong)

/-- 'radiolinklaw03.CheckLinear': WHATEVER THE INPUT: true; the input reads as it did. -/
def checkLinearSpec : ChangeSpec := { name := "checkLinear", fn := fun _ => fun
  | [d1, d2, d3] => { results := [.lit (.bool true)], args := [d1, d2, d3] }
  | _ => none }
def checkLinearRow : OpenClaim := { program := "ythbganohmcomjaa", sum := "5cba39dda00fd518cd9734154c594cf8ab12fb8d9279e3f421d9c45eb8e69122", func := "radiolink/radiolinklaw03.CheckLinear", spec := "checkLinear", apart := false }
def CheckLinearSaid : Prop := checkLinearRow.holds Try.pinned (OpenSpec.ofChange checkLinearSpec)

/-- ITS FALSE NEIGHBOUR: 'it returns false'. Refute it at one input. -/
def checkLinearWrong : ChangeSpec := { name := "checkLinear", fn := fun _ => fun
  | [d1, d2, d3] => { results := [.lit (.bool false)], args := [d1, d2, d3] }
  | _ => none }
def CheckLinearWrongFalsely : Prop := checkLinearRow.holds Try.pinned (OpenSpec.ofChange checkLinearWrong)

/-- 'radiolinklaw03.CheckBursts': WHATEVER THE INPUT: true; the input reads as it did. -/
def checkBurstsSpec : ChangeSpec := { name := "checkBursts", fn := fun _ => fun
  | [d1, d2, d3] => { results := [.lit (.bool true)], args := [d1, d2, d3] }
  | _ => none }
def checkBurstsRow : OpenClaim := { program := "ythbganohmcomjaa", sum := "5cba39dda00fd518cd9734154c594cf8ab12fb8d9279e3f421d9c45eb8e69122", func := "radiolink/radiolinklaw03.CheckBursts", spec := "checkBursts", apart := false }
def CheckBurstsSaid : Prop := checkBurstsRow.holds Try.pinned (OpenSpec.ofChange checkBurstsSpec)

/-- ITS FALSE NEIGHBOUR: 'it returns false'. Refute it at one input. -/
def checkBurstsWrong : ChangeSpec := { name := "checkBursts", fn := fun _ => fun
  | [d1, d2, d3] => { results := [.lit (.bool false)], args := [d1, d2, d3] }
  | _ => none }
def CheckBurstsWrongFalsely : Prop := checkBurstsRow.holds Try.pinned (OpenSpec.ofChange checkBurstsWrong)

/-- 'radiolinklaw03.CheckZero': WHATEVER THE INPUT: true; the input reads as it did. -/
def checkZeroSpec : ChangeSpec := { name := "checkZero", fn := fun _ => fun
  | [d1, d2, d3] => { results := [.lit (.bool true)], args := [d1, d2, d3] }
  | _ => none }
def checkZeroRow : OpenClaim := { program := "ythbganohmcomjaa", sum := "5cba39dda00fd518cd9734154c594cf8ab12fb8d9279e3f421d9c45eb8e69122", func := "radiolink/radiolinklaw03.CheckZero", spec := "checkZero", apart := false }
def CheckZeroSaid : Prop := checkZeroRow.holds Try.pinned (OpenSpec.ofChange checkZeroSpec)

/-- ITS FALSE NEIGHBOUR: 'it returns false'. Refute it at one input. -/
def checkZeroWrong : ChangeSpec := { name := "checkZero", fn := fun _ => fun
  | [d1, d2, d3] => { results := [.lit (.bool false)], args := [d1, d2, d3] }
  | _ => none }
def CheckZeroWrongFalsely : Prop := checkZeroRow.holds Try.pinned (OpenSpec.ofChange checkZeroWrong)

/- THE SECOND FORM. 'bulk': how many values and letters a reading holds, each counted each time it is reached (what is shared counts as often as it is met; a slice's spare places count too). A statement '..UptoSaid' is the law's where the arguments, and the package variables that the reading takes, are together of bulk at most 1048576: NARROWER than '..Said'. Prove '..Said' where nothing that the law and all that it calls make is longer than what came in: it says more and counts as full. Else prove '..UptoSaid'. A law counts once. -/
mutual
def uptoBulk {H : Type} : DataW H → Nat
  | .lit (.string bytes) => bytes.length + 1
  | .lit _ => 1
  | .nil => 1
  | .ptr d => uptoBulk d + 1
  | .slice elems spare => uptoBulkAll elems + uptoBulkAll spare + 1
  | .agg parts => uptoBulkAll parts + 1
  | .iface _ d => uptoBulk d + 1
  | .map entries => uptoBulkEntries entries + 1
  | .held _ => 1
def uptoBulkAll {H : Type} : List (DataW H) → Nat
  | [] => 0
  | d :: r => uptoBulk d + uptoBulkAll r
def uptoBulkEntries {H : Type} : List (Lit × DataW H) → Nat
  | [] => 0
  | x :: r => uptoBulkEntry x + uptoBulkEntries r
def uptoBulkEntry {H : Type} : Lit × DataW H → Nat
  | (.string bytes, d) => bytes.length + uptoBulk d + 1
  | (_, d) => uptoBulk d + 1
 end
def uptoSmall : (H : Type) → List (DataW H) → Bool := fun _ ds => decide (uptoBulkAll ds ≤ 1048576)
def OpenSpec.upto (s : _root_.Go.ChangeSpec) : _root_.Go.OpenSpec := { _root_.Go.OpenSpec.ofChange s with cond := some uptoSmall }

/-- 'radiolinklaw03.CheckExact', WHERE WHAT IT READS IS OF BULK AT MOST 1048576: true; the input reads as it did. -/
def checkExactUptoRow : OpenClaim := { program := "ythbganohmcomjaa", sum := "5cba39dda00fd518cd9734154c594cf8ab12fb8d9279e3f421d9c45eb8e69122", func := "radiolink/radiolinklaw03.CheckExact", spec := "checkExact", apart := false, narrowed := true }
def CheckExactUptoSaid : Prop := checkExactUptoRow.holds Try.pinned (OpenSpec.upto checkExactSpec)

/-- 'radiolinklaw03.CheckGoesOn', WHERE WHAT IT READS IS OF BULK AT MOST 1048576: true; the input reads as it did. -/
def checkGoesOnUptoRow : OpenClaim := { program := "ythbganohmcomjaa", sum := "5cba39dda00fd518cd9734154c594cf8ab12fb8d9279e3f421d9c45eb8e69122", func := "radiolink/radiolinklaw03.CheckGoesOn", spec := "checkGoesOn", apart := false, narrowed := true }
def CheckGoesOnUptoSaid : Prop := checkGoesOnUptoRow.holds Try.pinned (OpenSpec.upto checkGoesOnSpec)

/-- 'radiolinklaw03.CheckLinear', WHERE WHAT IT READS IS OF BULK AT MOST 1048576: true; the input reads as it did. -/
def checkLinearUptoRow : OpenClaim := { program := "ythbganohmcomjaa", sum := "5cba39dda00fd518cd9734154c594cf8ab12fb8d9279e3f421d9c45eb8e69122", func := "radiolink/radiolinklaw03.CheckLinear", spec := "checkLinear", apart := false, narrowed := true }
def CheckLinearUptoSaid : Prop := checkLinearUptoRow.holds Try.pinned (OpenSpec.upto checkLinearSpec)

/-- 'radiolinklaw03.CheckBursts', WHERE WHAT IT READS IS OF BULK AT MOST 1048576: true; the input reads as it did. -/
def checkBurstsUptoRow : OpenClaim := { program := "ythbganohmcomjaa", sum := "5cba39dda00fd518cd9734154c594cf8ab12fb8d9279e3f421d9c45eb8e69122", func := "radiolink/radiolinklaw03.CheckBursts", spec := "checkBursts", apart := false, narrowed := true }
def CheckBurstsUptoSaid : Prop := checkBurstsUptoRow.holds Try.pinned (OpenSpec.upto checkBurstsSpec)

/-- 'radiolinklaw03.CheckZero', WHERE WHAT IT READS IS OF BULK AT MOST 1048576: true; the input reads as it did. -/
def checkZeroUptoRow : OpenClaim := { program := "ythbganohmcomjaa", sum := "5cba39dda00fd518cd9734154c594cf8ab12fb8d9279e3f421d9c45eb8e69122", func := "radiolink/radiolinklaw03.CheckZero", spec := "checkZero", apart := false, narrowed := true }
def CheckZeroUptoSaid : Prop := checkZeroUptoRow.holds Try.pinned (OpenSpec.upto checkZeroSpec)

end Rows
end Go.Proofs.Ythbganohmcomjaa
