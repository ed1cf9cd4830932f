/-
  Parse of the document's own functions of layer 5.
-/
import Derived.Test.YtfeeifemfhhijaaPkPar2
import Derived.Test.YtfeeifemfhhijaaPkBuild
import Derived.Test.YtfeeifemfhhijaaPkParse
import Derived.Test.YtfeeifemfhhijaaPush2
import Derived.Test.YtfeeifemfhhijaaHdBox2
import Derived.Deep.QuietTactic
import Derived.BigQuiet
import Derived.BigRegion
import Derived.Deep.RegionHeld3
import Derived.Deep.DrawnRows
import Derived.Deep.DeepCutAuto
namespace Go.Proofs.Ytfeeifemfhhijaa
open Go Go.RowKit
attribute [local go_sem ↓] Go.wp_at_zero Go.wp_at_succ

set_option maxRecDepth 100000 in
set_option maxHeartbeats 3200000 in
theorem rParse_size (a : Option Addr) (n cap : Nat) (w : World) (hr : n ≤ 140737488355328) (h : n < 28 ∨ 1500 < n) :
    Calls Try.prog 29 #[.slice a n cap] w fun e w' => e = .returned (.tuple #[.agg #[.int .i64 0, .int .i64 0, .int .i64 0, .int .i64 0, .int .i64 0, .int .i64 0, .int .i64 0, .int .i64 0, .int .i64 0, .int .i64 0, .int .i64 0, .int .i64 0, .int .i64 0, .int .i64 0, .int .i64 0], .slice none 0 0, .int .i64 2]) ∧ Below w.heap.size w w' := by
  rcases h with h | h
  · have h1 : (n : Int) < 28 := by omega
    clear h
    go_enter Try.func29, Try.ntmps29
    go_wp2
    refine bodyPost_ret (v := .tuple #[.agg #[.int .i64 0, .int .i64 0, .int .i64 0, .int .i64 0, .int .i64 0, .int .i64 0, .int .i64 0, .int .i64 0, .int .i64 0, .int .i64 0, .int .i64 0, .int .i64 0, .int .i64 0, .int .i64 0, .int .i64 0], .slice none 0 0, .int .i64 2]) (by simp [results, Try.results29, go_sem]) rfl ⟨rfl, (Below.refl _ _).alloc (Nat.le_refl _) _⟩
  · have h1 : (1500 : Int) < (n : Int) := by omega
    clear h
    go_enter Try.func29, Try.ntmps29
    go_wp2
    refine bodyPost_ret (v := .tuple #[.agg #[.int .i64 0, .int .i64 0, .int .i64 0, .int .i64 0, .int .i64 0, .int .i64 0, .int .i64 0, .int .i64 0, .int .i64 0, .int .i64 0, .int .i64 0, .int .i64 0, .int .i64 0, .int .i64 0, .int .i64 0], .slice none 0 0, .int .i64 2]) (by simp [results, Try.results29, go_sem]) rfl ⟨rfl, (Below.refl _ _).alloc (Nat.le_refl _) _⟩

/-- what the document's own Parse returns for bytes of a fitting size -/
def RPar (w : World) (n : Nat) (zs : List Int) (e : Ending) (w' : World) : Prop :=
  if parB zs = true then ∃ o cp, e = .returned (.tuple #[(.agg #[.int .i64 (fldL zs).kind, .int .i64 (fldL zs).tos, .int .i64 (fldL zs).id, .int .i64 (fldL zs).fixed, .int .i64 (fldL zs).ttl, .int .i64 (fldL zs).frm, .int .i64 (fldL zs).to, .int .i64 (fldL zs).fromPort, .int .i64 (fldL zs).toPort, .int .i64 (fldL zs).check, .int .i64 (fldL zs).marker, .int .i64 (fldL zs).type, .int .i64 (fldL zs).seq, .int .i64 (fldL zs).time, .int .i64 (fldL zs).source]), .slice o (n - headN (fldL zs)) cp, .int .i64 0]) ∧ Mk .u8 5 (w.heap.size + 1) w' (.slice o (n - headN (fldL zs)) cp) (n - headN (fldL zs)) (zs.drop (headN (fldL zs))) ∧ (o = none → cp = 0) ∧ Below w.heap.size w w'
  else e = .returned (.tuple #[.agg #[.int .i64 0, .int .i64 0, .int .i64 0, .int .i64 0, .int .i64 0, .int .i64 0, .int .i64 0, .int .i64 0, .int .i64 0, .int .i64 0, .int .i64 0, .int .i64 0, .int .i64 0, .int .i64 0, .int .i64 0], .slice none 0 0, .int .i64 4]) ∧ Below w.heap.size w w'

end Go.Proofs.Ytfeeifemfhhijaa
