/-
  Parse of the program's layer 5: its three ways.
-/
import Derived.Test.YtfeeifemfhhijaaPkPar3
import Derived.Test.YtfeeifemfhhijaaPkPar4
import Derived.Test.YtfeeifemfhhijaaPkPar5
namespace Go.Proofs.Ytfeeifemfhhijaa
open Go Go.RowKit

/-- b is the packet of what its fields say -/
def parB (zs : List Int) : Bool := decide (pktL (fldL zs) (zs.drop (headN (fldL zs))) = zs)

theorem Parse_ok (a : Option Addr) (n cap : Nat) (zs : List Int) (w : World) (hs : Sl .u8 w a n zs) (hc : n ≤ cap) (h28 : 28 ≤ n) (h15 : n ≤ 1500) (hp : parB zs = true) :
    Calls Try.prog 28 #[.slice a n cap] w fun e w' => ∃ o cp, e = .returned (.tuple #[(.agg #[.int .i64 (fldL zs).kind, .int .i64 (fldL zs).tos, .int .i64 (fldL zs).id, .int .i64 (fldL zs).fixed, .int .i64 (fldL zs).ttl, .int .i64 (fldL zs).frm, .int .i64 (fldL zs).to, .int .i64 (fldL zs).fromPort, .int .i64 (fldL zs).toPort, .int .i64 (fldL zs).check, .int .i64 (fldL zs).marker, .int .i64 (fldL zs).type, .int .i64 (fldL zs).seq, .int .i64 (fldL zs).time, .int .i64 (fldL zs).source]), .slice o (n - headN (fldL zs)) cp, .int .i64 0]) ∧ Mk .u8 5 (w.heap.size + 1) w' (.slice o (n - headN (fldL zs)) cp) (n - headN (fldL zs)) (zs.drop (headN (fldL zs))) ∧ (o = none → cp = 0) ∧ Below w.heap.size w w' := by
  obtain ⟨g, off, rfl⟩ := hs.head (by omega)
  have hH := fldL_head zs (by rw [hs.len]; exact h28)
  rw [hs.len] at hH
  rcases Nat.lt_or_ge (headN (fldL zs)) cap with h | h
  · exact Parse_ok_in g off n cap zs w hs hc h28 h15 hp h
  · exact Parse_ok_end g off n cap zs w hs hc h28 h15 hp (by omega)

theorem Parse_form (a : Option Addr) (n cap : Nat) (zs : List Int) (w : World) (hs : Sl .u8 w a n zs) (hc : n ≤ cap) (h28 : 28 ≤ n) (h15 : n ≤ 1500) (hp : parB zs = false) :
    Calls Try.prog 28 #[.slice a n cap] w fun e w' => e = .returned (.tuple #[.agg #[.int .i64 0, .int .i64 0, .int .i64 0, .int .i64 0, .int .i64 0, .int .i64 0, .int .i64 0, .int .i64 0, .int .i64 0, .int .i64 0, .int .i64 0, .int .i64 0, .int .i64 0, .int .i64 0, .int .i64 0], .slice none 0 0, .int .i64 4]) ∧ Below w.heap.size w w' := by
  obtain ⟨g, off, rfl⟩ := hs.head (by omega)
  have hH := fldL_head zs (by rw [hs.len]; exact h28)
  rw [hs.len] at hH
  rcases Nat.lt_or_ge (headN (fldL zs)) cap with h | h
  · exact Parse_form_in g off n cap zs w hs hc h28 h15 hp h
  · exact Parse_form_end g off n cap zs w hs hc h28 h15 hp (by omega)
end Go.Proofs.Ytfeeifemfhhijaa
