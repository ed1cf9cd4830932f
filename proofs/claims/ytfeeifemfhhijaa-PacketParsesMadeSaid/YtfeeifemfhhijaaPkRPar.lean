/-
  Parse of the document's own functions of layer 5: its ways together.
-/
import Derived.Test.YtfeeifemfhhijaaPkRParT
import Derived.Test.YtfeeifemfhhijaaPkRParF
namespace Go.Proofs.Ytfeeifemfhhijaa
open Go Go.RowKit

theorem rParse_any (g off n cap : Nat) (zs : List Int) (w : World) (hs : Sl .u8 w (some ⟨g, off, none⟩) n zs) (hc : n ≤ cap) (_hcap : cap ≤ 140737488351232) (h28 : 28 ≤ n) (h15 : n ≤ 1500) :
    Calls Try.prog 29 #[.slice (some ⟨g, off, none⟩) n cap] w (RPar w n zs) := by
  cases hp : parB zs with
  | true => exact rParse_true g off n cap zs w hs hc h28 h15 hp
  | false => exact rParse_false g off n cap zs w hs hc h28 h15 hp
end Go.Proofs.Ytfeeifemfhhijaa
