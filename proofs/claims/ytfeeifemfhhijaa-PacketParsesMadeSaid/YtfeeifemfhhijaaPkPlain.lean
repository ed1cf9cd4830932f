/-
  Plain bytes of layer 5: the header bytes of a header.
-/
import Derived.Test.YtfeeifemfhhijaaHd
import Derived.Test.YtfeeifemfhhijaaPut
import Derived.Test.YtfeeifemfhhijaaSumPlain
namespace Go.Proofs.Ytfeeifemfhhijaa
open Go Go.RowKit

/-- the header bytes that both kinds have -/
def ipL (h : Hd) : List Int :=
  [69, h.tos, 0, 0] ++ putB 2 h.id 2 ++ [64 * h.fixed, 0, h.ttl, 17, 0, 0] ++ putB 4 h.frm 4 ++ putB 4 h.to 4 ++ putB 2 h.fromPort 2 ++ putB 2 h.toPort 2 ++ [0, 0] ++ putB 2 h.check 2
def headL (h : Hd) : List Int :=
  if h.kind = 2 then ipL h ++ [128, 128 * h.marker + h.type] ++ putB 2 h.seq 2 ++ putB 4 h.time 4 ++ putB 4 h.source 4 else ipL h
def headN (h : Hd) : Nat := if h.kind = 2 then 40 else 28
theorem ipL_len (h : Hd) : (ipL h).length = 28 := by simp [ipL, putB_len]
theorem headL_len (h : Hd) : (headL h).length = headN h := by
  unfold headL headN
  split <;> simp [ipL_len, putB_len]

/-- a word written at a place -/
def setW (zs : List Int) (i : Nat) (v : Int) : List Int := (zs.set i (v / 256)).set (i + 1) (v % 256)
theorem setW_len (zs : List Int) (i : Nat) (v : Int) : (setW zs i v).length = zs.length := by unfold setW; simp
/-- the packet of a header and a payload -/
def pkt1 (h : Hd) (ps : List Int) : List Int := setW (setW (headL h ++ ps) 2 ((headN h + ps.length : Nat) : Int)) 24 (((headN h + ps.length : Nat) : Int) - 20)
def pktL (h : Hd) (ps : List Int) : List Int := setW (pkt1 h ps) 10 (csV ((pkt1 h ps).take 20))
theorem pkt1_len (h : Hd) (ps : List Int) : (pkt1 h ps).length = headN h + ps.length := by unfold pkt1; rw [setW_len, setW_len, List.length_append, headL_len]
theorem pktL_len (h : Hd) (ps : List Int) : (pktL h ps).length = headN h + ps.length := by unfold pktL; rw [setW_len, pkt1_len]
theorem headN_cases (h : Hd) : headN h = 28 ∨ headN h = 40 := by unfold headN; split <;> simp

/-- what the checksum of UDP is taken of -/
def udpL (b : List Int) : List Int := setW ((b.drop 12).take 8 ++ [0, 17, ((b.length : Int) - 20) / 256, ((b.length : Int) - 20) % 256] ++ (b.drop 20).take (b.length - 20)) 18 0
def udpV (b : List Int) : Int := if csV (udpL b) = 0 then 65535 else csV (udpL b)
end Go.Proofs.Ytfeeifemfhhijaa
