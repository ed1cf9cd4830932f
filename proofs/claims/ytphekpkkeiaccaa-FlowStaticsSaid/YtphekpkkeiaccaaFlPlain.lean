/-
  What layer 6 answers, plainly.
-/
import Derived.Test.YtphekpkkeiaccaaHdEq
import Derived.Test.YtphekpkkeiaccaaSerPlain
namespace Go.Proofs.Ytphekpkkeiaccaa
open Go Go.RowKit

def statH (h : Hd) : Hd := ⟨h.kind, 0, 0, 0, 0, h.frm, h.to, h.fromPort, h.toPort, 0, 0, 0, 0, 0, h.source⟩
def zeroH : Hd := ⟨0, 0, 0, 0, 0, 0, 0, 0, 0, 0, 0, 0, 0, 0, 0⟩
def sameB (a b : Hd) : Bool := eqB (statH a) (statH b)
def numV (h : Hd) : Int := if h.kind = 2 then lowV 16 h.seq else lowV 16 h.id
def dynB (s f : Int) : Bool := decide ((0 ≤ s ∧ s ≤ 65535) ∧ (f = 0 ∨ f = 1))
/-- what Learn says of a growth of Time by t in s steps -/
def strV (t s : Int) : Int := if s ≠ 0 ∧ t.tmod s = 0 ∧ 0 ≤ t.tdiv s ∧ t.tdiv s ≤ 65535 then t.tdiv s else 0
def folV (h : Hd) (s : Int) : Int := lowV 16 (h.id + s)
def stepV (h : Hd) (n : Int) : Int := sigV 16 (numV h) n
def chgV (a b : Hd) : Int := (if a.tos = b.tos then 0 else 1) + (if a.ttl = b.ttl then 0 else 2) + (if a.fixed = b.fixed then 0 else 4) + (if a.type = b.type then 0 else 8) + (if (a.check == 0) = (b.check == 0) then 0 else 16)
def predH (s f : Int) (h : Hd) (n : Int) : Hd :=
  if validB h = true ∧ dynB s f = true then
    if h.kind = 2 then ⟨h.kind, h.tos, if f = 1 then folV h (stepV h n) else h.id, h.fixed, h.ttl, h.frm, h.to, h.fromPort, h.toPort, 0, 0, h.type, lowV 16 n, lowV 32 (h.time + s * stepV h n), h.source⟩
    else ⟨h.kind, h.tos, lowV 16 n, h.fixed, h.ttl, h.frm, h.to, h.fromPort, h.toPort, 0, 0, h.type, h.seq, h.time, h.source⟩
  else zeroH
def learnB (a b : Hd) : Bool := decide (validB a = true ∧ validB b = true ∧ a.kind = 2 ∧ sameB a b = true)
def learnS (a b : Hd) : Int := if learnB a b then strV (sigV 32 a.time b.time) (stepV a (numV b)) else 0
def learnF (a b : Hd) : Int := if learnB a b then (if b.id = folV a (stepV a (numV b)) then 1 else 0) else 0

theorem sig_low16 (a n : Int) : sigV 16 a (lowV 16 n) = sigV 16 a n := by
  have h : distV 16 a (lowV 16 n) = distV 16 a n := by
    rw [show (16 : Int) = ((16 : Nat) : Int) from rfl, distV_nat 16 _ _ (by omega), distV_nat 16 _ _ (by omega), lowV_nat 16 _ (by omega)]
    omega
  rw [show (16 : Int) = ((16 : Nat) : Int) from rfl] at h ⊢
  rw [sigV_nat 16 _ _ (by omega), sigV_nat 16 _ _ (by omega), h]
theorem low16_bd (x : Int) : 0 ≤ lowV 16 x ∧ lowV 16 x ≤ 65535 := by
  rw [show (16 : Int) = ((16 : Nat) : Int) from rfl, lowV_nat 16 _ (by omega)]; omega
theorem low16_self {x : Int} (h0 : 0 ≤ x) (h1 : x ≤ 65535) : lowV 16 x = x := by
  rw [show (16 : Int) = ((16 : Nat) : Int) from rfl, lowV_nat 16 _ (by omega)]; omega
theorem low32_bd (x : Int) : 0 ≤ lowV 32 x ∧ lowV 32 x ≤ 4294967295 := by
  rw [show (32 : Int) = ((32 : Nat) : Int) from rfl, lowV_nat 32 _ (by omega)]; omega
theorem sig16_bd (a b : Int) : -32768 ≤ sigV 16 a b ∧ sigV 16 a b ≤ 32767 := by
  rw [show (16 : Int) = ((16 : Nat) : Int) from rfl, sigV_nat 16 _ _ (by omega), distV_nat 16 _ _ (by omega)]
  simp only [show (2 : Int) ^ (16 - 1) = 32768 from rfl, show (2 : Int) ^ 16 = 65536 from rfl]
  split <;> omega
theorem numV_bd (h : Hd) : 0 ≤ numV h ∧ numV h ≤ 65535 := by unfold numV; split <;> exact low16_bd _
end Go.Proofs.Ytphekpkkeiaccaa
