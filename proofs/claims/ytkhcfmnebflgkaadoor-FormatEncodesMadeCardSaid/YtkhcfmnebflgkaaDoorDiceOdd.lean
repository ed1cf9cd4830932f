/-
  OddHeader of the statements' own helpers: a header with one field changed.
-/
import Derived.Test.YtkhcfmnebflgkaaDoorJDice
import Derived.Test.YtkhcfmnebflgkaaDoorJBase
import Derived.Test.YtkhcfmnebflgkaaDoorDiceHeader
import Derived.Deep.DeepCutAuto
import Derived.Deep.CutBlock
namespace Go.Proofs.YtkhcfmnebflgkaaDoor
open Go Go.RowKit

/-- where the walk stands behind the switch -/
def OddR (w : World) (g : Nat) (wx : World) : Prop := ∃ h : Hd, h.Fits ∧ wx.heap[w.heap.size]? = some (.cells #[.int .i64 h.kind, .int .i64 h.tos, .int .i64 h.id, .int .i64 h.fixed, .int .i64 h.ttl, .int .i64 h.frm, .int .i64 h.to, .int .i64 h.fromPort, .int .i64 h.toPort, .int .i64 h.check, .int .i64 h.marker, .int .i64 h.type, .int .i64 h.seq, .int .i64 h.time, .int .i64 h.source] 23 (0, 0)) ∧ wx.heap[w.heap.size + 1]? = some (.cells #[.int .i64 0, .int .i64 0, .int .i64 0, .int .i64 0, .int .i64 0, .int .i64 0, .int .i64 0, .int .i64 0, .int .i64 0, .int .i64 0, .int .i64 0, .int .i64 0, .int .i64 0, .int .i64 0, .int .i64 0] 23 (0, 0)) ∧ DiceIn wx g ∧ w.grownBy wx (some g)

theorem odd_kind {w w5 : World} {g : Nat} {h : Hd} (hf : h.Fits) (v : Int) (hv : -9223372036854775808 ≤ v ∧ v ≤ 9223372036854775807) (K : w5.heap[w.heap.size]? = some (.cells #[.int .i64 h.kind, .int .i64 h.tos, .int .i64 h.id, .int .i64 h.fixed, .int .i64 h.ttl, .int .i64 h.frm, .int .i64 h.to, .int .i64 h.fromPort, .int .i64 h.toPort, .int .i64 h.check, .int .i64 h.marker, .int .i64 h.type, .int .i64 h.seq, .int .i64 h.time, .int .i64 h.source] 23 (0, 0))) (Z : w5.heap[w.heap.size + 1]? = some (.cells #[.int .i64 0, .int .i64 0, .int .i64 0, .int .i64 0, .int .i64 0, .int .i64 0, .int .i64 0, .int .i64 0, .int .i64 0, .int .i64 0, .int .i64 0, .int .i64 0, .int .i64 0, .int .i64 0, .int .i64 0] 23 (0, 0))) (D : DiceIn w5 g) (G : w.grownBy w5 (some g)) (hg : g < w.heap.size) :
    OddR w g (w5.setCell ⟨w.heap.size, 0, none⟩ (.int .i64 v)) := by
  obtain ⟨a0, a1, a2, a3, a4, a5, a6, a7, a8, a9, a10, a11, a12, a13, a14⟩ := h
  obtain ⟨b0, b1, b2, b3, b4, b5, b6, b7, b8, b9, b10, b11, b12, b13, b14⟩ := hf
  have q := blk_set K 0 (.int .i64 v)
  simp only [List.setIfInBounds_toArray, List.set_cons_zero] at q
  exact ⟨⟨v, a1, a2, a3, a4, a5, a6, a7, a8, a9, a10, a11, a12, a13, a14⟩, ⟨hv, b1, b2, b3, b4, b5, b6, b7, b8, b9, b10, b11, b12, b13, b14⟩, q, blk_set_ne Z (by omega) 0 _, D.set hg 0 _, grown_set G (Nat.le_refl _) 0 _⟩
theorem odd_tos {w w5 : World} {g : Nat} {h : Hd} (hf : h.Fits) (v : Int) (hv : -9223372036854775808 ≤ v ∧ v ≤ 9223372036854775807) (K : w5.heap[w.heap.size]? = some (.cells #[.int .i64 h.kind, .int .i64 h.tos, .int .i64 h.id, .int .i64 h.fixed, .int .i64 h.ttl, .int .i64 h.frm, .int .i64 h.to, .int .i64 h.fromPort, .int .i64 h.toPort, .int .i64 h.check, .int .i64 h.marker, .int .i64 h.type, .int .i64 h.seq, .int .i64 h.time, .int .i64 h.source] 23 (0, 0))) (Z : w5.heap[w.heap.size + 1]? = some (.cells #[.int .i64 0, .int .i64 0, .int .i64 0, .int .i64 0, .int .i64 0, .int .i64 0, .int .i64 0, .int .i64 0, .int .i64 0, .int .i64 0, .int .i64 0, .int .i64 0, .int .i64 0, .int .i64 0, .int .i64 0] 23 (0, 0))) (D : DiceIn w5 g) (G : w.grownBy w5 (some g)) (hg : g < w.heap.size) :
    OddR w g (w5.setCell ⟨w.heap.size, 1, none⟩ (.int .i64 v)) := by
  obtain ⟨a0, a1, a2, a3, a4, a5, a6, a7, a8, a9, a10, a11, a12, a13, a14⟩ := h
  obtain ⟨b0, b1, b2, b3, b4, b5, b6, b7, b8, b9, b10, b11, b12, b13, b14⟩ := hf
  have q := blk_set K 1 (.int .i64 v)
  simp only [List.setIfInBounds_toArray, List.set_cons_succ, List.set_cons_zero] at q
  exact ⟨⟨a0, v, a2, a3, a4, a5, a6, a7, a8, a9, a10, a11, a12, a13, a14⟩, ⟨b0, hv, b2, b3, b4, b5, b6, b7, b8, b9, b10, b11, b12, b13, b14⟩, q, blk_set_ne Z (by omega) 1 _, D.set hg 1 _, grown_set G (Nat.le_refl _) 1 _⟩
theorem odd_id {w w5 : World} {g : Nat} {h : Hd} (hf : h.Fits) (v : Int) (hv : -9223372036854775808 ≤ v ∧ v ≤ 9223372036854775807) (K : w5.heap[w.heap.size]? = some (.cells #[.int .i64 h.kind, .int .i64 h.tos, .int .i64 h.id, .int .i64 h.fixed, .int .i64 h.ttl, .int .i64 h.frm, .int .i64 h.to, .int .i64 h.fromPort, .int .i64 h.toPort, .int .i64 h.check, .int .i64 h.marker, .int .i64 h.type, .int .i64 h.seq, .int .i64 h.time, .int .i64 h.source] 23 (0, 0))) (Z : w5.heap[w.heap.size + 1]? = some (.cells #[.int .i64 0, .int .i64 0, .int .i64 0, .int .i64 0, .int .i64 0, .int .i64 0, .int .i64 0, .int .i64 0, .int .i64 0, .int .i64 0, .int .i64 0, .int .i64 0, .int .i64 0, .int .i64 0, .int .i64 0] 23 (0, 0))) (D : DiceIn w5 g) (G : w.grownBy w5 (some g)) (hg : g < w.heap.size) :
    OddR w g (w5.setCell ⟨w.heap.size, 2, none⟩ (.int .i64 v)) := by
  obtain ⟨a0, a1, a2, a3, a4, a5, a6, a7, a8, a9, a10, a11, a12, a13, a14⟩ := h
  obtain ⟨b0, b1, b2, b3, b4, b5, b6, b7, b8, b9, b10, b11, b12, b13, b14⟩ := hf
  have q := blk_set K 2 (.int .i64 v)
  simp only [List.setIfInBounds_toArray, List.set_cons_succ, List.set_cons_zero] at q
  exact ⟨⟨a0, a1, v, a3, a4, a5, a6, a7, a8, a9, a10, a11, a12, a13, a14⟩, ⟨b0, b1, hv, b3, b4, b5, b6, b7, b8, b9, b10, b11, b12, b13, b14⟩, q, blk_set_ne Z (by omega) 2 _, D.set hg 2 _, grown_set G (Nat.le_refl _) 2 _⟩
theorem odd_fixed {w w5 : World} {g : Nat} {h : Hd} (hf : h.Fits) (v : Int) (hv : -9223372036854775808 ≤ v ∧ v ≤ 9223372036854775807) (K : w5.heap[w.heap.size]? = some (.cells #[.int .i64 h.kind, .int .i64 h.tos, .int .i64 h.id, .int .i64 h.fixed, .int .i64 h.ttl, .int .i64 h.frm, .int .i64 h.to, .int .i64 h.fromPort, .int .i64 h.toPort, .int .i64 h.check, .int .i64 h.marker, .int .i64 h.type, .int .i64 h.seq, .int .i64 h.time, .int .i64 h.source] 23 (0, 0))) (Z : w5.heap[w.heap.size + 1]? = some (.cells #[.int .i64 0, .int .i64 0, .int .i64 0, .int .i64 0, .int .i64 0, .int .i64 0, .int .i64 0, .int .i64 0, .int .i64 0, .int .i64 0, .int .i64 0, .int .i64 0, .int .i64 0, .int .i64 0, .int .i64 0] 23 (0, 0))) (D : DiceIn w5 g) (G : w.grownBy w5 (some g)) (hg : g < w.heap.size) :
    OddR w g (w5.setCell ⟨w.heap.size, 3, none⟩ (.int .i64 v)) := by
  obtain ⟨a0, a1, a2, a3, a4, a5, a6, a7, a8, a9, a10, a11, a12, a13, a14⟩ := h
  obtain ⟨b0, b1, b2, b3, b4, b5, b6, b7, b8, b9, b10, b11, b12, b13, b14⟩ := hf
  have q := blk_set K 3 (.int .i64 v)
  simp only [List.setIfInBounds_toArray, List.set_cons_succ, List.set_cons_zero] at q
  exact ⟨⟨a0, a1, a2, v, a4, a5, a6, a7, a8, a9, a10, a11, a12, a13, a14⟩, ⟨b0, b1, b2, hv, b4, b5, b6, b7, b8, b9, b10, b11, b12, b13, b14⟩, q, blk_set_ne Z (by omega) 3 _, D.set hg 3 _, grown_set G (Nat.le_refl _) 3 _⟩
theorem odd_ttl {w w5 : World} {g : Nat} {h : Hd} (hf : h.Fits) (v : Int) (hv : -9223372036854775808 ≤ v ∧ v ≤ 9223372036854775807) (K : w5.heap[w.heap.size]? = some (.cells #[.int .i64 h.kind, .int .i64 h.tos, .int .i64 h.id, .int .i64 h.fixed, .int .i64 h.ttl, .int .i64 h.frm, .int .i64 h.to, .int .i64 h.fromPort, .int .i64 h.toPort, .int .i64 h.check, .int .i64 h.marker, .int .i64 h.type, .int .i64 h.seq, .int .i64 h.time, .int .i64 h.source] 23 (0, 0))) (Z : w5.heap[w.heap.size + 1]? = some (.cells #[.int .i64 0, .int .i64 0, .int .i64 0, .int .i64 0, .int .i64 0, .int .i64 0, .int .i64 0, .int .i64 0, .int .i64 0, .int .i64 0, .int .i64 0, .int .i64 0, .int .i64 0, .int .i64 0, .int .i64 0] 23 (0, 0))) (D : DiceIn w5 g) (G : w.grownBy w5 (some g)) (hg : g < w.heap.size) :
    OddR w g (w5.setCell ⟨w.heap.size, 4, none⟩ (.int .i64 v)) := by
  obtain ⟨a0, a1, a2, a3, a4, a5, a6, a7, a8, a9, a10, a11, a12, a13, a14⟩ := h
  obtain ⟨b0, b1, b2, b3, b4, b5, b6, b7, b8, b9, b10, b11, b12, b13, b14⟩ := hf
  have q := blk_set K 4 (.int .i64 v)
  simp only [List.setIfInBounds_toArray, List.set_cons_succ, List.set_cons_zero] at q
  exact ⟨⟨a0, a1, a2, a3, v, a5, a6, a7, a8, a9, a10, a11, a12, a13, a14⟩, ⟨b0, b1, b2, b3, hv, b5, b6, b7, b8, b9, b10, b11, b12, b13, b14⟩, q, blk_set_ne Z (by omega) 4 _, D.set hg 4 _, grown_set G (Nat.le_refl _) 4 _⟩
theorem odd_frm {w w5 : World} {g : Nat} {h : Hd} (hf : h.Fits) (v : Int) (hv : -9223372036854775808 ≤ v ∧ v ≤ 9223372036854775807) (K : w5.heap[w.heap.size]? = some (.cells #[.int .i64 h.kind, .int .i64 h.tos, .int .i64 h.id, .int .i64 h.fixed, .int .i64 h.ttl, .int .i64 h.frm, .int .i64 h.to, .int .i64 h.fromPort, .int .i64 h.toPort, .int .i64 h.check, .int .i64 h.marker, .int .i64 h.type, .int .i64 h.seq, .int .i64 h.time, .int .i64 h.source] 23 (0, 0))) (Z : w5.heap[w.heap.size + 1]? = some (.cells #[.int .i64 0, .int .i64 0, .int .i64 0, .int .i64 0, .int .i64 0, .int .i64 0, .int .i64 0, .int .i64 0, .int .i64 0, .int .i64 0, .int .i64 0, .int .i64 0, .int .i64 0, .int .i64 0, .int .i64 0] 23 (0, 0))) (D : DiceIn w5 g) (G : w.grownBy w5 (some g)) (hg : g < w.heap.size) :
    OddR w g (w5.setCell ⟨w.heap.size, 5, none⟩ (.int .i64 v)) := by
  obtain ⟨a0, a1, a2, a3, a4, a5, a6, a7, a8, a9, a10, a11, a12, a13, a14⟩ := h
  obtain ⟨b0, b1, b2, b3, b4, b5, b6, b7, b8, b9, b10, b11, b12, b13, b14⟩ := hf
  have q := blk_set K 5 (.int .i64 v)
  simp only [List.setIfInBounds_toArray, List.set_cons_succ, List.set_cons_zero] at q
  exact ⟨⟨a0, a1, a2, a3, a4, v, a6, a7, a8, a9, a10, a11, a12, a13, a14⟩, ⟨b0, b1, b2, b3, b4, hv, b6, b7, b8, b9, b10, b11, b12, b13, b14⟩, q, blk_set_ne Z (by omega) 5 _, D.set hg 5 _, grown_set G (Nat.le_refl _) 5 _⟩
theorem odd_to {w w5 : World} {g : Nat} {h : Hd} (hf : h.Fits) (v : Int) (hv : -9223372036854775808 ≤ v ∧ v ≤ 9223372036854775807) (K : w5.heap[w.heap.size]? = some (.cells #[.int .i64 h.kind, .int .i64 h.tos, .int .i64 h.id, .int .i64 h.fixed, .int .i64 h.ttl, .int .i64 h.frm, .int .i64 h.to, .int .i64 h.fromPort, .int .i64 h.toPort, .int .i64 h.check, .int .i64 h.marker, .int .i64 h.type, .int .i64 h.seq, .int .i64 h.time, .int .i64 h.source] 23 (0, 0))) (Z : w5.heap[w.heap.size + 1]? = some (.cells #[.int .i64 0, .int .i64 0, .int .i64 0, .int .i64 0, .int .i64 0, .int .i64 0, .int .i64 0, .int .i64 0, .int .i64 0, .int .i64 0, .int .i64 0, .int .i64 0, .int .i64 0, .int .i64 0, .int .i64 0] 23 (0, 0))) (D : DiceIn w5 g) (G : w.grownBy w5 (some g)) (hg : g < w.heap.size) :
    OddR w g (w5.setCell ⟨w.heap.size, 6, none⟩ (.int .i64 v)) := by
  obtain ⟨a0, a1, a2, a3, a4, a5, a6, a7, a8, a9, a10, a11, a12, a13, a14⟩ := h
  obtain ⟨b0, b1, b2, b3, b4, b5, b6, b7, b8, b9, b10, b11, b12, b13, b14⟩ := hf
  have q := blk_set K 6 (.int .i64 v)
  simp only [List.setIfInBounds_toArray, List.set_cons_succ, List.set_cons_zero] at q
  exact ⟨⟨a0, a1, a2, a3, a4, a5, v, a7, a8, a9, a10, a11, a12, a13, a14⟩, ⟨b0, b1, b2, b3, b4, b5, hv, b7, b8, b9, b10, b11, b12, b13, b14⟩, q, blk_set_ne Z (by omega) 6 _, D.set hg 6 _, grown_set G (Nat.le_refl _) 6 _⟩
theorem odd_fromPort {w w5 : World} {g : Nat} {h : Hd} (hf : h.Fits) (v : Int) (hv : -9223372036854775808 ≤ v ∧ v ≤ 9223372036854775807) (K : w5.heap[w.heap.size]? = some (.cells #[.int .i64 h.kind, .int .i64 h.tos, .int .i64 h.id, .int .i64 h.fixed, .int .i64 h.ttl, .int .i64 h.frm, .int .i64 h.to, .int .i64 h.fromPort, .int .i64 h.toPort, .int .i64 h.check, .int .i64 h.marker, .int .i64 h.type, .int .i64 h.seq, .int .i64 h.time, .int .i64 h.source] 23 (0, 0))) (Z : w5.heap[w.heap.size + 1]? = some (.cells #[.int .i64 0, .int .i64 0, .int .i64 0, .int .i64 0, .int .i64 0, .int .i64 0, .int .i64 0, .int .i64 0, .int .i64 0, .int .i64 0, .int .i64 0, .int .i64 0, .int .i64 0, .int .i64 0, .int .i64 0] 23 (0, 0))) (D : DiceIn w5 g) (G : w.grownBy w5 (some g)) (hg : g < w.heap.size) :
    OddR w g (w5.setCell ⟨w.heap.size, 7, none⟩ (.int .i64 v)) := by
  obtain ⟨a0, a1, a2, a3, a4, a5, a6, a7, a8, a9, a10, a11, a12, a13, a14⟩ := h
  obtain ⟨b0, b1, b2, b3, b4, b5, b6, b7, b8, b9, b10, b11, b12, b13, b14⟩ := hf
  have q := blk_set K 7 (.int .i64 v)
  simp only [List.setIfInBounds_toArray, List.set_cons_succ, List.set_cons_zero] at q
  exact ⟨⟨a0, a1, a2, a3, a4, a5, a6, v, a8, a9, a10, a11, a12, a13, a14⟩, ⟨b0, b1, b2, b3, b4, b5, b6, hv, b8, b9, b10, b11, b12, b13, b14⟩, q, blk_set_ne Z (by omega) 7 _, D.set hg 7 _, grown_set G (Nat.le_refl _) 7 _⟩
theorem odd_toPort {w w5 : World} {g : Nat} {h : Hd} (hf : h.Fits) (v : Int) (hv : -9223372036854775808 ≤ v ∧ v ≤ 9223372036854775807) (K : w5.heap[w.heap.size]? = some (.cells #[.int .i64 h.kind, .int .i64 h.tos, .int .i64 h.id, .int .i64 h.fixed, .int .i64 h.ttl, .int .i64 h.frm, .int .i64 h.to, .int .i64 h.fromPort, .int .i64 h.toPort, .int .i64 h.check, .int .i64 h.marker, .int .i64 h.type, .int .i64 h.seq, .int .i64 h.time, .int .i64 h.source] 23 (0, 0))) (Z : w5.heap[w.heap.size + 1]? = some (.cells #[.int .i64 0, .int .i64 0, .int .i64 0, .int .i64 0, .int .i64 0, .int .i64 0, .int .i64 0, .int .i64 0, .int .i64 0, .int .i64 0, .int .i64 0, .int .i64 0, .int .i64 0, .int .i64 0, .int .i64 0] 23 (0, 0))) (D : DiceIn w5 g) (G : w.grownBy w5 (some g)) (hg : g < w.heap.size) :
    OddR w g (w5.setCell ⟨w.heap.size, 8, none⟩ (.int .i64 v)) := by
  obtain ⟨a0, a1, a2, a3, a4, a5, a6, a7, a8, a9, a10, a11, a12, a13, a14⟩ := h
  obtain ⟨b0, b1, b2, b3, b4, b5, b6, b7, b8, b9, b10, b11, b12, b13, b14⟩ := hf
  have q := blk_set K 8 (.int .i64 v)
  simp only [List.setIfInBounds_toArray, List.set_cons_succ, List.set_cons_zero] at q
  exact ⟨⟨a0, a1, a2, a3, a4, a5, a6, a7, v, a9, a10, a11, a12, a13, a14⟩, ⟨b0, b1, b2, b3, b4, b5, b6, b7, hv, b9, b10, b11, b12, b13, b14⟩, q, blk_set_ne Z (by omega) 8 _, D.set hg 8 _, grown_set G (Nat.le_refl _) 8 _⟩
theorem odd_check {w w5 : World} {g : Nat} {h : Hd} (hf : h.Fits) (v : Int) (hv : -9223372036854775808 ≤ v ∧ v ≤ 9223372036854775807) (K : w5.heap[w.heap.size]? = some (.cells #[.int .i64 h.kind, .int .i64 h.tos, .int .i64 h.id, .int .i64 h.fixed, .int .i64 h.ttl, .int .i64 h.frm, .int .i64 h.to, .int .i64 h.fromPort, .int .i64 h.toPort, .int .i64 h.check, .int .i64 h.marker, .int .i64 h.type, .int .i64 h.seq, .int .i64 h.time, .int .i64 h.source] 23 (0, 0))) (Z : w5.heap[w.heap.size + 1]? = some (.cells #[.int .i64 0, .int .i64 0, .int .i64 0, .int .i64 0, .int .i64 0, .int .i64 0, .int .i64 0, .int .i64 0, .int .i64 0, .int .i64 0, .int .i64 0, .int .i64 0, .int .i64 0, .int .i64 0, .int .i64 0] 23 (0, 0))) (D : DiceIn w5 g) (G : w.grownBy w5 (some g)) (hg : g < w.heap.size) :
    OddR w g (w5.setCell ⟨w.heap.size, 9, none⟩ (.int .i64 v)) := by
  obtain ⟨a0, a1, a2, a3, a4, a5, a6, a7, a8, a9, a10, a11, a12, a13, a14⟩ := h
  obtain ⟨b0, b1, b2, b3, b4, b5, b6, b7, b8, b9, b10, b11, b12, b13, b14⟩ := hf
  have q := blk_set K 9 (.int .i64 v)
  simp only [List.setIfInBounds_toArray, List.set_cons_succ, List.set_cons_zero] at q
  exact ⟨⟨a0, a1, a2, a3, a4, a5, a6, a7, a8, v, a10, a11, a12, a13, a14⟩, ⟨b0, b1, b2, b3, b4, b5, b6, b7, b8, hv, b10, b11, b12, b13, b14⟩, q, blk_set_ne Z (by omega) 9 _, D.set hg 9 _, grown_set G (Nat.le_refl _) 9 _⟩
theorem odd_marker {w w5 : World} {g : Nat} {h : Hd} (hf : h.Fits) (v : Int) (hv : -9223372036854775808 ≤ v ∧ v ≤ 9223372036854775807) (K : w5.heap[w.heap.size]? = some (.cells #[.int .i64 h.kind, .int .i64 h.tos, .int .i64 h.id, .int .i64 h.fixed, .int .i64 h.ttl, .int .i64 h.frm, .int .i64 h.to, .int .i64 h.fromPort, .int .i64 h.toPort, .int .i64 h.check, .int .i64 h.marker, .int .i64 h.type, .int .i64 h.seq, .int .i64 h.time, .int .i64 h.source] 23 (0, 0))) (Z : w5.heap[w.heap.size + 1]? = some (.cells #[.int .i64 0, .int .i64 0, .int .i64 0, .int .i64 0, .int .i64 0, .int .i64 0, .int .i64 0, .int .i64 0, .int .i64 0, .int .i64 0, .int .i64 0, .int .i64 0, .int .i64 0, .int .i64 0, .int .i64 0] 23 (0, 0))) (D : DiceIn w5 g) (G : w.grownBy w5 (some g)) (hg : g < w.heap.size) :
    OddR w g (w5.setCell ⟨w.heap.size, 10, none⟩ (.int .i64 v)) := by
  obtain ⟨a0, a1, a2, a3, a4, a5, a6, a7, a8, a9, a10, a11, a12, a13, a14⟩ := h
  obtain ⟨b0, b1, b2, b3, b4, b5, b6, b7, b8, b9, b10, b11, b12, b13, b14⟩ := hf
  have q := blk_set K 10 (.int .i64 v)
  simp only [List.setIfInBounds_toArray, List.set_cons_succ, List.set_cons_zero] at q
  exact ⟨⟨a0, a1, a2, a3, a4, a5, a6, a7, a8, a9, v, a11, a12, a13, a14⟩, ⟨b0, b1, b2, b3, b4, b5, b6, b7, b8, b9, hv, b11, b12, b13, b14⟩, q, blk_set_ne Z (by omega) 10 _, D.set hg 10 _, grown_set G (Nat.le_refl _) 10 _⟩
theorem odd_type {w w5 : World} {g : Nat} {h : Hd} (hf : h.Fits) (v : Int) (hv : -9223372036854775808 ≤ v ∧ v ≤ 9223372036854775807) (K : w5.heap[w.heap.size]? = some (.cells #[.int .i64 h.kind, .int .i64 h.tos, .int .i64 h.id, .int .i64 h.fixed, .int .i64 h.ttl, .int .i64 h.frm, .int .i64 h.to, .int .i64 h.fromPort, .int .i64 h.toPort, .int .i64 h.check, .int .i64 h.marker, .int .i64 h.type, .int .i64 h.seq, .int .i64 h.time, .int .i64 h.source] 23 (0, 0))) (Z : w5.heap[w.heap.size + 1]? = some (.cells #[.int .i64 0, .int .i64 0, .int .i64 0, .int .i64 0, .int .i64 0, .int .i64 0, .int .i64 0, .int .i64 0, .int .i64 0, .int .i64 0, .int .i64 0, .int .i64 0, .int .i64 0, .int .i64 0, .int .i64 0] 23 (0, 0))) (D : DiceIn w5 g) (G : w.grownBy w5 (some g)) (hg : g < w.heap.size) :
    OddR w g (w5.setCell ⟨w.heap.size, 11, none⟩ (.int .i64 v)) := by
  obtain ⟨a0, a1, a2, a3, a4, a5, a6, a7, a8, a9, a10, a11, a12, a13, a14⟩ := h
  obtain ⟨b0, b1, b2, b3, b4, b5, b6, b7, b8, b9, b10, b11, b12, b13, b14⟩ := hf
  have q := blk_set K 11 (.int .i64 v)
  simp only [List.setIfInBounds_toArray, List.set_cons_succ, List.set_cons_zero] at q
  exact ⟨⟨a0, a1, a2, a3, a4, a5, a6, a7, a8, a9, a10, v, a12, a13, a14⟩, ⟨b0, b1, b2, b3, b4, b5, b6, b7, b8, b9, b10, hv, b12, b13, b14⟩, q, blk_set_ne Z (by omega) 11 _, D.set hg 11 _, grown_set G (Nat.le_refl _) 11 _⟩
theorem odd_seq {w w5 : World} {g : Nat} {h : Hd} (hf : h.Fits) (v : Int) (hv : -9223372036854775808 ≤ v ∧ v ≤ 9223372036854775807) (K : w5.heap[w.heap.size]? = some (.cells #[.int .i64 h.kind, .int .i64 h.tos, .int .i64 h.id, .int .i64 h.fixed, .int .i64 h.ttl, .int .i64 h.frm, .int .i64 h.to, .int .i64 h.fromPort, .int .i64 h.toPort, .int .i64 h.check, .int .i64 h.marker, .int .i64 h.type, .int .i64 h.seq, .int .i64 h.time, .int .i64 h.source] 23 (0, 0))) (Z : w5.heap[w.heap.size + 1]? = some (.cells #[.int .i64 0, .int .i64 0, .int .i64 0, .int .i64 0, .int .i64 0, .int .i64 0, .int .i64 0, .int .i64 0, .int .i64 0, .int .i64 0, .int .i64 0, .int .i64 0, .int .i64 0, .int .i64 0, .int .i64 0] 23 (0, 0))) (D : DiceIn w5 g) (G : w.grownBy w5 (some g)) (hg : g < w.heap.size) :
    OddR w g (w5.setCell ⟨w.heap.size, 12, none⟩ (.int .i64 v)) := by
  obtain ⟨a0, a1, a2, a3, a4, a5, a6, a7, a8, a9, a10, a11, a12, a13, a14⟩ := h
  obtain ⟨b0, b1, b2, b3, b4, b5, b6, b7, b8, b9, b10, b11, b12, b13, b14⟩ := hf
  have q := blk_set K 12 (.int .i64 v)
  simp only [List.setIfInBounds_toArray, List.set_cons_succ, List.set_cons_zero] at q
  exact ⟨⟨a0, a1, a2, a3, a4, a5, a6, a7, a8, a9, a10, a11, v, a13, a14⟩, ⟨b0, b1, b2, b3, b4, b5, b6, b7, b8, b9, b10, b11, hv, b13, b14⟩, q, blk_set_ne Z (by omega) 12 _, D.set hg 12 _, grown_set G (Nat.le_refl _) 12 _⟩
theorem odd_time {w w5 : World} {g : Nat} {h : Hd} (hf : h.Fits) (v : Int) (hv : -9223372036854775808 ≤ v ∧ v ≤ 9223372036854775807) (K : w5.heap[w.heap.size]? = some (.cells #[.int .i64 h.kind, .int .i64 h.tos, .int .i64 h.id, .int .i64 h.fixed, .int .i64 h.ttl, .int .i64 h.frm, .int .i64 h.to, .int .i64 h.fromPort, .int .i64 h.toPort, .int .i64 h.check, .int .i64 h.marker, .int .i64 h.type, .int .i64 h.seq, .int .i64 h.time, .int .i64 h.source] 23 (0, 0))) (Z : w5.heap[w.heap.size + 1]? = some (.cells #[.int .i64 0, .int .i64 0, .int .i64 0, .int .i64 0, .int .i64 0, .int .i64 0, .int .i64 0, .int .i64 0, .int .i64 0, .int .i64 0, .int .i64 0, .int .i64 0, .int .i64 0, .int .i64 0, .int .i64 0] 23 (0, 0))) (D : DiceIn w5 g) (G : w.grownBy w5 (some g)) (hg : g < w.heap.size) :
    OddR w g (w5.setCell ⟨w.heap.size, 13, none⟩ (.int .i64 v)) := by
  obtain ⟨a0, a1, a2, a3, a4, a5, a6, a7, a8, a9, a10, a11, a12, a13, a14⟩ := h
  obtain ⟨b0, b1, b2, b3, b4, b5, b6, b7, b8, b9, b10, b11, b12, b13, b14⟩ := hf
  have q := blk_set K 13 (.int .i64 v)
  simp only [List.setIfInBounds_toArray, List.set_cons_succ, List.set_cons_zero] at q
  exact ⟨⟨a0, a1, a2, a3, a4, a5, a6, a7, a8, a9, a10, a11, a12, v, a14⟩, ⟨b0, b1, b2, b3, b4, b5, b6, b7, b8, b9, b10, b11, b12, hv, b14⟩, q, blk_set_ne Z (by omega) 13 _, D.set hg 13 _, grown_set G (Nat.le_refl _) 13 _⟩
theorem odd_source {w w5 : World} {g : Nat} {h : Hd} (hf : h.Fits) (v : Int) (hv : -9223372036854775808 ≤ v ∧ v ≤ 9223372036854775807) (K : w5.heap[w.heap.size]? = some (.cells #[.int .i64 h.kind, .int .i64 h.tos, .int .i64 h.id, .int .i64 h.fixed, .int .i64 h.ttl, .int .i64 h.frm, .int .i64 h.to, .int .i64 h.fromPort, .int .i64 h.toPort, .int .i64 h.check, .int .i64 h.marker, .int .i64 h.type, .int .i64 h.seq, .int .i64 h.time, .int .i64 h.source] 23 (0, 0))) (Z : w5.heap[w.heap.size + 1]? = some (.cells #[.int .i64 0, .int .i64 0, .int .i64 0, .int .i64 0, .int .i64 0, .int .i64 0, .int .i64 0, .int .i64 0, .int .i64 0, .int .i64 0, .int .i64 0, .int .i64 0, .int .i64 0, .int .i64 0, .int .i64 0] 23 (0, 0))) (D : DiceIn w5 g) (G : w.grownBy w5 (some g)) (hg : g < w.heap.size) :
    OddR w g (w5.setCell ⟨w.heap.size, 14, none⟩ (.int .i64 v)) := by
  obtain ⟨a0, a1, a2, a3, a4, a5, a6, a7, a8, a9, a10, a11, a12, a13, a14⟩ := h
  obtain ⟨b0, b1, b2, b3, b4, b5, b6, b7, b8, b9, b10, b11, b12, b13, b14⟩ := hf
  have q := blk_set K 14 (.int .i64 v)
  simp only [List.setIfInBounds_toArray, List.set_cons_succ, List.set_cons_zero] at q
  exact ⟨⟨a0, a1, a2, a3, a4, a5, a6, a7, a8, a9, a10, a11, a12, a13, v⟩, ⟨b0, b1, b2, b3, b4, b5, b6, b7, b8, b9, b10, b11, b12, b13, hv⟩, q, blk_set_ne Z (by omega) 14 _, D.set hg 14 _, grown_set G (Nat.le_refl _) 14 _⟩

def odds : List Int := [-1, 0, 1, 2, 127, 128, 255, 256, 65535, 65536, 4294967296, 4611686018427387904]
theorem odds_fit (i : Nat) : -9223372036854775808 ≤ odds.getD i 0 ∧ odds.getD i 0 ≤ 9223372036854775807 := by
  by_cases hi : i < odds.length
  · have : ∀ z ∈ odds, -9223372036854775808 ≤ z ∧ z ≤ 9223372036854775807 := by decide
    exact this _ (getD_mem hi)
  · rw [List.getD_eq_getElem?_getD, List.getElem?_eq_none (by omega)]; decide

set_option maxRecDepth 100000 in
set_option maxHeartbeats 6400000 in
theorem odd_in (g : Nat) (h : Hd) (w : World) (hd : DiceIn w g) (hf : h.Fits) :
    Calls Tryd.prog 50 #[.pointer (some ⟨g, 0, none⟩), (.agg #[.int .i64 h.kind, .int .i64 h.tos, .int .i64 h.id, .int .i64 h.fixed, .int .i64 h.ttl, .int .i64 h.frm, .int .i64 h.to, .int .i64 h.fromPort, .int .i64 h.toPort, .int .i64 h.check, .int .i64 h.marker, .int .i64 h.type, .int .i64 h.seq, .int .i64 h.time, .int .i64 h.source])] w fun e w' => ∃ x : Hd, e = .returned (.agg #[.int .i64 x.kind, .int .i64 x.tos, .int .i64 x.id, .int .i64 x.fixed, .int .i64 x.ttl, .int .i64 x.frm, .int .i64 x.to, .int .i64 x.fromPort, .int .i64 x.toPort, .int .i64 x.check, .int .i64 x.marker, .int .i64 x.type, .int .i64 x.seq, .int .i64 x.time, .int .i64 x.source]) ∧ x.Fits ∧ DiceIn w' g ∧ w.grownBy w' (some g) := by
  have hlt := hd.lt
  have HD := Lib.hid hd
  have HF := Lib.hid hf
  clear hd hf
  go_enter Tryd.func50, Tryd.ntmps50
  go_wp2_with fail
  have Z0 := heap_alloc_new w (.cells #[.int .i64 h.kind, .int .i64 h.tos, .int .i64 h.id, .int .i64 h.fixed, .int .i64 h.ttl, .int .i64 h.frm, .int .i64 h.to, .int .i64 h.fromPort, .int .i64 h.toPort, .int .i64 h.check, .int .i64 h.marker, .int .i64 h.type, .int .i64 h.seq, .int .i64 h.time, .int .i64 h.source] 23)
  refine (next_in g 12 _ (((HD.out.alloc _).alloc _).alloc _) (by omega) (by omega)).mono ?_
  rintro e w4 ⟨r, rfl, r0, r1, hd4, hg4⟩
  obtain ⟨i, rfl⟩ := Int.eq_ofNat_of_zero_le r0
  have hi : i < 12 := by omega
  have K4 := Lib.hid ((hg4.block w.heap.size (by simp; omega) (by simp; omega)).trans ((heap_alloc_old _ _ (by simp; omega)).trans ((heap_alloc_old _ _ (by simp)).trans Z0)))
  have Z4 : Hid (w4.heap[w.heap.size + 1]? = some (.cells #[.int .i64 0, .int .i64 0, .int .i64 0, .int .i64 0, .int .i64 0, .int .i64 0, .int .i64 0, .int .i64 0, .int .i64 0, .int .i64 0, .int .i64 0, .int .i64 0, .int .i64 0, .int .i64 0, .int .i64 0] 23 (0, 0))) := Lib.hid ((hg4.block (w.heap.size + 1) (by simp) (by simp; omega)).trans ((heap_alloc_old _ _ (by simp)).trans (by
    have q := heap_alloc_new (w.alloc (.cells #[.int .i64 h.kind, .int .i64 h.tos, .int .i64 h.id, .int .i64 h.fixed, .int .i64 h.ttl, .int .i64 h.frm, .int .i64 h.to, .int .i64 h.fromPort, .int .i64 h.toPort, .int .i64 h.check, .int .i64 h.marker, .int .i64 h.type, .int .i64 h.seq, .int .i64 h.time, .int .i64 h.source] 23)) (.cells #[.int .i64 0, .int .i64 0, .int .i64 0, .int .i64 0, .int .i64 0, .int .i64 0, .int .i64 0, .int .i64 0, .int .i64 0, .int .i64 0, .int .i64 0, .int .i64 0, .int .i64 0, .int .i64 0, .int .i64 0] 23)
    rw [show (w.alloc (.cells #[.int .i64 h.kind, .int .i64 h.tos, .int .i64 h.id, .int .i64 h.fixed, .int .i64 h.ttl, .int .i64 h.frm, .int .i64 h.to, .int .i64 h.fromPort, .int .i64 h.toPort, .int .i64 h.check, .int .i64 h.marker, .int .i64 h.type, .int .i64 h.seq, .int .i64 h.time, .int .i64 h.source] 23)).heap.size = w.heap.size + 1 by simp] at q
    exact q)))
  have SL : Sl .i64 _ (some ⟨w.heap.size + 2, 0, none⟩) 12 odds := Sl.lit .i64 ((w.alloc (.cells #[.int .i64 h.kind, .int .i64 h.tos, .int .i64 h.id, .int .i64 h.fixed, .int .i64 h.ttl, .int .i64 h.frm, .int .i64 h.to, .int .i64 h.fromPort, .int .i64 h.toPort, .int .i64 h.check, .int .i64 h.marker, .int .i64 h.type, .int .i64 h.seq, .int .i64 h.time, .int .i64 h.source] 23)).alloc (.cells #[.int .i64 0, .int .i64 0, .int .i64 0, .int .i64 0, .int .i64 0, .int .i64 0, .int .i64 0, .int .i64 0, .int .i64 0, .int .i64 0, .int .i64 0, .int .i64 0, .int .i64 0, .int .i64 0, .int .i64 0] 23)) odds 3 12 (w.heap.size + 2) (by simp) rfl (by omega) (by decide)
  have S4 := SL.keepRow hg4 (fun x hx _ e => by cases hx; have e2 : w.heap.size + 2 = g := Option.some.inj e; omega)
  have c4 := S4.at (i := i) hi
  have v4 := odds_fit i
  generalize odds.getD i 0 = v at c4 v4
  rw [Nat.zero_add] at c4
  have D4 := Lib.hid hd4
  have G4 := Lib.hid ((((World.grownBy_alloc w _ (some g)).trans (World.grownBy_alloc _ _ (some g))).trans (World.grownBy_alloc _ _ (some g))).trans hg4)
  clear hd4 hg4 SL S4 Z0
  have hI : (i : Int) < 12 := by omega
  go_wp2_with fail
  clear c4 hI
  refine (next_in g 15 _ D4.out (by omega) (by omega)).mono ?_
  rintro e w5 ⟨k, rfl, k0, k1, hd5, hg5⟩
  have K5 := (hg5.block w.heap.size (lt_of_block K4.out) (by simp; omega)).trans K4.out
  have Z5 := (hg5.block (w.heap.size + 1) (lt_of_block Z4.out) (by simp; omega)).trans Z4.out
  have D5 := Lib.hid hd5
  have G5 := Lib.hid (G4.out.trans hg5)
  clear hd5 hg5 K4 Z4 D4 G4
  have hc5 := cells_of K5
  have hf5 := frozen_of K5
  replace K5 := Lib.hid K5
  replace Z5 := Lib.hid Z5
  go_upto_block 0 with fail
  go_cut [] (fun wx => OddR w g wx)
  case first =>
    go_wp2
    all_goals go_meet
    all_goals first
      | with_reducible exact odd_kind HF.out v v4 K5.out Z5.out D5.out G5.out hlt
      | with_reducible exact odd_tos HF.out v v4 K5.out Z5.out D5.out G5.out hlt
      | with_reducible exact odd_id HF.out v v4 K5.out Z5.out D5.out G5.out hlt
      | with_reducible exact odd_fixed HF.out v v4 K5.out Z5.out D5.out G5.out hlt
      | with_reducible exact odd_ttl HF.out v v4 K5.out Z5.out D5.out G5.out hlt
      | with_reducible exact odd_frm HF.out v v4 K5.out Z5.out D5.out G5.out hlt
      | with_reducible exact odd_to HF.out v v4 K5.out Z5.out D5.out G5.out hlt
      | with_reducible exact odd_fromPort HF.out v v4 K5.out Z5.out D5.out G5.out hlt
      | with_reducible exact odd_toPort HF.out v v4 K5.out Z5.out D5.out G5.out hlt
      | with_reducible exact odd_check HF.out v v4 K5.out Z5.out D5.out G5.out hlt
      | with_reducible exact odd_marker HF.out v v4 K5.out Z5.out D5.out G5.out hlt
      | with_reducible exact odd_type HF.out v v4 K5.out Z5.out D5.out G5.out hlt
      | with_reducible exact odd_seq HF.out v v4 K5.out Z5.out D5.out G5.out hlt
      | with_reducible exact odd_time HF.out v v4 K5.out Z5.out D5.out G5.out hlt
      | with_reducible exact odd_source HF.out v v4 K5.out Z5.out D5.out G5.out hlt
  case rest =>
    clear hc5 hf5 K5 Z5 D5 G5 HF
    obtain ⟨x, hx, KX, ZX, DX, GX⟩ := hcut
    have hcx := cells_of KX
    have hcz := cells_of ZX
    have hfz := frozen_of ZX
    have hxs := lt_of_block ZX
    replace KX := Lib.hid KX
    go_wp2
    clear hcx hcz hfz
    refine at_put (Q := bodyPost _ _ _ _ _) x ⟨0, 0, 0, 0, 0, 0, 0, 0, 0, 0, 0, 0, 0, 0, 0⟩ _ (w.heap.size + 1) ZX ?_
    intro w7 K7 G7
    have hc7 := cells_of K7
    refine bodyPost_ret (v := (.agg #[.int .i64 x.kind, .int .i64 x.tos, .int .i64 x.id, .int .i64 x.fixed, .int .i64 x.ttl, .int .i64 x.frm, .int .i64 x.to, .int .i64 x.fromPort, .int .i64 x.toPort, .int .i64 x.check, .int .i64 x.marker, .int .i64 x.type, .int .i64 x.seq, .int .i64 x.time, .int .i64 x.source])) (by simp [results, Tryd.results50, go_sem, hc7]) rfl ?_
    refine ⟨x, rfl, hx, DX.keepRow G7 (fun b hb => by cases hb; omega), ?_⟩
    exact grown_then GX G7 (fun j hj => .inr (by cases hj; omega))
end Go.Proofs.YtkhcfmnebflgkaaDoor
