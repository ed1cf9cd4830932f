/-
  Headers that the statements make: Header of the dice.
-/
import Derived.Test.YtkhcfmnebflgkaaDoorJDice
import Derived.Test.YtkhcfmnebflgkaaDoorJBase
import Derived.Deep.DeepCutAuto
namespace Go.Proofs.YtkhcfmnebflgkaaDoor
open Go Go.RowKit

theorem DiceIn.set {w : World} {g b : Nat} (h : DiceIn w g) (hb : g < b) (i : Nat) (u : Value) : DiceIn (w.setCell ⟨b, i, none⟩ u) g := h.keepRow (setCell_but w b i u) (fun k hk => by cases hk; exact hb)

/-- what a made header of flow f has -/
structure Hd.Made (f : Int) (h : Hd) : Prop where
  kind : h.kind = 1 + f % 2
  ttl0 : 64 ≤ h.ttl
  ttl1 : h.ttl ≤ 65
  tos1 : h.tos ≤ 1
  frm : h.frm = 167772161
  dest : h.to = 167772162 + f / 2
  fromPort : h.fromPort = 5000
  toPort : h.toPort = 6000 + f
  type : h.kind = 2 → h.type = 96
  source : h.kind = 2 → h.source = 77 + f

set_option maxRecDepth 100000 in
set_option maxHeartbeats 3200000 in
theorem header_udp (g : Nat) (f : Int) (w : World) (hd : DiceIn w g) (f0 : 0 ≤ f) (f1 : f ≤ 50000) (hk : f % 2 = 0) :
    Calls Tryd.prog 47 #[.pointer (some ⟨g, 0, none⟩), .int .i64 f] w fun e w' => ∃ h : Hd, e = .returned (.agg #[.int .i64 h.kind, .int .i64 h.tos, .int .i64 h.id, .int .i64 h.fixed, .int .i64 h.ttl, .int .i64 h.frm, .int .i64 h.to, .int .i64 h.fromPort, .int .i64 h.toPort, .int .i64 h.check, .int .i64 h.marker, .int .i64 h.type, .int .i64 h.seq, .int .i64 h.time, .int .i64 h.source]) ∧ h.Valid ∧ h.Made f ∧ DiceIn w' g ∧ w.grownBy w' (some g) := by
  have hlt := hd.lt
  have m0 := Int.emod_nonneg f (show (2 : Int) ≠ 0 by omega)
  have m1 := Int.emod_lt_of_pos f (show (0 : Int) < 2 by omega)
  have C0 := Lib.hid (fun W => mod_any f 2 W (by omega) (by omega) (by omega) (by omega))
  have D0 := Lib.hid (hd.alloc (.cells #[.int .i64 0, .int .i64 0, .int .i64 0, .int .i64 0, .int .i64 0, .int .i64 0, .int .i64 0, .int .i64 0, .int .i64 0, .int .i64 0, .int .i64 0, .int .i64 0, .int .i64 0, .int .i64 0, .int .i64 0] 23))
  have G0 := Lib.hid (World.grownBy.refl (w.alloc (.cells #[.int .i64 0, .int .i64 0, .int .i64 0, .int .i64 0, .int .i64 0, .int .i64 0, .int .i64 0, .int .i64 0, .int .i64 0, .int .i64 0, .int .i64 0, .int .i64 0, .int .i64 0, .int .i64 0, .int .i64 0] 23)) (some g))
  clear hd
  go_enter Tryd.func47, Tryd.ntmps47
  go_upto_region 2 with (first
    | (go_at_call 57; refine (C0.out _).mono ?_; rintro e w' ⟨rfl, rfl⟩)
    | (go_at_call 26; ((with_reducible refine (next_in g _ _ D0.out (by omega) (by omega)).mono ?_); rintro e w1 ⟨r1, rfl, h10, h11, hd, hg⟩; have D1 := Lib.hid hd; have G1 := Lib.hid (grown_trans G0.out hg); clear hd hg))
    | (go_at_call 26; ((with_reducible refine (next_in g _ _ D1.out (by omega) (by omega)).mono ?_); rintro e w2 ⟨r2, rfl, h20, h21, hd, hg⟩; have D2 := Lib.hid hd; have G2 := Lib.hid (grown_trans G1.out hg); clear hd hg))
    | (go_at_call 26; ((with_reducible refine (next_in g _ _ D2.out (by omega) (by omega)).mono ?_); rintro e w3 ⟨r3, rfl, h30, h31, hd, hg⟩; have D3 := Lib.hid hd; have G3 := Lib.hid (grown_trans G2.out hg); clear hd hg))
    | (go_at_call 49; refine (word_in g _ _ D3.out (by omega) (by omega)).mono ?_; rintro e w4 ⟨r4, rfl, h40, h41, hd, hg⟩; have D4 := Lib.hid hd; have G4 := Lib.hid (grown_trans G3.out hg); clear hd hg)
    | fail)
  have hs1 := G4.out.size
  simp at hs1
  have hg1 : g < w4.heap.size := by omega
  have hw1 : w.heap.size < w4.heap.size := by omega
  have Z1 := Lib.hid ((G4.out.block w.heap.size (by simp) (by simp; omega)).trans (heap_alloc_new w _))
  have GG := Lib.hid (grown_then (World.grownBy_alloc w (.cells #[.int .i64 0, .int .i64 0, .int .i64 0, .int .i64 0, .int .i64 0, .int .i64 0, .int .i64 0, .int .i64 0, .int .i64 0, .int .i64 0, .int .i64 0, .int .i64 0, .int .i64 0, .int .i64 0, .int .i64 0] 23) (some g)) G4.out (fun _ h => .inl h))
  clear G0 G1 G2 G3 G4 D0 D1 D2 D3 C0 hs1
  go_upto_region 4 with (first
    | (go_at_call 19; refine (one_in g _ _ (D4.out.alloc _) (by omega) (by omega)).mono ?_; rintro e w6 ⟨b, rfl, hd, hg⟩; have D6 := Lib.hid hd; have G6 := Lib.hid (grown_then (grown_then GG.out (World.grownBy_alloc w4 _ (some g)) (fun _ h => .inl h)) hg (fun _ h => .inl h)); have K6 := Lib.hid ((hg.block w4.heap.size (by simp) (by simp; omega)).trans (heap_alloc_new w4 _)); have Z6 := Lib.hid ((hg.block w.heap.size (by simp; omega) (by simp; omega)).trans ((heap_alloc_old w4 _ hw1).trans Z1.out)); have hc6 := cells_of K6.out; have hf6 := frozen_of K6.out; have hs6 : w4.heap.size < w6.heap.size := Nat.lt_of_lt_of_le (by simp) hg.size; clear hd hg)
    | (go_at_call 26; refine (next_in g _ _ D6.out (by omega) (by omega)).mono ?_; rintro e w7 ⟨r7, rfl, h70, h71, hd, hg⟩; have D7 := Lib.hid hd; have G7 := Lib.hid (grown_trans G6.out hg); have K7 := Lib.hid ((hg.block w4.heap.size (by omega) (by simp; omega)).trans K6.out); have Z7 := Lib.hid ((hg.block w.heap.size (by omega) (by simp; omega)).trans Z6.out); clear hc6 hf6; have hc7 := cells_of K7.out; have hf7 := frozen_of K7.out; clear hd hg)
    | fail)
  · have K8 := Lib.hid (blk_set K7.out 9 (.int .i64 (1 + r7)))
    have Z8 := Lib.hid (blk_set_ne Z7.out (show w.heap.size ≠ w4.heap.size by omega) 9 (.int .i64 (1 + r7)))
    have D8 := Lib.hid (D7.out.set hg1 9 (.int .i64 (1 + r7)))
    have G8 := Lib.hid (grown_set G7.out (show w.heap.size ≤ w4.heap.size by omega) 9 (.int .i64 (1 + r7)))
    simp only [List.setIfInBounds_toArray, List.set_cons_succ, List.set_cons_zero] at K8
    generalize w7.setCell ⟨w4.heap.size, 9, none⟩ (.int .i64 (1 + r7)) = w8 at *
    clear hc7 hf7 K7 Z7 D7 G7 K6 Z6 D6 G6
    have hk2 : (1 + f % 2 == 2) = false := by rw [hk]; rfl
    have hc8 := cells_of K8.out
    have hz8 := cells_of Z8.out
    have hy8 := frozen_of Z8.out
    go_wp2
    refine bodyPost_ret (v := .agg #[.int .i64 1, .int .i64 r1, .int .i64 r4, .int .i64 r3, .int .i64 (64 + r2), .int .i64 167772161, .int .i64 (167772162 + f / 2), .int .i64 5000, .int .i64 (6000 + f), .int .i64 (1 + r7), .int .i64 0, .int .i64 0, .int .i64 0, .int .i64 0, .int .i64 0]) (by simp [results, Tryd.results47, go_sem, hz8]) rfl ?_
    refine ⟨⟨1, r1, r4, r3, 64 + r2, 167772161, 167772162 + f / 2, 5000, 6000 + f, 1 + r7, 0, 0, 0, 0, 0⟩, rfl, ⟨?_, .inl ⟨rfl, ⟨rfl, rfl, rfl, rfl, rfl⟩⟩⟩, ?_, ?_, ?_⟩
    · constructor <;> (dsimp only; omega)
    · constructor <;> first | rfl | (dsimp only; omega) | (intro _; rfl) | (dsimp only; intro e; omega)
    · iterate 15 refine DiceIn.set ?_ hlt _ _
      exact D8.out
    · iterate 15 refine grown_set ?_ (Nat.le_refl _) _ _
      exact G8.out
  · clear hc6 hf6
    have hk2 : (1 + f % 2 == 2) = false := by rw [hk]; rfl
    have hc6 := cells_of K6.out
    have hz6 := cells_of Z6.out
    have hy6 := frozen_of Z6.out
    go_wp2
    refine bodyPost_ret (v := .agg #[.int .i64 1, .int .i64 r1, .int .i64 r4, .int .i64 r3, .int .i64 (64 + r2), .int .i64 167772161, .int .i64 (167772162 + f / 2), .int .i64 5000, .int .i64 (6000 + f), .int .i64 0, .int .i64 0, .int .i64 0, .int .i64 0, .int .i64 0, .int .i64 0]) (by simp [results, Tryd.results47, go_sem, hz6]) rfl ?_
    refine ⟨⟨1, r1, r4, r3, 64 + r2, 167772161, 167772162 + f / 2, 5000, 6000 + f, 0, 0, 0, 0, 0, 0⟩, rfl, ⟨?_, .inl ⟨rfl, ⟨rfl, rfl, rfl, rfl, rfl⟩⟩⟩, ?_, ?_, ?_⟩
    · constructor <;> (dsimp only; omega)
    · constructor <;> first | rfl | (dsimp only; omega) | (intro _; rfl) | (dsimp only; intro e; omega)
    · iterate 15 refine DiceIn.set ?_ hlt _ _
      exact D6.out
    · iterate 15 refine grown_set ?_ (Nat.le_refl _) _ _
      exact G6.out
end Go.Proofs.YtkhcfmnebflgkaaDoor
