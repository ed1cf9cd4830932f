/-
  Headers that the statements make, with RTP.
-/
import Derived.Test.YtkhcfmnebflgkaaDoorDiceHeader
namespace Go.Proofs.YtkhcfmnebflgkaaDoor
open Go Go.RowKit

set_option maxRecDepth 100000 in
set_option maxHeartbeats 3200000 in
theorem header_rtp (g : Nat) (f : Int) (w : World) (hd : DiceIn w g) (f0 : 0 ≤ f) (f1 : f ≤ 50000) (hk : f % 2 = 1) :
    Calls Tryd.prog 47 #[.pointer (some ⟨g, 0, none⟩), .int .i64 f] w fun e w' => ∃ h : Hd, e = .returned (.agg #[.int .i64 h.kind, .int .i64 h.tos, .int .i64 h.id, .int .i64 h.fixed, .int .i64 h.ttl, .int .i64 h.frm, .int .i64 h.to, .int .i64 h.fromPort, .int .i64 h.toPort, .int .i64 h.check, .int .i64 h.marker, .int .i64 h.type, .int .i64 h.seq, .int .i64 h.time, .int .i64 h.source]) ∧ h.Valid ∧ h.Made f ∧ DiceIn w' g ∧ w.grownBy w' (some g) := by
  have hlt := hd.lt
  have m0 := Int.emod_nonneg f (show (2 : Int) ≠ 0 by omega)
  have m1 := Int.emod_lt_of_pos f (show (0 : Int) < 2 by omega)
  have C0 := Lib.hid (fun W => mod_any f 2 W (by omega) (by omega) (by omega) (by omega))
  have D0 := Lib.hid (hd.alloc (.cells #[.int .i64 0, .int .i64 0, .int .i64 0, .int .i64 0, .int .i64 0, .int .i64 0, .int .i64 0, .int .i64 0, .int .i64 0, .int .i64 0, .int .i64 0, .int .i64 0, .int .i64 0, .int .i64 0, .int .i64 0] 23))
  have G0 := Lib.hid (World.grownBy.refl (w.alloc (.cells #[.int .i64 0, .int .i64 0, .int .i64 0, .int .i64 0, .int .i64 0, .int .i64 0, .int .i64 0, .int .i64 0, .int .i64 0, .int .i64 0, .int .i64 0, .int .i64 0, .int .i64 0, .int .i64 0, .int .i64 0] 23)) (some g))
  clear hd
  go_enter Tryd.func47, Tryd.ntmps47
  go_upto_region 2 with (first
    | (go_at_call 57; refine (C0.out _).mono ?_; rintro e w' ⟨rfl, rfl⟩)
    | (go_at_call 26; ((with_reducible refine (next_in g _ _ D0.out (by omega) (by omega)).mono ?_); rintro e w1 ⟨r1, rfl, h10, h11, hd, hg⟩; have D1 := Lib.hid hd; have G1 := Lib.hid (grown_trans G0.out hg); clear hd hg))
    | (go_at_call 26; ((with_reducible refine (next_in g _ _ D1.out (by omega) (by omega)).mono ?_); rintro e w2 ⟨r2, rfl, h20, h21, hd, hg⟩; have D2 := Lib.hid hd; have G2 := Lib.hid (grown_trans G1.out hg); clear hd hg))
    | (go_at_call 26; ((with_reducible refine (next_in g _ _ D2.out (by omega) (by omega)).mono ?_); rintro e w3 ⟨r3, rfl, h30, h31, hd, hg⟩; have D3 := Lib.hid hd; have G3 := Lib.hid (grown_trans G2.out hg); clear hd hg))
    | (go_at_call 49; refine (word_in g _ _ D3.out (by omega) (by omega)).mono ?_; rintro e w4 ⟨r4, rfl, h40, h41, hd, hg⟩; have D4 := Lib.hid hd; have G4 := Lib.hid (grown_trans G3.out hg); clear hd hg)
    | fail)
  have hs1 := G4.out.size
  simp at hs1
  have hg1 : g < w4.heap.size := by omega
  have hw1 : w.heap.size < w4.heap.size := by omega
  have Z1 := Lib.hid ((G4.out.block w.heap.size (by simp) (by simp; omega)).trans (heap_alloc_new w _))
  have GG := Lib.hid (grown_then (World.grownBy_alloc w (.cells #[.int .i64 0, .int .i64 0, .int .i64 0, .int .i64 0, .int .i64 0, .int .i64 0, .int .i64 0, .int .i64 0, .int .i64 0, .int .i64 0, .int .i64 0, .int .i64 0, .int .i64 0, .int .i64 0, .int .i64 0] 23) (some g)) G4.out (fun _ h => .inl h))
  clear G0 G1 G2 G3 G4 D0 D1 D2 D3 C0 hs1
  go_upto_region 4 with (first
    | (go_at_call 19; refine (one_in g _ _ (D4.out.alloc _) (by omega) (by omega)).mono ?_; rintro e w6 ⟨b, rfl, hd, hg⟩; have D6 := Lib.hid hd; have G6 := Lib.hid (grown_then (grown_then GG.out (World.grownBy_alloc w4 _ (some g)) (fun _ h => .inl h)) hg (fun _ h => .inl h)); have K6 := Lib.hid ((hg.block w4.heap.size (by simp) (by simp; omega)).trans (heap_alloc_new w4 _)); have Z6 := Lib.hid ((hg.block w.heap.size (by simp; omega) (by simp; omega)).trans ((heap_alloc_old w4 _ hw1).trans Z1.out)); have hc6 := cells_of K6.out; have hf6 := frozen_of K6.out; have hs6 : w4.heap.size < w6.heap.size := Nat.lt_of_lt_of_le (by simp) hg.size; clear hd hg)
    | (go_at_call 26; refine (next_in g _ _ D6.out (by omega) (by omega)).mono ?_; rintro e w7 ⟨r7, rfl, h70, h71, hd, hg⟩; have D7 := Lib.hid hd; have G7 := Lib.hid (grown_trans G6.out hg); have K7 := Lib.hid ((hg.block w4.heap.size (by omega) (by simp; omega)).trans K6.out); have Z7 := Lib.hid ((hg.block w.heap.size (by omega) (by simp; omega)).trans Z6.out); clear hc6 hf6; have hc7 := cells_of K7.out; have hf7 := frozen_of K7.out; clear hd hg)
    | fail)
  · have K8 := Lib.hid (blk_set K7.out 9 (.int .i64 (1 + r7)))
    have Z8 := Lib.hid (blk_set_ne Z7.out (show w.heap.size ≠ w4.heap.size by omega) 9 (.int .i64 (1 + r7)))
    have D8 := Lib.hid (D7.out.set hg1 9 (.int .i64 (1 + r7)))
    have G8 := Lib.hid (grown_set G7.out (show w.heap.size ≤ w4.heap.size by omega) 9 (.int .i64 (1 + r7)))
    simp only [List.setIfInBounds_toArray, List.set_cons_succ, List.set_cons_zero] at K8
    generalize w7.setCell ⟨w4.heap.size, 9, none⟩ (.int .i64 (1 + r7)) = w8 at *
    clear hc7 hf7 K7 Z7 D7 G7 K6 Z6 D6 G6
    have hk2 : (1 + f % 2 == 2) = true := by rw [hk]; rfl
    have hc8 := cells_of K8.out
    go_upto_region 6 with (first
      | (go_at_call 49; ((with_reducible refine (word_in g _ _ D8.out (by omega) (by omega)).mono ?_); rintro e w9 ⟨r9, rfl, h90, h91, hd, hg⟩; have D9 := Lib.hid hd; have G9 := Lib.hid (grown_trans G8.out hg); have K9 := Lib.hid ((hg.block w4.heap.size (lt_of_block K8.out) (by simp; omega)).trans K8.out); have Z9 := Lib.hid ((hg.block w.heap.size (lt_of_block Z8.out) (by simp; omega)).trans Z8.out); clear hd hg hc8))
      | (go_at_call 49; ((with_reducible refine (word_in g _ _ D9.out (by omega) (by omega)).mono ?_); rintro e w10 ⟨r10, rfl, hx0, hx1, hd, hg⟩; have D10 := Lib.hid hd; have G10 := Lib.hid (grown_trans G9.out hg); have K10 := Lib.hid ((hg.block w4.heap.size (lt_of_block K9.out) (by simp; omega)).trans K9.out); have Z10 := Lib.hid ((hg.block w.heap.size (lt_of_block Z9.out) (by simp; omega)).trans Z9.out); clear hd hg))
      | (go_at_call 26; ((with_reducible refine (next_in g _ _ D10.out (by omega) (by omega)).mono ?_); rintro e w11 ⟨r11, rfl, hy0, hy1, hd, hg⟩; have D11 := Lib.hid hd; have G11 := Lib.hid (grown_trans G10.out hg); have K11 := Lib.hid ((hg.block w4.heap.size (lt_of_block K10.out) (by simp; omega)).trans K10.out); have Z11 := Lib.hid ((hg.block w.heap.size (lt_of_block Z10.out) (by simp; omega)).trans Z10.out); have hc11 := cells_of K11.out; have hf11 := frozen_of K11.out; clear hd hg))
      | fail)
    have K12 := Lib.hid (blk_set (blk_set (blk_set (blk_set (blk_set K11.out 11 (.int .i64 96)) 12 (.int .i64 r9)) 13 (.int .i64 r10)) 14 (.int .i64 (77 + f))) 10 (.int .i64 r11))
    have Z12 := Lib.hid (blk_set_ne (blk_set_ne (blk_set_ne (blk_set_ne (blk_set_ne Z11.out (show w.heap.size ≠ w4.heap.size by omega) 11 (.int .i64 96)) (show w.heap.size ≠ w4.heap.size by omega) 12 (.int .i64 r9)) (show w.heap.size ≠ w4.heap.size by omega) 13 (.int .i64 r10)) (show w.heap.size ≠ w4.heap.size by omega) 14 (.int .i64 (77 + f))) (show w.heap.size ≠ w4.heap.size by omega) 10 (.int .i64 r11))
    have D12 := Lib.hid (((((D11.out.set hg1 11 (.int .i64 96)).set hg1 12 (.int .i64 r9)).set hg1 13 (.int .i64 r10)).set hg1 14 (.int .i64 (77 + f))).set hg1 10 (.int .i64 r11))
    have G12 := Lib.hid (grown_set (grown_set (grown_set (grown_set (grown_set G11.out (show w.heap.size ≤ w4.heap.size by omega) 11 (.int .i64 96)) (show w.heap.size ≤ w4.heap.size by omega) 12 (.int .i64 r9)) (show w.heap.size ≤ w4.heap.size by omega) 13 (.int .i64 r10)) (show w.heap.size ≤ w4.heap.size by omega) 14 (.int .i64 (77 + f))) (show w.heap.size ≤ w4.heap.size by omega) 10 (.int .i64 r11))
    simp only [List.setIfInBounds_toArray, List.set_cons_succ, List.set_cons_zero] at K12
    clear hc11 hf11
    generalize (((((w11.setCell ⟨w4.heap.size, 11, none⟩ (.int .i64 96)).setCell ⟨w4.heap.size, 12, none⟩ (.int .i64 r9)).setCell ⟨w4.heap.size, 13, none⟩ (.int .i64 r10)).setCell ⟨w4.heap.size, 14, none⟩ (.int .i64 (77 + f))).setCell ⟨w4.heap.size, 10, none⟩ (.int .i64 r11)) = w12 at *
    have hc12 := cells_of K12.out
    have hz12 := cells_of Z12.out
    have hy12 := frozen_of Z12.out
    go_wp2
    refine bodyPost_ret (v := .agg #[.int .i64 2, .int .i64 r1, .int .i64 r4, .int .i64 r3, .int .i64 (64 + r2), .int .i64 167772161, .int .i64 (167772162 + f / 2), .int .i64 5000, .int .i64 (6000 + f), .int .i64 (1 + r7), .int .i64 r11, .int .i64 96, .int .i64 r9, .int .i64 r10, .int .i64 (77 + f)]) (by simp [results, Tryd.results47, go_sem, hz12]) rfl ?_
    refine ⟨⟨2, r1, r4, r3, 64 + r2, 167772161, 167772162 + f / 2, 5000, 6000 + f, 1 + r7, r11, 96, r9, r10, 77 + f⟩, rfl, ⟨?_, .inr ⟨rfl, ?_⟩⟩, ?_, ?_, ?_⟩
    · constructor <;> (dsimp only; omega)
    · constructor <;> (dsimp only; omega)
    · constructor <;> first | rfl | (dsimp only; omega) | (intro _; rfl) | (dsimp only; intro e; omega)
    · iterate 15 refine DiceIn.set ?_ hlt _ _
      exact D12.out
    · iterate 15 refine grown_set ?_ (Nat.le_refl _) _ _
      exact G12.out
  · clear hc6 hf6
    have hk2 : (1 + f % 2 == 2) = true := by rw [hk]; rfl
    have hc6 := cells_of K6.out
    go_upto_region 6 with (first
      | (go_at_call 49; ((with_reducible refine (word_in g _ _ D6.out (by omega) (by omega)).mono ?_); rintro e w9 ⟨r9, rfl, h90, h91, hd, hg⟩; have D9 := Lib.hid hd; have G9 := Lib.hid (grown_trans G6.out hg); have K9 := Lib.hid ((hg.block w4.heap.size (lt_of_block K6.out) (by simp; omega)).trans K6.out); have Z9 := Lib.hid ((hg.block w.heap.size (lt_of_block Z6.out) (by simp; omega)).trans Z6.out); clear hd hg hc6))
      | (go_at_call 49; ((with_reducible refine (word_in g _ _ D9.out (by omega) (by omega)).mono ?_); rintro e w10 ⟨r10, rfl, hx0, hx1, hd, hg⟩; have D10 := Lib.hid hd; have G10 := Lib.hid (grown_trans G9.out hg); have K10 := Lib.hid ((hg.block w4.heap.size (lt_of_block K9.out) (by simp; omega)).trans K9.out); have Z10 := Lib.hid ((hg.block w.heap.size (lt_of_block Z9.out) (by simp; omega)).trans Z9.out); clear hd hg))
      | (go_at_call 26; ((with_reducible refine (next_in g _ _ D10.out (by omega) (by omega)).mono ?_); rintro e w11 ⟨r11, rfl, hy0, hy1, hd, hg⟩; have D11 := Lib.hid hd; have G11 := Lib.hid (grown_trans G10.out hg); have K11 := Lib.hid ((hg.block w4.heap.size (lt_of_block K10.out) (by simp; omega)).trans K10.out); have Z11 := Lib.hid ((hg.block w.heap.size (lt_of_block Z10.out) (by simp; omega)).trans Z10.out); have hc11 := cells_of K11.out; have hf11 := frozen_of K11.out; clear hd hg))
      | fail)
    have K12 := Lib.hid (blk_set (blk_set (blk_set (blk_set (blk_set K11.out 11 (.int .i64 96)) 12 (.int .i64 r9)) 13 (.int .i64 r10)) 14 (.int .i64 (77 + f))) 10 (.int .i64 r11))
    have Z12 := Lib.hid (blk_set_ne (blk_set_ne (blk_set_ne (blk_set_ne (blk_set_ne Z11.out (show w.heap.size ≠ w4.heap.size by omega) 11 (.int .i64 96)) (show w.heap.size ≠ w4.heap.size by omega) 12 (.int .i64 r9)) (show w.heap.size ≠ w4.heap.size by omega) 13 (.int .i64 r10)) (show w.heap.size ≠ w4.heap.size by omega) 14 (.int .i64 (77 + f))) (show w.heap.size ≠ w4.heap.size by omega) 10 (.int .i64 r11))
    have D12 := Lib.hid (((((D11.out.set hg1 11 (.int .i64 96)).set hg1 12 (.int .i64 r9)).set hg1 13 (.int .i64 r10)).set hg1 14 (.int .i64 (77 + f))).set hg1 10 (.int .i64 r11))
    have G12 := Lib.hid (grown_set (grown_set (grown_set (grown_set (grown_set G11.out (show w.heap.size ≤ w4.heap.size by omega) 11 (.int .i64 96)) (show w.heap.size ≤ w4.heap.size by omega) 12 (.int .i64 r9)) (show w.heap.size ≤ w4.heap.size by omega) 13 (.int .i64 r10)) (show w.heap.size ≤ w4.heap.size by omega) 14 (.int .i64 (77 + f))) (show w.heap.size ≤ w4.heap.size by omega) 10 (.int .i64 r11))
    simp only [List.setIfInBounds_toArray, List.set_cons_succ, List.set_cons_zero] at K12
    clear hc11 hf11
    generalize (((((w11.setCell ⟨w4.heap.size, 11, none⟩ (.int .i64 96)).setCell ⟨w4.heap.size, 12, none⟩ (.int .i64 r9)).setCell ⟨w4.heap.size, 13, none⟩ (.int .i64 r10)).setCell ⟨w4.heap.size, 14, none⟩ (.int .i64 (77 + f))).setCell ⟨w4.heap.size, 10, none⟩ (.int .i64 r11)) = w12 at *
    have hc12 := cells_of K12.out
    have hz12 := cells_of Z12.out
    have hy12 := frozen_of Z12.out
    go_wp2
    refine bodyPost_ret (v := .agg #[.int .i64 2, .int .i64 r1, .int .i64 r4, .int .i64 r3, .int .i64 (64 + r2), .int .i64 167772161, .int .i64 (167772162 + f / 2), .int .i64 5000, .int .i64 (6000 + f), .int .i64 0, .int .i64 r11, .int .i64 96, .int .i64 r9, .int .i64 r10, .int .i64 (77 + f)]) (by simp [results, Tryd.results47, go_sem, hz12]) rfl ?_
    refine ⟨⟨2, r1, r4, r3, 64 + r2, 167772161, 167772162 + f / 2, 5000, 6000 + f, 0, r11, 96, r9, r10, 77 + f⟩, rfl, ⟨?_, .inr ⟨rfl, ?_⟩⟩, ?_, ?_, ?_⟩
    · constructor <;> (dsimp only; omega)
    · constructor <;> (dsimp only; omega)
    · constructor <;> first | rfl | (dsimp only; omega) | (intro _; rfl) | (dsimp only; intro e; omega)
    · iterate 15 refine DiceIn.set ?_ hlt _ _
      exact D12.out
    · iterate 15 refine grown_set ?_ (Nat.le_refl _) _ _
      exact G12.out

theorem header_made (g : Nat) (f : Int) (w : World) (hd : DiceIn w g) (f0 : 0 ≤ f) (f1 : f ≤ 50000) :
    Calls Tryd.prog 47 #[.pointer (some ⟨g, 0, none⟩), .int .i64 f] w fun e w' => ∃ h : Hd, e = .returned (.agg #[.int .i64 h.kind, .int .i64 h.tos, .int .i64 h.id, .int .i64 h.fixed, .int .i64 h.ttl, .int .i64 h.frm, .int .i64 h.to, .int .i64 h.fromPort, .int .i64 h.toPort, .int .i64 h.check, .int .i64 h.marker, .int .i64 h.type, .int .i64 h.seq, .int .i64 h.time, .int .i64 h.source]) ∧ h.Valid ∧ h.Made f ∧ DiceIn w' g ∧ w.grownBy w' (some g) := by
  by_cases hk : f % 2 = 0
  · exact header_udp g f w hd f0 f1 hk
  · exact header_rtp g f w hd f0 f1 (by omega)
theorem header_in (g : Nat) (f : Int) (w : World) (hd : DiceIn w g) (f0 : 0 ≤ f) (f1 : f ≤ 50000) :
    Calls Tryd.prog 47 #[.pointer (some ⟨g, 0, none⟩), .int .i64 f] w fun e w' => ∃ h : Hd, e = .returned (.agg #[.int .i64 h.kind, .int .i64 h.tos, .int .i64 h.id, .int .i64 h.fixed, .int .i64 h.ttl, .int .i64 h.frm, .int .i64 h.to, .int .i64 h.fromPort, .int .i64 h.toPort, .int .i64 h.check, .int .i64 h.marker, .int .i64 h.type, .int .i64 h.seq, .int .i64 h.time, .int .i64 h.source]) ∧ h.Valid ∧ h.kind = 1 + f % 2 ∧ DiceIn w' g ∧ w.grownBy w' (some g) :=
  (header_made g f w hd f0 f1).mono fun _ _ ⟨h, he, hv, hm, hd, hg⟩ => ⟨h, he, hv, hm.kind, hd, hg⟩
end Go.Proofs.YtkhcfmnebflgkaaDoor
