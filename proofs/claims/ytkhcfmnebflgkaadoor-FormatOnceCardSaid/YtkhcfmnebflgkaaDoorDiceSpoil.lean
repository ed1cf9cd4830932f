/-
  Spoil of the statements' own helpers: some bytes with one changed, taken away or put in.
-/
import Derived.Test.YtkhcfmnebflgkaaDoorJDice
import Derived.Test.YtkhcfmnebflgkaaDoorJBase
import Derived.Deep.DeepCutAuto
import Derived.Deep.CutBlock
import Derived.Deep.RegionLaw
import Derived.Deep.QuietTactic
import Derived.BigQuiet
import Derived.Deep.RegionHeld3
import Derived.Deep.DrawnRows
namespace Go.Proofs.YtkhcfmnebflgkaaDoor
open Go Go.RowKit

/-- the beginning of a slice of the call's own, with the same room -/
theorem Mk.prefix {k : IntKind} {E B : Nat} {w : World} {g n cap : Nat} {zs : List Int} (h : Mk k E B w (.slice (some ⟨g, 0, none⟩) n cap) n zs) (m : Nat) (hm : m ≤ n) : Mk k E B w (.slice (some ⟨g, 0, none⟩) m cap) m (zs.take m) := by
  have hl := h.len
  refine ⟨⟨by simp; omega, ?_⟩, by have := h.reach; omega, fun z hz => h.wf z (List.mem_of_mem_take hz)⟩
  rcases h.own.2 with ⟨e, _⟩ | ⟨g', c', cur, hv, hb, hg, r⟩
  · cases e
  · simp only [Value.slice.injEq, Option.some.injEq, Addr.mk.injEq, and_true, true_and] at hv
    obtain ⟨rfl, rfl⟩ := hv
    refine .inr ⟨g, cap, cur, rfl, hb, hg, by omega, r.2.1, r.2.2.1, ?_⟩
    have q := congrArg (List.take m) r.2.2.2
    rw [List.take_take, Nat.mul_one, Nat.min_eq_left hm, ← List.map_take] at q
    rw [Nat.mul_one]
    exact q
theorem u8_bits (op : BinOp) (a b : Int) : 0 ≤ bits op .u8 a b ∧ bits op .u8 a b ≤ 255 := by
  have key : ∀ x : Int, 0 ≤ IntKind.u8.wrap x ∧ IntKind.u8.wrap x ≤ 255 := fun x => by
    rw [IntKind.wrap_u8]
    omega
  unfold bits
  split <;> exact key _

/-- where the walk stands behind the switch -/
def SpR (w : World) (g N : Nat) (v : Value) (wx : World) : Prop := ∃ o m c ys, v = .slice o m c ∧ Mk .u8 5 w.heap.size wx (.slice o m c) m ys ∧ (o = none → c = 0) ∧ m ≤ N + 1 ∧ w.grownBy wx (some g) ∧ DiceIn wx g

set_option maxRecDepth 100000 in
set_option maxHeartbeats 6400000 in
theorem spoil_in2 (g : Nat) (b : Option Addr) (n cap : Nat) (zs : List Int) (w : World) (hd : DiceIn w g) (hs : Sl .u8 w b n zs) (hn : b = none → cap = 0) (n1 : 1 ≤ n) (n2 : n ≤ 4000) :
    Calls Tryd.prog 27 #[.pointer (some ⟨g, 0, none⟩), .slice b n cap] w fun e w' => ∃ o m c ys, e = .returned (.slice o m c) ∧ Mk .u8 5 w.heap.size w' (.slice o m c) m ys ∧ (o = none → c = 0) ∧ m ≤ n + 1 ∧ w.grownBy w' (some g) ∧ DiceIn w' g := by
  have hlt := hd.lt
  have HD := Lib.hid hd
  have Hs := Lib.hid hs
  have Hn := Lib.hid hn
  clear hd hs hn
  go_enter Tryd.func27, Tryd.ntmps27
  go_wp2_with (first
    | (at_builtin; refine wpList_append_at rfl (.const (.slice none 0 0)) (.tmp 8) 26 rfl .u8 5 w.heap.size 1 Tryd.underlying26 info_u8d (.slice none 0 0) 0 [] rfl (Mk.nil .u8 5 _ _) b n cap zs rfl Hs.out Hn.out (by omega) (by omega) (Nat.le_refl _) ?_; intro o1 c1 w1 hm hg hf hno; rw [List.nil_append] at hm; simp only [Nat.zero_add] at hm; obtain ⟨g1, rfl⟩ := hm.head0 (by omega); have M1 := Lib.hid hm; have D1 := Lib.hid (HD.out.keepRow hg (fun q h => by cases h)); have G1 := Lib.hid (grown_then (row := some g) (World.grownBy.refl w (some g)) hg (fun _ h => by cases h)); have hc1 := hm.le_cap; have hb1 := hm.block; clear hm hg hf hno)
    | fail)
  refine (next_in g 256 _ D1.out (by omega) (by omega)).mono ?_
  rintro e w2 ⟨r, rfl, r0, r1, hd2, hg2⟩
  have D2 := Lib.hid hd2
  have M2 := Lib.hid (M1.out.keepBut hg2 hlt)
  have G2 := Lib.hid (G1.out.trans hg2)
  clear hd2 hg2 D1 M1 G1
  have hn0 : ((n : Int) == 0) = false := by
    rw [Bool.eq_false_iff]; intro q; have : (n : Int) = 0 := by simpa using q
    omega
  go_wp2_with fail
  refine (next_in g (n : Int) _ D2.out (by omega) (by omega)).mono ?_
  rintro e w3 ⟨k, rfl, k0, k1, hd3, hg3⟩
  obtain ⟨K, rfl⟩ := Int.eq_ofNat_of_zero_le k0
  have hK : K < n := by omega
  have D3 := Lib.hid hd3
  have M3 := Lib.hid (M2.out.keepBut hg3 hlt)
  have G3 := Lib.hid (G2.out.trans hg3)
  clear hd3 hg3 D2 M2 G2 hn0
  go_wp2_with fail
  refine (next_in g 4 _ D3.out (by omega) (by omega)).mono ?_
  rintro e w4 ⟨s, rfl, s0, s1, hd4, hg4⟩
  have D4 := Lib.hid hd4
  have M4 := Lib.hid (M3.out.keepBut hg4 hlt)
  have G4 := Lib.hid (G3.out.trans hg4)
  clear hd4 hg4 D3 M3 G3
  have W1 := byte_wf r0 (show r ≤ 255 by omega)
  have hs4 := M4.out.block
  have hgg : g < g1 := by omega
  have hgw : g < w4.heap.size := by omega
  go_upto_block 0 with fail
  go_cut [5] (fun s5 wx => SpR w g n s5 wx)
  case first =>
    have hcs : s = 0 ∨ s = 1 ∨ s = 2 ∨ s = 3 := by omega
    clear s0 s1
    rcases hcs with rfl | rfl | rfl | rfl
    · have c4 := M4.out.at (j := K) hK
      have f4 := M4.out.free K
      generalize zs.getD K 0 = x at c4
      have hI : (K : Int) < (n : Int) := by omega
      have MS := Lib.hid (M4.out.stored K r W1)
      have GS := Lib.hid (grown_then G4.out (setCell_but w4 g1 K (.int .u8 r)) (fun j hj => .inr (by cases hj; exact hs4.1)))
      go_wp2
      go_meet
      case rel => exact ⟨_, _, _, _, rfl, MS.out, (fun h => by cases h), by omega, GS.out, D4.out.keepRow (setCell_but w4 g1 K (.int .u8 r)) (fun b e => by cases e; exact hgg)⟩
    · have c4 := M4.out.at (j := K) hK
      have u4 := M4.out.sl.u8 K
      generalize zs.getD K 0 = x at c4 u4
      have hI : (K : Int) < (n : Int) := by omega
      have c4d : w4.drew.cell? ⟨g1, K, none⟩ = some (.int .u8 x) := c4
      go_upto_region 11 with fail
      go_region_law (first
        | (go_simp; go_at_call 26; ((with_reducible refine (next_in g 8 _ D4.out.drew (by omega) (by omega)).mono ?_); rintro e w5 ⟨q, rfl, q0, q1, hd5, hg5⟩; have M5 := Lib.hid (M4.out.drew.keepBut hg5 hlt); have D5 := Lib.hid hd5; have c5 := hg5.cell (a := ⟨g1, K, none⟩) c4d (by simp; omega); have G5 := Lib.hid (G4.out.trans (⟨hg5.os, hg5.tape, hg5.output, hg5.size, hg5.block⟩ : w4.grownBy w5 (some g))); have f5 := M5.out.free K; clear hd5 hg5))
        | fail)
      all_goals go_wp2
      all_goals go_meet
      all_goals exact ⟨_, _, _, _, rfl, M5.out.stored K _ (byte_wf (u8_bits _ _ _).1 (u8_bits _ _ _).2), (fun h => by cases h), by omega, grown_then G5.out (setCell_but w5 g1 K _) (fun j hj => .inr (by cases hj; exact hs4.1)), D5.out.keepRow (setCell_but w5 g1 K _) (fun b e => by cases e; exact hgg)⟩
    · obtain ⟨PA, hif⟩ : ∃ PA, (if c1 = K + 1 then (some ⟨g1, 0, none⟩ : Option Addr) else some ⟨g1, K + 1, none⟩) = PA := ⟨_, rfl⟩
      have hPA : ∃ b o, PA = some ⟨b, o, none⟩ := by
        rw [← hif]
        split
        · exact ⟨_, _, rfl⟩
        · exact ⟨_, _, rfl⟩
      have hlz := M4.out.len
      have P4 : Hid (Sl .u8 w4.drew PA (n - (K + 1)) (zs.drop (K + 1))) := Lib.hid (by
        rw [← hif]
        split
        · have e : n - (K + 1) = 0 := by omega
          have e2 : zs.drop (K + 1) = [] := List.eq_nil_of_length_eq_zero (by rw [List.length_drop]; omega)
          rw [e, e2]
          exact ⟨rfl, by omega, by simp, fun i hi => by omega⟩
        · have q := M4.out.drew.sl.sub (K + 1) (n - (K + 1)) (by omega)
          rwa [List.take_of_length_le (by rw [List.length_drop]; omega), Nat.zero_add] at q)
      have X4 := Lib.hid (M4.out.drew.prefix K (by omega))
      have hK1 : (K : Int) ≤ (c1 : Int) := by omega
      have hK2 : (K : Int) + 1 ≤ (n : Int) := by omega
      have hK3 : (0 : Int) ≤ (K : Int) + 1 := by omega
      have hK4 : ((K : Int) + 1).toNat = K + 1 := by omega
      have hK6 : (K : Int) + 1 ≤ (c1 : Int) := by omega
      have hK5 : IntKind.i64.wrap ((K : Int) + 1) = (K : Int) + 1 := IntWalk.i64_in _ ⟨by omega, by omega⟩
      clear hlz
      go_upto_region 13 with fail
      have hgd : g1 < w4.drew.heap.size := hs4.2
      go_region_held3 (fun w' => g1 < w'.heap.size) (first | with_reducible exact hgd | with_reducible exact hg5 | fail) (first
        | ((with_reducible refine step_slice_mk rfl (.tmp 56) (.tmp 60) 26 rfl .u8 5 w.heap.size 1 Tryd.underlying26 info_u8d (.slice (some ⟨g1, 0, none⟩) K c1) K (zs.take K) rfl X4.out PA (n - (K + 1)) (c1 - (K + 1)) (zs.drop (K + 1)) hPA rfl P4.out (by omega) (by omega) (by simp; omega) ?_); intro o5 c5 w5 hm hg hf hno; have M5 := Lib.hid hm; have N5 := Lib.hid hno; have D5 := Lib.hid (D4.out.drew.keepRow hg (fun b e => by cases e; exact hgg)); have G5 := Lib.hid (grown_then G4.out (⟨hg.os, hg.tape, hg.output, hg.size, hg.block⟩ : w4.grownBy w5 (some g1)) (fun j hj => .inr (by cases hj; exact hs4.1))); have hg5 : g1 < w5.heap.size := Nat.lt_of_lt_of_le hgd hg.size; clear hm hg hf hno)
        | fail)
      clear hK1 hK2 hK3 hK4 hK5 hK6
      all_goals go_wp2
      all_goals go_meet
      all_goals exact ⟨_, _, _, _, rfl, M5.out, (fun h => (N5.out h).2), by omega, G5.out, D5.out⟩
    · obtain ⟨PB, hif⟩ : ∃ PB, (if c1 = K then (some ⟨g1, 0, none⟩ : Option Addr) else some ⟨g1, K, none⟩) = PB := ⟨_, rfl⟩
      have hPB : ∃ b o, PB = some ⟨b, o, none⟩ := by
        rw [← hif]
        split
        · exact ⟨_, _, rfl⟩
        · exact ⟨_, _, rfl⟩
      have hlz := M4.out.len
      have P4 : Hid (Sl .u8 ((w4.alloc (.cells #[.int .u8 r] 5)).drew) PB (n - K) (zs.drop K)) := Lib.hid (by
        rw [← hif, if_neg (by omega)]
        have q := (M4.out.alloc (.cells #[.int .u8 r] 5)).drew.sl.sub K (n - K) (by omega)
        rwa [List.take_of_length_le (by rw [List.length_drop]; omega), Nat.zero_add] at q)
      have X4 := Lib.hid ((M4.out.alloc (.cells #[.int .u8 r] 5)).drew.prefix K (by omega))
      have L4 : Hid (Mk .u8 5 w.heap.size ((w4.alloc (.cells #[.int .u8 r] 5)).drew) (.slice (some ⟨w4.heap.size, 0, none⟩) 1 1) 1 [r]) := Lib.hid (Mk.lit .u8 5 w.heap.size w4 [r] 1 (by omega) rfl (by omega) (fun z hz => by simp at hz; subst hz; exact W1)).drew
      have hK1 : (K : Int) ≤ (c1 : Int) := by omega
      have hK2 : (K : Int) ≤ (n : Int) := by omega
      have hgd : g1 < w4.drew.heap.size := hs4.2
      have hga : g1 < ((w4.alloc (.cells #[.int .u8 r] 5)).drew).heap.size := by simp; omega
      clear hlz
      go_upto_region 7 with fail
      go_region_held3 (fun w' => g1 < w'.heap.size) (first | with_reducible exact hgd | with_reducible exact hga | with_reducible exact hg5 | with_reducible exact hg6 | fail) (first
        | ((with_reducible refine step_slice_mk rfl (.tmp 28) (.tmp 31) 26 rfl .u8 5 w.heap.size 1 Tryd.underlying26 info_u8d (.slice (some ⟨w4.heap.size, 0, none⟩) 1 1) 1 [r] rfl L4.out PB (n - K) (c1 - K) (zs.drop K) hPB rfl P4.out (by omega) (by omega) (by simp; omega) ?_); intro o5 c5 w5 hm hg hf hno; obtain ⟨g5, rfl⟩ := hm.head0 (by omega); have S5 := Lib.hid hm.sl; have X5 := Lib.hid (X4.out.keepRow hg (.inr (fun e => by have e2 : g1 = w4.heap.size := Option.some.inj e; omega))); have hg5 : g1 < w5.heap.size := Nat.lt_of_lt_of_le hga hg.size; have D5 := Lib.hid ((D4.out.alloc (.cells #[.int .u8 r] 5)).drew.keepRow hg (fun b e => by cases e; exact hgw)); have G5 := Lib.hid (grown_then (grown_then G4.out (⟨rfl, rfl, rfl, by simp, fun i hi _ => heap_alloc_old w4 _ hi⟩ : w4.grownBy ((w4.alloc (.cells #[.int .u8 r] 5)).drew) none) (fun _ h => by cases h)) hg (fun j hj => .inr (by cases hj; exact Nat.le_of_lt (Nat.lt_of_le_of_lt hs4.1 hs4.2)))); have hs5 : w.heap.size ≤ w5.heap.size := G5.out.size; clear hm hg hf hno)
        | ((with_reducible refine step_slice_mk rfl (.tmp 26) (.tmp 32) 26 rfl .u8 5 w.heap.size 1 Tryd.underlying26 info_u8d (.slice (some ⟨g1, 0, none⟩) K c1) K (zs.take K) rfl X5.out (some ⟨g5, 0, none⟩) (1 + (n - K)) c5 _ ⟨_, _, rfl⟩ rfl S5.out (by omega) (by omega) hs5 ?_); intro o6 c6 w6 hm hg hf hno; have M6 := Lib.hid hm; have N6 := Lib.hid hno; have hg6 : g1 < w6.heap.size := Nat.lt_of_lt_of_le hg5 hg.size; have D6 := Lib.hid (D5.out.keepRow hg (fun b e => by cases e; exact hgg)); have G6 := Lib.hid (grown_then G5.out hg (fun j hj => .inr (by cases hj; exact hs4.1))); clear hm hg hf hno)
        | fail)
      clear hK1 hK2
      all_goals go_wp2
      all_goals go_meet
      all_goals exact ⟨_, _, _, _, rfl, M6.out, (fun h => (N6.out h).2), by omega, G6.out, D6.out⟩
  case rest =>
    obtain ⟨o, m, c, ys, rfl, hm, hno, hm1, hg, hd⟩ := hcut
    go_wp2
    go_ret
    exact ⟨o, m, c, ys, rfl, hm, hno, hm1, hg, hd⟩
theorem spoil_in (g : Nat) (b : Option Addr) (n cap : Nat) (zs : List Int) (w : World) (hd : DiceIn w g) (hs : Sl .u8 w b n zs) (hn : b = none → cap = 0) (n1 : 1 ≤ n) (n2 : n ≤ 1000) :
    Calls Tryd.prog 27 #[.pointer (some ⟨g, 0, none⟩), .slice b n cap] w fun e w' => ∃ o m c ys, e = .returned (.slice o m c) ∧ Mk .u8 5 w.heap.size w' (.slice o m c) m ys ∧ (o = none → c = 0) ∧ m ≤ 1001 ∧ w.grownBy w' (some g) :=
  (spoil_in2 g b n cap zs w hd hs hn n1 (by omega)).mono fun _ _ ⟨o, m, c, ys, h1, h2, h3, h4, h5, _⟩ => ⟨o, m, c, ys, h1, h2, h3, by omega, h5⟩
end Go.Proofs.YtkhcfmnebflgkaaDoor
