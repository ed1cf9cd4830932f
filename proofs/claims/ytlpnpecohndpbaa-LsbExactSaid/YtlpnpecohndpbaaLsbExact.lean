/-
  Proved: the Go function LsbExact, called with any four numbers and list, returns true and leaves its arguments as they were (all functions of layer 7 return what the document's own functions return, for the numbers as they are and for valid ones).
  Conditions: none beyond those of the given row.
-/
import Derived.Test.YtlpnpecohndpbaaLsbAwake
import Derived.Test.YtlpnpecohndpbaaLsbRef2
import Derived.Test.YtlpnpecohndpbaaBlk
import Derived.Test.YtlpnpecohndpbaaRegion
import Derived.Test.YtlpnpecohndpbaaLift
import Derived.Test.YtlpnpecohndpbaaRows
import Derived.Deep.DeepCutAuto
import Derived.Deep.RegionHeld3
namespace Go.Proofs.Ytlpnpecohndpbaa.lsbExact
open Go Go.RowKit Go.ChangeShapes Go.WideShapes Go.ChangeAt

theorem shl_wrap (N : Nat) (h : N ≤ 32) : IntKind.i64.wrap (2 ^ min (IntKind.u64.wrap (N : Int)).toNat 64) = 2 ^ N := by
  have e : IntKind.u64.wrap (N : Int) = N := by rw [IntKind.wrap_u64]; omega
  rw [e, Int.toNat_natCast, Nat.min_eq_left (by omega)]
  have h1 := ipow_pos N
  have h2 := ipow_le32 N h
  generalize (2 : Int) ^ N = t at h1 h2
  exact IntWalk.i64_in _ ⟨by omega, by omega⟩

set_option maxRecDepth 100000 in
set_option maxHeartbeats 6400000 in
theorem walk4 (w : World) (n0 n1 n2 n3 : Int) (c0 : -9223372036854775808 ≤ n0 ∧ n0 ≤ 9223372036854775807) (c1 : -9223372036854775808 ≤ n1 ∧ n1 ≤ 9223372036854775807) (c2 : -9223372036854775808 ≤ n2 ∧ n2 ≤ 9223372036854775807) (c3 : -9223372036854775808 ≤ n3 ∧ n3 ≤ 9223372036854775807) (a : Option Addr) (n cap : Nat) (zs : List Int) (hs : Sl .i64 w a n zs) :
    Calls Try.prog 3 #[.agg #[.int .i64 n0, .int .i64 n1, .int .i64 n2, .int .i64 n3], .slice a n cap] w fun e w' => e = .returned (.bool true) ∧ Below w.heap.size w w' := by
  have hre := hs.reach
  have B0 := Lib.hid ((Below.refl w.heap.size w).alloc (Nat.le_refl _) (.cells #[Value.int .i64 n0, Value.int .i64 n1, Value.int .i64 n2, Value.int .i64 n3] 22))
  by_cases hn : 300 < n
  · have A7 := Lib.hid (awake07_b (w.alloc (.cells #[Value.int .i64 n0, Value.int .i64 n1, Value.int .i64 n2, Value.int .i64 n3] 22)) B0.out)
    clear hs
    go_enter Try.func3, Try.ntmps3
    go_wp2_with (go_at_call 7; refine A7.out.mono ?_; rintro e w6 ⟨rfl, hb, _⟩)
    go_ret
    exact ⟨rfl, hb⟩
  · obtain ⟨N, hN, hN2, hN3, hR⟩ := wide3 n0
    have M0 := Lib.hid (fun W => mod_any n0 3 W (by omega) (by omega) c0.1 c0.2)
    generalize n0 % 3 = q0 at hR M0
    have M1 := Lib.hid (fun W => mod_any n2 30 W (by omega) (by omega) c2.1 c2.2)
    have k0 := Int.emod_nonneg n2 (show (30 : Int) ≠ 0 by omega)
    have k1 := Int.emod_lt_of_pos n2 (show (0 : Int) < 30 by omega)
    generalize n2 % 30 = q at M1 k0 k1
    obtain ⟨K, EK⟩ : ∃ K, IntKind.i64.wrap (3 + q) = K := ⟨_, rfl⟩
    clear k0 k1
    have pN := ipow_pos N
    have pN2 := ipow_le32 N hN2
    have M2 : Hid (∀ W, Calls Try.prog 8 #[.int .i64 n1, .int .i64 (IntKind.i64.wrap (2 ^ min (IntKind.u64.wrap (N : Int)).toNat 64))] W fun e w' => e = .returned (.int .i64 (n1 % 2 ^ N)) ∧ W = w') := fun W => by
      rw [shl_wrap N hN2]; exact mod_any n1 (2 ^ N) W pN (by omega) c1.1 c1.2
    have M3 : Hid (∀ W, Calls Try.prog 8 #[.int .i64 n3, .int .i64 (IntKind.i64.wrap (2 ^ min (IntKind.u64.wrap (N : Int)).toNat 64))] W fun e w' => e = .returned (.int .i64 (n3 % 2 ^ N)) ∧ W = w') := fun W => by
      rw [shl_wrap N hN2]; exact mod_any n3 (2 ^ N) W pN (by omega) c3.1 c3.2
    generalize n1 % 2 ^ N = r at M2
    generalize n3 % 2 ^ N = l at M3
    have Hs := Lib.hid (hs.alloc (.cells #[Value.int .i64 n0, Value.int .i64 n1, Value.int .i64 n2, Value.int .i64 n3] 22))
    have KB := Lib.hid (heap_alloc_new w (.cells #[Value.int .i64 n0, Value.int .i64 n1, Value.int .i64 n2, Value.int .i64 n3] 22))
    have HC : Hid ((w.alloc (.cells #[Value.int .i64 n0, Value.int .i64 n1, Value.int .i64 n2, Value.int .i64 n3] 22)).heap.size = w.heap.size + 1) := by show _ = _; simp
    have KL : Hid (∀ o, ((w.alloc (.cells #[Value.int .i64 n0, Value.int .i64 n1, Value.int .i64 n2, Value.int .i64 n3] 22)).alloc o).heap[w.heap.size + 1]? = some o) := fun o => by
      have h := heap_alloc_new (w.alloc (.cells #[Value.int .i64 n0, Value.int .i64 n1, Value.int .i64 n2, Value.int .i64 n3] 22)) o
      rw [HC.out] at h; exact h
    have c := cells_of KB.out
    clear hs pN pN2 c0 c1 c2 c3
    go_enter Try.func3, Try.ntmps3
    go_upto_region 3 with (fail)
    go_cut [5] (fun s5 wx => ∃ lb : Nat, s5 = .pointer (some ⟨lb, 0, none⟩) ∧ w.heap.size + 1 ≤ lb ∧ wx.heap[lb]? = some (.cells #[Value.int .i64 n0, Value.int .i64 n1, Value.int .i64 n2, Value.int .i64 n3, Value.int .i64 N, Value.int .i64 n1, Value.int .i64 K, Value.int .i64 n3] 27 (0, 0)) ∧ Below (w.heap.size + 1) (w.alloc (.cells #[Value.int .i64 n0, Value.int .i64 n1, Value.int .i64 n2, Value.int .i64 n3] 22)) wx)
    case first =>
      clear M2 M3 Hs
      go_region_held3 (fun w' => w'.cell? ⟨w.heap.size, 0, none⟩ = some (.int .i64 n0) ∧ w'.cell? ⟨w.heap.size, 1, none⟩ = some (.int .i64 n1) ∧ w'.cell? ⟨w.heap.size, 2, none⟩ = some (.int .i64 n2) ∧ w'.cell? ⟨w.heap.size, 3, none⟩ = some (.int .i64 n3)) (first | exact ⟨c 0, c 1, c 2, c 3⟩ | go_keep)
        (first | ((with_reducible refine (M0.out _).mono ?_); rintro e w' ⟨rfl, rfl⟩) | ((with_reducible refine (M1.out _).mono ?_); rintro e w' ⟨rfl, rfl⟩) | fail)
      all_goals (go_wp2_with fail; go_meet)
      all_goals exact ⟨_, rfl, Nat.le_refl _, KL.out _, ((Below.refl _ _).alloc (Nat.le_of_eq HC.out.symm) _).drew⟩
    case rest =>
      obtain ⟨lb, rfl, hlb, hL, hB⟩ := hcut
      have KB1 := Lib.hid ((hB.block w.heap.size (by omega)).trans KB.out)
      have KL1 := Lib.hid hL
      have B1 := Lib.hid hB
      have hsz : w.heap.size + 1 ≤ wc.heap.size := by have := hB.size; rw [HC.out] at this; exact this
      have hlt := lt_of_block hL
      clear hL hB c M0 M1 hR KL KB EK
      have cb := cells_of KB1.out
      have cl := cells_of KL1.out
      have fl := frozen_of KL1.out
      have d1 := cb 1
      have d3 := cb 3
      have d4 := cl 4
      have d5 := cl 5
      have d7 := cl 7
      have f5 := fl 5
      have f7 := fl 7
      have hne : lb ≠ w.heap.size := by omega
      have KS5 : Hid (∀ (W : World) (v : Value), (W.cell? ⟨w.heap.size, 1, none⟩ = some (.int .i64 n1) ∧ W.cell? ⟨w.heap.size, 3, none⟩ = some (.int .i64 n3) ∧ W.cell? ⟨lb, 4, none⟩ = some (.int .i64 N)) → (W.setCell ⟨lb, 5, none⟩ v).cell? ⟨w.heap.size, 1, none⟩ = some (.int .i64 n1) ∧ (W.setCell ⟨lb, 5, none⟩ v).cell? ⟨w.heap.size, 3, none⟩ = some (.int .i64 n3) ∧ (W.setCell ⟨lb, 5, none⟩ v).cell? ⟨lb, 4, none⟩ = some (.int .i64 N)) := fun W v h => ⟨(World.cell?_setCell_other W _ _ v (by simp)).trans h.1, (World.cell?_setCell_other W _ _ v (by simp)).trans h.2.1, (World.cell?_setCell_other W _ _ v (by simp)).trans h.2.2⟩
      have KS7 : Hid (∀ (W : World) (v : Value), (W.cell? ⟨w.heap.size, 1, none⟩ = some (.int .i64 n1) ∧ W.cell? ⟨w.heap.size, 3, none⟩ = some (.int .i64 n3) ∧ W.cell? ⟨lb, 4, none⟩ = some (.int .i64 N)) → (W.setCell ⟨lb, 7, none⟩ v).cell? ⟨w.heap.size, 1, none⟩ = some (.int .i64 n1) ∧ (W.setCell ⟨lb, 7, none⟩ v).cell? ⟨w.heap.size, 3, none⟩ = some (.int .i64 n3) ∧ (W.setCell ⟨lb, 7, none⟩ v).cell? ⟨lb, 4, none⟩ = some (.int .i64 N)) := fun W v h => ⟨(World.cell?_setCell_other W _ _ v (by simp)).trans h.1, (World.cell?_setCell_other W _ _ v (by simp)).trans h.2.1, (World.cell?_setCell_other W _ _ v (by simp)).trans h.2.2⟩
      have KD : Hid (∀ W : World, (W.cell? ⟨w.heap.size, 1, none⟩ = some (.int .i64 n1) ∧ W.cell? ⟨w.heap.size, 3, none⟩ = some (.int .i64 n3) ∧ W.cell? ⟨lb, 4, none⟩ = some (.int .i64 N)) → W.drew.cell? ⟨w.heap.size, 1, none⟩ = some (.int .i64 n1) ∧ W.drew.cell? ⟨w.heap.size, 3, none⟩ = some (.int .i64 n3) ∧ W.drew.cell? ⟨lb, 4, none⟩ = some (.int .i64 N)) := fun W h => h
      have P0 : Hid (wc.cell? ⟨w.heap.size, 1, none⟩ = some (.int .i64 n1) ∧ wc.cell? ⟨w.heap.size, 3, none⟩ = some (.int .i64 n3) ∧ wc.cell? ⟨lb, 4, none⟩ = some (.int .i64 N)) := ⟨d1, d3, d4⟩
      go_upto_region 4 with (fail)
      go_region_held3 (fun w' => w'.cell? ⟨w.heap.size, 1, none⟩ = some (.int .i64 n1) ∧ w'.cell? ⟨w.heap.size, 3, none⟩ = some (.int .i64 n3) ∧ w'.cell? ⟨lb, 4, none⟩ = some (.int .i64 N)) (first | exact ⟨d1, d3, d4⟩ | ((repeat (first | with_reducible exact P0.out | with_reducible refine KD.out _ ?_ | with_reducible refine KS5.out _ _ ?_ | with_reducible refine KS7.out _ _ ?_)); done) | go_keep)
        (first | ((with_reducible refine (M2.out _).mono ?_); rintro e w' ⟨rfl, rfl⟩) | ((with_reducible refine (M3.out _).mono ?_); rintro e w' ⟨rfl, rfl⟩) | fail)
      have KL2 : ((wc.setCell ⟨lb, 5, none⟩ (Value.int .i64 r)).setCell ⟨lb, 7, none⟩ (Value.int .i64 l)).drew.heap[lb]? = some (.cells #[Value.int .i64 n0, Value.int .i64 n1, Value.int .i64 n2, Value.int .i64 n3, Value.int .i64 N, Value.int .i64 r, Value.int .i64 K, Value.int .i64 l] 27 (0, 0)) := blk_set (blk_set KL1.out 5 (.int .i64 r)) 7 (.int .i64 l)
      have B2 : Below (w.heap.size + 1) (w.alloc (.cells #[Value.int .i64 n0, Value.int .i64 n1, Value.int .i64 n2, Value.int .i64 n3] 22)) ((wc.setCell ⟨lb, 5, none⟩ (Value.int .i64 r)).setCell ⟨lb, 7, none⟩ (Value.int .i64 l)).drew := ((B1.out.setCell hlb _).setCell hlb _).drew
      generalize ((wc.setCell ⟨lb, 5, none⟩ (Value.int .i64 r)).setCell ⟨lb, 7, none⟩ (Value.int .i64 l)).drew = wd at KL2 B2 ⊢
      replace KL2 := Lib.hid KL2
      replace B2 := Lib.hid B2
      clear P0 KD KS5 KS7 cb cl fl d1 d3 d4 d5 d7 f5 f7 KL1 KB1 B1 M2 M3 hlt hsz
      go_wp2_with fail
      go_loopw [6] (fun k wr => ∃ j : Nat, j ≤ 2 ∧ k = .int .i64 j ∧ wr.heap[lb]? = some (.cells #[Value.int .i64 n0, Value.int .i64 n1, Value.int .i64 n2, Value.int .i64 n3, Value.int .i64 N, Value.int .i64 r, Value.int .i64 K, Value.int .i64 l] 27 (0, 0)) ∧ Below (w.heap.size + 1) (w.alloc (.cells #[Value.int .i64 n0, Value.int .i64 n1, Value.int .i64 n2, Value.int .i64 n3] 22)) wr) (fun k _ => 2 - (intOf k).toNat)
      case atStart => exact ⟨0, by omega, by simp, KL2.out, B2.out⟩
      case round =>
        obtain ⟨j, hj, rfl, hl, hb⟩ := hrel
        have Hl := Lib.hid hl
        have Hb := Lib.hid hb
        have hlt := lt_of_block hl
        have hbs : w.heap.size + 1 ≤ wr.heap.size := by have := hb.size; rw [HC.out] at this; exact this
        clear hl hb
        have cl := cells_of Hl.out
        have Hs1 := Lib.hid (Hs.out.keep (by rw [HC.out]; exact Hb.out))
        rcases (show j = 0 ∨ j = 1 ∨ j = 2 by omega) with rfl | rfl | rfl
        · have d0 := cl 0
          have d1 := cl 1
          have d2 := cl 2
          have d3 := cl 3
          go_upto_region 14 with (first | (go_at_call 10; refine (lsDecode_any _ _ _ _ _).mono ?_; rintro e w' ⟨rfl, rfl⟩) | (go_at_call 11; refine (refDecode_any _ _ _ _ _).mono ?_; rintro e w' ⟨rfl, rfl⟩) | (go_at_call 9; refine (refLow_any _ _ _).mono ?_; rintro e w' ⟨rfl, rfl⟩) | fail)
          generalize lsDecV n0 n1 n2 n3 = V
          generalize lsDecE n0 n1 n2 n3 = E
          have HX := Lib.hid (heap_alloc_new wr (.cells #[Value.int .i64 n0, Value.int .i64 n1, Value.int .i64 n2, Value.int .i64 n3] 22))
          have SX := Lib.hid (Hs1.out.alloc (.cells #[Value.int .i64 n0, Value.int .i64 n1, Value.int .i64 n2, Value.int .i64 n3] 22))
          have HY := Lib.hid ((heap_alloc_old wr (.cells #[Value.int .i64 n0, Value.int .i64 n1, Value.int .i64 n2, Value.int .i64 n3] 22) hlt).trans Hl.out)
          have BX := Lib.hid (Hb.out.alloc hbs (.cells #[Value.int .i64 n0, Value.int .i64 n1, Value.int .i64 n2, Value.int .i64 n3] 22))
          have hxb : wr.heap.size < (wr.alloc (.cells #[Value.int .i64 n0, Value.int .i64 n1, Value.int .i64 n2, Value.int .i64 n3] 22)).heap.size := by simp
          clear d0 d1 d2 d3 Hs1 Hl Hb hlt hbs cl
          generalize (wr.alloc (.cells #[Value.int .i64 n0, Value.int .i64 n1, Value.int .i64 n2, Value.int .i64 n3] 22)) = W1 at HX SX HY BX hxb ⊢
          generalize wr.heap.size = xb at HX hxb ⊢
          have cx := cells_of HX.out
          have C1 := Lib.hid (Offset_any n2)
          have C2 := Lib.hid (refOffset_any n2)
          have C3 := Lib.hid (fun W h => lsFits_any n0 n2 n3 a n cap zs W h)
          have C4 := Lib.hid (fun W h => refFits_any n0 n2 n3 a n cap zs W h)
          have C5 := Lib.hid (fun W h => lsLeast_any n0 n3 a n cap zs W h)
          have C6 := Lib.hid (fun W h => refLeast_any n0 n3 a n cap zs W h)
          generalize offV n2 = f1 at C1 C2
          generalize lsFits n0 zs n2 n3 = f2 at C3 C4
          generalize lsLeast n0 zs n3 = f3 at C5 C6
          go_region_held3 (fun w' => w'.cell? ⟨xb, 0, none⟩ = some (.int .i64 n0) ∧ w'.cell? ⟨xb, 1, none⟩ = some (.int .i64 n1) ∧ w'.cell? ⟨xb, 2, none⟩ = some (.int .i64 n2) ∧ w'.cell? ⟨xb, 3, none⟩ = some (.int .i64 n3)) (first | exact ⟨cx 0, cx 1, cx 2, cx 3⟩ | exact hk | go_keep)
            (first
              | (go_at_call 12; refine (C1.out _).mono ?_; rintro e w' ⟨rfl, rfl⟩)
              | (go_at_call 13; refine (C2.out _).mono ?_; rintro e w' ⟨rfl, rfl⟩)
              | (go_at_call 14; refine (C3.out _ SX.out.drew).mono ?_; rintro e w' ⟨rfl, rfl⟩)
              | (go_at_call 15; refine (C4.out _ SX.out.drew).mono ?_; rintro e w2 ⟨rfl, hb2⟩; have S2 := Lib.hid (SX.out.drew.keep hb2); have X2 := Lib.hid ((hb2.block xb hxb).trans HX.out); have B2 := Lib.hid hb2; have hk := And.intro (cells_of X2.out 0) (And.intro (cells_of X2.out 1) (And.intro (cells_of X2.out 2) (cells_of X2.out 3))); have hsz2 := B2.out.size; clear hb2)
              | (go_at_call 16; refine (C5.out _ S2.out).mono ?_; rintro e w' ⟨rfl, rfl⟩)
              | (go_at_call 17; refine (C6.out _ S2.out).mono ?_; rintro e w3 ⟨rfl, hb3⟩; have B3 := Lib.hid (B2.out.trans (hb3.mono hsz2)); have X3 := Lib.hid ((B3.out.block xb hxb).trans HX.out); have hk := And.intro (cells_of X3.out 0) (And.intro (cells_of X3.out 1) (And.intro (cells_of X3.out 2) (cells_of X3.out 3))); clear hb3)
              | fail)
          have KZ := Lib.hid ((B3.out.block lb (lt_of_block HY.out)).trans HY.out)
          have BZ := Lib.hid (BX.out.drew.trans (B3.out.mono (by have := BX.out.size; rw [HC.out] at this; exact this)))
          go_wp2
          go_roundw
          case rel => exact ⟨1, by omega, by simp, KZ.out, BZ.out⟩
          case measure => simp [intOf]
        · have d0 := cl 4
          have d1 := cl 5
          have d2 := cl 6
          have d3 := cl 7
          go_upto_region 14 with (first | (go_at_call 10; refine (lsDecode_any _ _ _ _ _).mono ?_; rintro e w' ⟨rfl, rfl⟩) | (go_at_call 11; refine (refDecode_any _ _ _ _ _).mono ?_; rintro e w' ⟨rfl, rfl⟩) | (go_at_call 9; refine (refLow_any _ _ _).mono ?_; rintro e w' ⟨rfl, rfl⟩) | fail)
          generalize (if 32 < K then 32 else K) = mk
          generalize lsDecV N r K (lowV mk l) = V
          generalize lsDecE N r K (lowV mk l) = E
          have HX := Lib.hid (heap_alloc_new wr (.cells #[Value.int .i64 N, Value.int .i64 r, Value.int .i64 K, Value.int .i64 l] 22))
          have SX := Lib.hid (Hs1.out.alloc (.cells #[Value.int .i64 N, Value.int .i64 r, Value.int .i64 K, Value.int .i64 l] 22))
          have HY := Lib.hid ((heap_alloc_old wr (.cells #[Value.int .i64 N, Value.int .i64 r, Value.int .i64 K, Value.int .i64 l] 22) hlt).trans Hl.out)
          have BX := Lib.hid (Hb.out.alloc hbs (.cells #[Value.int .i64 N, Value.int .i64 r, Value.int .i64 K, Value.int .i64 l] 22))
          have hxb : wr.heap.size < (wr.alloc (.cells #[Value.int .i64 N, Value.int .i64 r, Value.int .i64 K, Value.int .i64 l] 22)).heap.size := by simp
          clear d0 d1 d2 d3 Hs1 Hl Hb hlt hbs cl
          generalize (wr.alloc (.cells #[Value.int .i64 N, Value.int .i64 r, Value.int .i64 K, Value.int .i64 l] 22)) = W1 at HX SX HY BX hxb ⊢
          generalize wr.heap.size = xb at HX hxb ⊢
          have cx := cells_of HX.out
          have C1 := Lib.hid (Offset_any K)
          have C2 := Lib.hid (refOffset_any K)
          have C3 := Lib.hid (fun W h => lsFits_any N K l a n cap zs W h)
          have C4 := Lib.hid (fun W h => refFits_any N K l a n cap zs W h)
          have C5 := Lib.hid (fun W h => lsLeast_any N l a n cap zs W h)
          have C6 := Lib.hid (fun W h => refLeast_any N l a n cap zs W h)
          generalize offV K = f1 at C1 C2
          generalize lsFits N zs K l = f2 at C3 C4
          generalize lsLeast N zs l = f3 at C5 C6
          go_region_held3 (fun w' => w'.cell? ⟨xb, 0, none⟩ = some (.int .i64 N) ∧ w'.cell? ⟨xb, 1, none⟩ = some (.int .i64 r) ∧ w'.cell? ⟨xb, 2, none⟩ = some (.int .i64 K) ∧ w'.cell? ⟨xb, 3, none⟩ = some (.int .i64 l)) (first | exact ⟨cx 0, cx 1, cx 2, cx 3⟩ | exact hk | go_keep)
            (first
              | (go_at_call 12; refine (C1.out _).mono ?_; rintro e w' ⟨rfl, rfl⟩)
              | (go_at_call 13; refine (C2.out _).mono ?_; rintro e w' ⟨rfl, rfl⟩)
              | (go_at_call 14; refine (C3.out _ SX.out.drew).mono ?_; rintro e w' ⟨rfl, rfl⟩)
              | (go_at_call 15; refine (C4.out _ SX.out.drew).mono ?_; rintro e w2 ⟨rfl, hb2⟩; have S2 := Lib.hid (SX.out.drew.keep hb2); have X2 := Lib.hid ((hb2.block xb hxb).trans HX.out); have B2 := Lib.hid hb2; have hk := And.intro (cells_of X2.out 0) (And.intro (cells_of X2.out 1) (And.intro (cells_of X2.out 2) (cells_of X2.out 3))); have hsz2 := B2.out.size; clear hb2)
              | (go_at_call 16; refine (C5.out _ S2.out).mono ?_; rintro e w' ⟨rfl, rfl⟩)
              | (go_at_call 17; refine (C6.out _ S2.out).mono ?_; rintro e w3 ⟨rfl, hb3⟩; have B3 := Lib.hid (B2.out.trans (hb3.mono hsz2)); have X3 := Lib.hid ((B3.out.block xb hxb).trans HX.out); have hk := And.intro (cells_of X3.out 0) (And.intro (cells_of X3.out 1) (And.intro (cells_of X3.out 2) (cells_of X3.out 3))); clear hb3)
              | fail)
          have KZ := Lib.hid ((B3.out.block lb (lt_of_block HY.out)).trans HY.out)
          have BZ := Lib.hid (BX.out.drew.trans (B3.out.mono (by have := BX.out.size; rw [HC.out] at this; exact this)))
          go_wp2
          go_roundw
          case rel => exact ⟨2, by omega, by simp, KZ.out, BZ.out⟩
          case measure => simp [intOf]
        · go_wp2_with (first | (go_at_call 7; refine (awake07_any _).mono ?_; rintro e w6 ⟨rfl, hb6⟩) | fail)
          go_ret
          exact ⟨rfl, B0.out.trans ((Hb.out.trans (hb6.mono hbs)).mono (by omega))⟩

theorem walk (w : World) (ys : List Int) (hl : ys.length = 4) (hw : ∀ z ∈ ys, (Lit.int .i64 z).wf = true) (a : Option Addr) (n cap : Nat) (zs : List Int) (hs : Sl .i64 w a n zs) :
    Calls Try.prog 3 #[.agg (ys.map (Value.int .i64)).toArray, .slice a n cap] w fun e w' => e = .returned (.bool true) ∧ Below w.heap.size w w' := by
  match ys, hl, hw with
  | [x0, x1, x2, x3], _, hw => exact walk4 w x0 x1 x2 x3 (wf_i64 (hw x0 (by simp))) (wf_i64 (hw x1 (by simp))) (wf_i64 (hw x2 (by simp))) (wf_i64 (hw x3 (by simp))) a n cap zs hs

theorem own : ownKnob Try.prog.godebug = none := by kernel_rfl
theorem laidOut : laidOutB Try.prog = true := by kernel_rfl
theorem read_arr4 : Try.prog.readableRec 22 = true := by kernel_rfl
theorem read_ints : Try.prog.readableRec 23 = true := by kernel_rfl
theorem cells_i : Try.prog.cellsOf 3 = 1 := by kernel_rfl
theorem bytes_i : Try.prog.bytesOf 3 = 8 := by kernel_rfl
theorem cells_a4 : Try.prog.cellsOf 22 = 4 := by kernel_rfl
theorem lt_arr4 : 22 < Try.prog.types.size := of_decide_eq_true (by kernel_rfl)
theorem lt_ints : 23 < Try.prog.types.size := of_decide_eq_true (by kernel_rfl)

set_option maxRecDepth 100000 in
theorem lifted (os : Os) (started : os.Started) (H : Type) (enc : TypeId × Value → H) :
    ReturnsInHanded {} Try.checked os 3 .any (Rows.lsbExactSpec.pre6 enc Try.prog Try.f3 Rows.lsbExactRow.domain false) (Rows.lsbExactSpec.post enc Try.prog Try.f3 false true false false) := by
  refine law_lifted (C := Try.checked) (rt := 4) [22, 23] own started (by kernel_rfl) Try.func3 laidOut (by rw [Try.params3])
    (fun t ht => by simp only [List.mem_cons, List.not_mem_nil, or_false] at ht; rcases ht with rfl | rfl <;> first | exact ⟨read_arr4, lt_arr4⟩ | exact ⟨read_ints, lt_ints⟩) rfl Try.underlying4 rfl
    (fun ds h => by match ds, h with | [d0, d1], _ => rfl)
    (ChangeSpec.witness6 (enc := enc) (C := Try.checked) false ⟨#[], #[.agg #[.int .i64 0, .int .i64 0, .int .i64 0, .int .i64 0], .slice none 0 0], []⟩ 8 (by kernel_rfl) (by kernel_rfl) (by kernel_rfl) (by kernel_rfl)) ?_
  intro W base args ds p hval hA hsz
  obtain ⟨v0, vs0, d0, ds0, p0, q0, hargs, rfl, rfl, h0, r0⟩ := trodAll_cons hA
  obtain ⟨v1, vs1, d1, ds1, p1, q1, rfl, rfl, rfl, h1, r1⟩ := trodAll_cons r0
  obtain ⟨rfl, rfl, rfl⟩ := trodAll_nil r1
  obtain rfl : args = #[v0, v1] := by cases args; simp_all
  obtain ⟨y0, rfl, l0, w0⟩ := open_arr Try.underlying22 Try.underlying3 cells_i cells_a4 (hval 0 _ v0 rfl rfl) h0
  obtain ⟨a1, n1, c1, z1, rfl, s1, nn1⟩ := open_slr Try.underlying23 Try.underlying3 cells_i (by rw [bytes_i]; omega) (hval 1 _ v1 rfl rfl) h1 (fun el spa hd => sized_slice hsz (j := 1) rfl (by rw [hd]; rfl) Try.underlying23)
  exact walk W y0 l0 w0 a1 n1 c1 z1 s1

/-- THE STATEMENT -/
theorem proved : Rows.LsbExactSaid :=
  OpenClaim.holds_of_wide 3 Try.f3 rfl rfl rfl rfl rfl rfl rfl ⟨rfl, rfl, rfl, rfl, rfl⟩ rfl rfl rfl rfl rfl (by kernel_rfl) Try.func3 (by kernel_rfl)
    (of_decide_eq_true (by kernel_rfl)) (by unfold Func.isWrapper; first | (rw [if_pos (by decide +kernel)]; kernel_rfl) | (rw [if_neg (by decide +kernel)]; exact ⟨rfl, rfl⟩))
    (fun os started H enc _ => lifted os started H enc)
#print axioms proved
end Go.Proofs.Ytlpnpecohndpbaa.lsbExact
