/-
  Parse of the document's own functions of layer 5.
-/
import Derived.Test.YtfeeifemfhhijaaPkRPar0
import Derived.Test.YtfeeifemfhhijaaPkPar2
import Derived.Test.YtfeeifemfhhijaaPkBuild
import Derived.Test.YtfeeifemfhhijaaPkParse
import Derived.Test.YtfeeifemfhhijaaPush2
import Derived.Test.YtfeeifemfhhijaaHdBox2
import Derived.Deep.QuietTactic
import Derived.BigQuiet
import Derived.BigRegion
import Derived.Deep.RegionHeld3
import Derived.Deep.DrawnRows
import Derived.Deep.DeepCutAuto
namespace Go.Proofs.Ytfeeifemfhhijaa
open Go Go.RowKit
attribute [local go_sem ↓] Go.wp_at_zero Go.wp_at_succ

set_option maxRecDepth 100000 in
set_option maxHeartbeats 12800000 in
theorem rParse_true (g off n cap : Nat) (zs : List Int) (w : World) (hs : Sl .u8 w (some ⟨g, off, none⟩) n zs) (hc : n ≤ cap) (h28 : 28 ≤ n) (h15 : n ≤ 1500) (hp0 : parB zs = true) :
    Calls Try.prog 29 #[.slice (some ⟨g, off, none⟩) n cap] w (RPar w n zs) := by
  have HP0 := Lib.hid hp0
  clear hp0
  have z1 := hs.u8 1
  have z6 := hs.u8 6
  have z8 := hs.u8 8
  have hs0 := hs.alloc (.cells #[.int .i64 0, .int .i64 0, .int .i64 0, .int .i64 0, .int .i64 0, .int .i64 0, .int .i64 0, .int .i64 0, .int .i64 0, .int .i64 0, .int .i64 0, .int .i64 0, .int .i64 0, .int .i64 0, .int .i64 0] 23)
  have hl := hs.len
  have S0 := Lib.hid hs0.drew
  have S1 := Lib.hid (fun o => (hs0.alloc o).drew)
  have HS : Hid (∀ W, Below w.heap.size w W → Sl .u8 W (some ⟨g, off, none⟩) n zs) := Lib.hid (fun W hb => hs.keep hb)
  have c1 := hs0.at (i := 1) (by omega)
  have c6 := hs0.at (i := 6) (by omega)
  have c8 := hs0.at (i := 8) (by omega)
  have q1 : (1 : Int) < (n : Int) := by omega
  have q6 : (6 : Int) < (n : Int) := by omega
  have q8 : (8 : Int) < (n : Int) := by omega
  have hu : fldU zs = ⟨1, zs.getD 1 0, getB zs 4 2, zs.getD 6 0 / 64 % 2, zs.getD 8 0, getB zs 12 4, getB zs 16 4, getB zs 20 2, getB zs 22 2, getB zs 26 2, 0, 0, 0, 0, 0⟩ := rfl
  have hf : fldR zs = ⟨2, zs.getD 1 0, getB zs 4 2, zs.getD 6 0 / 64 % 2, zs.getD 8 0, getB zs 12 4, getB zs 16 4, getB zs 20 2, getB zs 22 2, getB zs 26 2, zs.getD 29 0 / 128, zs.getD 29 0 % 128, getB zs 30 2, getB zs 32 4, getB zs 36 4⟩ := rfl
  have G4 := Lib.hid (fun W h => Get_lit (some ⟨g, off, none⟩) n cap 4 2 4 2 zs W h rfl rfl (by omega) (by omega))
  have G12 := Lib.hid (fun W h => Get_lit (some ⟨g, off, none⟩) n cap 12 4 12 4 zs W h rfl rfl (by omega) (by omega))
  have G16 := Lib.hid (fun W h => Get_lit (some ⟨g, off, none⟩) n cap 16 4 16 4 zs W h rfl rfl (by omega) (by omega))
  have G20 := Lib.hid (fun W h => Get_lit (some ⟨g, off, none⟩) n cap 20 2 20 2 zs W h rfl rfl (by omega) (by omega))
  have G22 := Lib.hid (fun W h => Get_lit (some ⟨g, off, none⟩) n cap 22 2 22 2 zs W h rfl rfl (by omega) (by omega))
  have G26 := Lib.hid (fun W h => Get_lit (some ⟨g, off, none⟩) n cap 26 2 26 2 zs W h rfl rfl (by omega) (by omega))
  have G30 := Lib.hid (fun W h (h40 : 40 ≤ n) => Get_lit (some ⟨g, off, none⟩) n cap 30 2 30 2 zs W h rfl rfl (by omega) (by omega))
  have G32 := Lib.hid (fun W h (h40 : 40 ≤ n) => Get_lit (some ⟨g, off, none⟩) n cap 32 4 32 4 zs W h rfl rfl (by omega) (by omega))
  have G36 := Lib.hid (fun W h (h40 : 40 ≤ n) => Get_lit (some ⟨g, off, none⟩) n cap 36 4 36 4 zs W h rfl rfl (by omega) (by omega))
  generalize zs.getD 1 0 = x1 at c1 z1 hu hf
  generalize zs.getD 6 0 = x6 at c6 z6 hu hf
  generalize zs.getD 8 0 = x8 at c8 z8 hu hf
  generalize getB zs 4 2 = y4 at G4 hu hf
  generalize getB zs 12 4 = y12 at G12 hu hf
  generalize getB zs 16 4 = y16 at G16 hu hf
  generalize getB zs 20 2 = y20 at G20 hu hf
  generalize getB zs 22 2 = y22 at G22 hu hf
  generalize getB zs 26 2 = y26 at G26 hu hf
  have e6 := u8_bit6 x6 z6.1 z6.2
  have e7 : IntKind.i64.wrap (x6 / 64 % 2) = x6 / 64 % 2 := IntWalk.i64_in _ ⟨by omega, by omega⟩
  have k6 : IntKind.i64.wrap x1 = x1 := IntWalk.i64_in _ ⟨by omega, by omega⟩
  have k8 : IntKind.i64.wrap x8 = x8 := IntWalk.i64_in _ ⟨by omega, by omega⟩
  have HU := Lib.hid hu
  have HF := Lib.hid hf
  have HL := Lib.hid hl
  have HV := Lib.hid (fldL_valid zs hs.bytes)
  have hHn := fldL_head zs (by rw [hs.len]; exact h28)
  rw [hl] at hHn
  clear hs hs0 hu hf hl
  go_enter Try.func29, Try.ntmps29
  go_upto_region 3 with fail
  go_cut [5] (fun s5 wx => s5 = .pointer (some ⟨w.heap.size + 1, 0, none⟩) ∧ wx = ((w.alloc (.cells #[.int .i64 0, .int .i64 0, .int .i64 0, .int .i64 0, .int .i64 0, .int .i64 0, .int .i64 0, .int .i64 0, .int .i64 0, .int .i64 0, .int .i64 0, .int .i64 0, .int .i64 0, .int .i64 0, .int .i64 0] 23)).alloc (.cells #[.int .i64 1, .int .i64 x1, .int .i64 y4, .int .i64 (x6 / 64 % 2), .int .i64 x8, .int .i64 y12, .int .i64 y16, .int .i64 y20, .int .i64 y22, .int .i64 y26, .int .i64 0, .int .i64 0, .int .i64 0, .int .i64 0, .int .i64 0] 23)).drew)
  case first =>
    go_region_held3 (fun w' => w'.cell? ⟨g, off + 1, none⟩ = some (.int .u8 x1) ∧ w'.cell? ⟨g, off + 6, none⟩ = some (.int .u8 x6) ∧ w'.cell? ⟨g, off + 8, none⟩ = some (.int .u8 x8)) (first | exact ⟨c1, c6, c8⟩ | go_keep)
      (first
        | ((with_reducible refine (G4.out _ (by first | exact S0.out | exact S1.out _)).mono ?_); rintro e w' ⟨rfl, rfl⟩)
        | ((with_reducible refine (G12.out _ (by first | exact S0.out | exact S1.out _)).mono ?_); rintro e w' ⟨rfl, rfl⟩)
        | ((with_reducible refine (G16.out _ (by first | exact S0.out | exact S1.out _)).mono ?_); rintro e w' ⟨rfl, rfl⟩)
        | ((with_reducible refine (G20.out _ (by first | exact S0.out | exact S1.out _)).mono ?_); rintro e w' ⟨rfl, rfl⟩)
        | ((with_reducible refine (G22.out _ (by first | exact S0.out | exact S1.out _)).mono ?_); rintro e w' ⟨rfl, rfl⟩)
        | ((with_reducible refine (G26.out _ (by first | exact S0.out | exact S1.out _)).mono ?_); rintro e w' ⟨rfl, rfl⟩)
        | fail)
    all_goals (go_wp2_with fail; go_meet)
    all_goals exact ⟨rfl, rfl⟩
  case rest =>
    obtain ⟨rfl, rfl⟩ := hcut
    clear c1 c6 c8 q1 q6 q8 e6 e7 k6 k8 G4 G12 G16 G20 G22 G26 S0 S1 z1 z6 z8
    have hb1 := ((Below.refl w.heap.size w).alloc (Nat.le_refl _) (.cells #[.int .i64 0, .int .i64 0, .int .i64 0, .int .i64 0, .int .i64 0, .int .i64 0, .int .i64 0, .int .i64 0, .int .i64 0, .int .i64 0, .int .i64 0, .int .i64 0, .int .i64 0, .int .i64 0, .int .i64 0] 23)).alloc (by simp) (.cells #[.int .i64 1, .int .i64 x1, .int .i64 y4, .int .i64 (x6 / 64 % 2), .int .i64 x8, .int .i64 y12, .int .i64 y16, .int .i64 y20, .int .i64 y22, .int .i64 y26, .int .i64 0, .int .i64 0, .int .i64 0, .int .i64 0, .int .i64 0] 23) |>.drew
    have hz1 : w.heap.size + 1 < (((w.alloc (.cells #[.int .i64 0, .int .i64 0, .int .i64 0, .int .i64 0, .int .i64 0, .int .i64 0, .int .i64 0, .int .i64 0, .int .i64 0, .int .i64 0, .int .i64 0, .int .i64 0, .int .i64 0, .int .i64 0, .int .i64 0] 23)).alloc (.cells #[.int .i64 1, .int .i64 x1, .int .i64 y4, .int .i64 (x6 / 64 % 2), .int .i64 x8, .int .i64 y12, .int .i64 y16, .int .i64 y20, .int .i64 y22, .int .i64 y26, .int .i64 0, .int .i64 0, .int .i64 0, .int .i64 0, .int .i64 0] 23)).drew).heap.size := by simp
    have K1 : (((w.alloc (.cells #[.int .i64 0, .int .i64 0, .int .i64 0, .int .i64 0, .int .i64 0, .int .i64 0, .int .i64 0, .int .i64 0, .int .i64 0, .int .i64 0, .int .i64 0, .int .i64 0, .int .i64 0, .int .i64 0, .int .i64 0] 23)).alloc (.cells #[.int .i64 1, .int .i64 x1, .int .i64 y4, .int .i64 (x6 / 64 % 2), .int .i64 x8, .int .i64 y12, .int .i64 y16, .int .i64 y20, .int .i64 y22, .int .i64 y26, .int .i64 0, .int .i64 0, .int .i64 0, .int .i64 0, .int .i64 0] 23)).drew).heap[w.heap.size + 1]? = some (.cells #[.int .i64 1, .int .i64 x1, .int .i64 y4, .int .i64 (x6 / 64 % 2), .int .i64 x8, .int .i64 y12, .int .i64 y16, .int .i64 y20, .int .i64 y22, .int .i64 y26, .int .i64 0, .int .i64 0, .int .i64 0, .int .i64 0, .int .i64 0] 23 (0, 0)) := by
      have q := heap_alloc_new (w.alloc (.cells #[.int .i64 0, .int .i64 0, .int .i64 0, .int .i64 0, .int .i64 0, .int .i64 0, .int .i64 0, .int .i64 0, .int .i64 0, .int .i64 0, .int .i64 0, .int .i64 0, .int .i64 0, .int .i64 0, .int .i64 0] 23)) (.cells #[.int .i64 1, .int .i64 x1, .int .i64 y4, .int .i64 (x6 / 64 % 2), .int .i64 x8, .int .i64 y12, .int .i64 y16, .int .i64 y20, .int .i64 y22, .int .i64 y26, .int .i64 0, .int .i64 0, .int .i64 0, .int .i64 0, .int .i64 0] 23)
      rw [show (w.alloc (.cells #[.int .i64 0, .int .i64 0, .int .i64 0, .int .i64 0, .int .i64 0, .int .i64 0, .int .i64 0, .int .i64 0, .int .i64 0, .int .i64 0, .int .i64 0, .int .i64 0, .int .i64 0, .int .i64 0, .int .i64 0] 23)).heap.size = w.heap.size + 1 by simp] at q
      exact q
    have Z1 : (((w.alloc (.cells #[.int .i64 0, .int .i64 0, .int .i64 0, .int .i64 0, .int .i64 0, .int .i64 0, .int .i64 0, .int .i64 0, .int .i64 0, .int .i64 0, .int .i64 0, .int .i64 0, .int .i64 0, .int .i64 0, .int .i64 0] 23)).alloc (.cells #[.int .i64 1, .int .i64 x1, .int .i64 y4, .int .i64 (x6 / 64 % 2), .int .i64 x8, .int .i64 y12, .int .i64 y16, .int .i64 y20, .int .i64 y22, .int .i64 y26, .int .i64 0, .int .i64 0, .int .i64 0, .int .i64 0, .int .i64 0] 23)).drew).heap[w.heap.size]? = some (.cells #[.int .i64 0, .int .i64 0, .int .i64 0, .int .i64 0, .int .i64 0, .int .i64 0, .int .i64 0, .int .i64 0, .int .i64 0, .int .i64 0, .int .i64 0, .int .i64 0, .int .i64 0, .int .i64 0, .int .i64 0] 23 (0, 0)) := (heap_alloc_old (w.alloc (.cells #[.int .i64 0, .int .i64 0, .int .i64 0, .int .i64 0, .int .i64 0, .int .i64 0, .int .i64 0, .int .i64 0, .int .i64 0, .int .i64 0, .int .i64 0, .int .i64 0, .int .i64 0, .int .i64 0, .int .i64 0] 23)) _ (by simp)).trans (heap_alloc_new w _)
    generalize ((w.alloc (.cells #[.int .i64 0, .int .i64 0, .int .i64 0, .int .i64 0, .int .i64 0, .int .i64 0, .int .i64 0, .int .i64 0, .int .i64 0, .int .i64 0, .int .i64 0, .int .i64 0, .int .i64 0, .int .i64 0, .int .i64 0] 23)).alloc (.cells #[.int .i64 1, .int .i64 x1, .int .i64 y4, .int .i64 (x6 / 64 % 2), .int .i64 x8, .int .i64 y12, .int .i64 y16, .int .i64 y20, .int .i64 y22, .int .i64 y26, .int .i64 0, .int .i64 0, .int .i64 0, .int .i64 0, .int .i64 0] 23)).drew = w1 at hb1 K1 Z1 hz1 ⊢
    replace hb1 := Lib.hid hb1
    replace K1 := Lib.hid K1
    replace Z1 := Lib.hid Z1
    go_upto_region 5 with fail
    go_cut [53] (fun s53 wx => s53 = .bool (rtpB zs) ∧ w1 = wx)
    case first =>
      have hR : rtpB zs = (decide (40 ≤ n) && (zs.getD 28 0 == 128)) := by unfold rtpB; rw [HL.out]
      by_cases h40 : 40 ≤ n
      · have c28 := (HS.out _ hb1.out).at (i := 28) (by omega)
        have q28 : (28 : Int) < (n : Int) := by omega
        have q40 : (40 : Int) ≤ (n : Int) := by omega
        rw [decide_eq_true h40, Bool.true_and] at hR
        generalize zs.getD 28 0 = x28 at c28 hR
        replace hR := Lib.hid hR
        go_wp2
        go_meet
        case rel => exact ⟨by rw [hR.out], rfl⟩
      · have q40 : ¬ (40 : Int) ≤ (n : Int) := by omega
        rw [decide_eq_false h40, Bool.false_and] at hR
        replace hR := Lib.hid hR
        go_wp2
        go_meet
        case rel => exact ⟨by rw [hR.out], rfl⟩
    case rest =>
      obtain ⟨rfl, rfl⟩ := hcut
      go_upto_if 53 with fail
      go_cut [6] (fun s6 wx => s6 = .int .i64 (headN (fldL zs) : Nat) ∧ Hid (wx.heap[w.heap.size + 1]? = some (.cells #[.int .i64 (fldL zs).kind, .int .i64 (fldL zs).tos, .int .i64 (fldL zs).id, .int .i64 (fldL zs).fixed, .int .i64 (fldL zs).ttl, .int .i64 (fldL zs).frm, .int .i64 (fldL zs).to, .int .i64 (fldL zs).fromPort, .int .i64 (fldL zs).toPort, .int .i64 (fldL zs).check, .int .i64 (fldL zs).marker, .int .i64 (fldL zs).type, .int .i64 (fldL zs).seq, .int .i64 (fldL zs).time, .int .i64 (fldL zs).source] 23 (0, 0))) ∧ Hid (wx.heap[w.heap.size]? = some (.cells #[.int .i64 0, .int .i64 0, .int .i64 0, .int .i64 0, .int .i64 0, .int .i64 0, .int .i64 0, .int .i64 0, .int .i64 0, .int .i64 0, .int .i64 0, .int .i64 0, .int .i64 0, .int .i64 0, .int .i64 0] 23 (0, 0))) ∧ Hid (Below w.heap.size w wx) ∧ w.heap.size + 1 < wx.heap.size)
      case first =>
        cases hk : rtpB zs with
        | true =>
          have h40 : 40 ≤ n := by
            unfold rtpB at hk
            rw [HL.out] at hk
            simp only [Bool.and_eq_true, decide_eq_true_eq] at hk
            exact hk.1
          have e : fldL zs = fldR zs := by unfold fldL; rw [if_pos hk]
          have eN : headN (fldR zs) = 40 := by unfold headN fldR; simp
          replace e := Lib.hid e
          replace eN := Lib.hid eN
          have E := Lib.hid HF.out
          have q29 : (29 : Int) < (n : Int) := by omega
          have u29 := (HS.out _ hb1.out).u8 29
          have H40 := Lib.hid h40
          have C29 := Lib.hid (fun W hb => (HS.out W hb).at (i := 29) (by omega))
          have K2 := Lib.hid (blk_set K1.out 0 (.int .i64 2))
          have Z2 := Lib.hid (blk_set_ne Z1.out (show w.heap.size ≠ w.heap.size + 1 by omega) 0 (.int .i64 2))
          have hb2 := Lib.hid (hb1.out.setCell (p := ⟨w.heap.size + 1, 0, none⟩) (Nat.le_succ _) (.int .i64 2))
          have hc1 := cells_of K1.out
          have hf1 := frozen_of K1.out
          clear h40
          replace hk := Lib.hid hk
          go_upto_region 7 with fail
          generalize w1.setCell ⟨w.heap.size + 1, 0, none⟩ (.int .i64 2) = w2 at K2 Z2 hb2 ⊢
          simp only [List.setIfInBounds_toArray, List.set_cons_zero] at K2
          clear hc1 hf1
          have c29 := C29.out w2 hb2.out
          have hc2 := cells_of K2.out
          have hf2 := frozen_of K2.out
          generalize zs.getD 29 0 = x29 at c29 u29 E
          have e29 := u8_low7 x29 u29.1 u29.2
          have e30 : IntKind.i64.wrap (x29 / 128) = x29 / 128 := IntWalk.i64_in _ ⟨by omega, by omega⟩
          have e31 : IntKind.i64.wrap (x29 % 128) = x29 % 128 := IntWalk.i64_in _ ⟨by omega, by omega⟩
          go_region
          have K3 : (((w2.setCell ⟨w.heap.size + 1, 10, none⟩ (.int .i64 (x29 / 128))).setCell ⟨w.heap.size + 1, 11, none⟩ (.int .i64 (x29 % 128))).drew).heap[w.heap.size + 1]? = some (.cells #[.int .i64 2, .int .i64 x1, .int .i64 y4, .int .i64 (x6 / 64 % 2), .int .i64 x8, .int .i64 y12, .int .i64 y16, .int .i64 y20, .int .i64 y22, .int .i64 y26, .int .i64 (x29 / 128), .int .i64 (x29 % 128), .int .i64 0, .int .i64 0, .int .i64 0] 23 (0, 0)) := by
            have q := blk_set (blk_set K2.out 10 (.int .i64 (x29 / 128))) 11 (.int .i64 (x29 % 128))
            simp only [List.setIfInBounds_toArray, List.set_cons_succ, List.set_cons_zero] at q
            exact q
          have Z3 : (((w2.setCell ⟨w.heap.size + 1, 10, none⟩ (.int .i64 (x29 / 128))).setCell ⟨w.heap.size + 1, 11, none⟩ (.int .i64 (x29 % 128))).drew).heap[w.heap.size]? = some (.cells #[.int .i64 0, .int .i64 0, .int .i64 0, .int .i64 0, .int .i64 0, .int .i64 0, .int .i64 0, .int .i64 0, .int .i64 0, .int .i64 0, .int .i64 0, .int .i64 0, .int .i64 0, .int .i64 0, .int .i64 0] 23 (0, 0)) := blk_set_ne (blk_set_ne Z2.out (show w.heap.size ≠ w.heap.size + 1 by omega) 10 _) (show w.heap.size ≠ w.heap.size + 1 by omega) 11 _
          have hb3 : Below w.heap.size w ((w2.setCell ⟨w.heap.size + 1, 10, none⟩ (.int .i64 (x29 / 128))).setCell ⟨w.heap.size + 1, 11, none⟩ (.int .i64 (x29 % 128))).drew := ((hb2.out.setCell (p := ⟨w.heap.size + 1, 10, none⟩) (Nat.le_succ _) _).setCell (p := ⟨w.heap.size + 1, 11, none⟩) (Nat.le_succ _) _).drew
          generalize ((w2.setCell ⟨w.heap.size + 1, 10, none⟩ (.int .i64 (x29 / 128))).setCell ⟨w.heap.size + 1, 11, none⟩ (.int .i64 (x29 % 128))).drew = w3 at K3 Z3 hb3 ⊢
          clear hc2 hf2 c29 e29 e30 e31 K2 Z2 hb2
          have S3 := Lib.hid (HS.out w3 hb3)
          have hc3 := cells_of K3
          have hf3 := frozen_of K3
          have HK3 := Lib.hid K3
          have HZ3 := Lib.hid Z3
          have HB3 := Lib.hid hb3
          clear K3 Z3 hb3
          go_wp2_with (first
            | (go_at_call 46; ((with_reducible refine (G30.out _ ?_ H40.out).mono ?_); exact S3.out; rintro e w' ⟨rfl, rfl⟩))
            | (go_at_call 46; ((with_reducible refine (G32.out _ ?_ H40.out).mono ?_); exact S3.out; rintro e w' ⟨rfl, rfl⟩))
            | (go_at_call 46; ((with_reducible refine (G36.out _ ?_ H40.out).mono ?_); exact S3.out; rintro e w' ⟨rfl, rfl⟩))
            | fail)
          go_meet
          case rel =>
            have q := blk_set (blk_set (blk_set HK3.out 12 (.int .i64 (getB zs 30 2))) 13 (.int .i64 (getB zs 32 4))) 14 (.int .i64 (getB zs 36 4))
            simp only [List.setIfInBounds_toArray, List.set_cons_succ, List.set_cons_zero] at q
            refine ⟨by rw [e.out, eN.out]; rfl, Lib.hid (by rw [e.out, E.out]; exact q), Lib.hid (blk_set_ne (blk_set_ne (blk_set_ne HZ3.out (by omega) 12 _) (by omega) 13 _) (by omega) 14 _), Lib.hid (((HB3.out.setCell (Nat.le_succ _) _).setCell (Nat.le_succ _) _).setCell (Nat.le_succ _) _), ?_⟩
            have hq := lt_of_block q
            exact hq
        | false =>
          have e : fldL zs = fldU zs := by unfold fldL; rw [if_neg (by rw [hk]; simp)]
          have eN : headN (fldU zs) = 28 := by unfold headN fldU; simp
          replace e := Lib.hid e
          replace eN := Lib.hid eN
          go_wp2
          go_meet
          case rel => exact ⟨by rw [e.out, eN.out]; rfl, Lib.hid (by rw [e.out, HU.out]; exact K1.out), Z1, hb1, hz1⟩
      case rest =>
        obtain ⟨rfl, K3, Z3, B3, hz3⟩ := hcut
        clear HF HU G30 G32 G36
        have HR1 : Hid (parB zs = true → ∀ e w', (∃ o cp, e = .returned (.tuple #[(.agg #[.int .i64 (fldL zs).kind, .int .i64 (fldL zs).tos, .int .i64 (fldL zs).id, .int .i64 (fldL zs).fixed, .int .i64 (fldL zs).ttl, .int .i64 (fldL zs).frm, .int .i64 (fldL zs).to, .int .i64 (fldL zs).fromPort, .int .i64 (fldL zs).toPort, .int .i64 (fldL zs).check, .int .i64 (fldL zs).marker, .int .i64 (fldL zs).type, .int .i64 (fldL zs).seq, .int .i64 (fldL zs).time, .int .i64 (fldL zs).source]), .slice o (n - headN (fldL zs)) cp, .int .i64 0]) ∧ Mk .u8 5 (w.heap.size + 1) w' (.slice o (n - headN (fldL zs)) cp) (n - headN (fldL zs)) (zs.drop (headN (fldL zs))) ∧ (o = none → cp = 0) ∧ Below w.heap.size w w') → RPar w n zs e w') := Lib.hid (fun hp e w' q => by unfold RPar; rw [if_pos hp]; exact q)
        have HR2 : Hid (parB zs = false → ∀ e w', (e = .returned (.tuple #[.agg #[.int .i64 0, .int .i64 0, .int .i64 0, .int .i64 0, .int .i64 0, .int .i64 0, .int .i64 0, .int .i64 0, .int .i64 0, .int .i64 0, .int .i64 0, .int .i64 0, .int .i64 0, .int .i64 0, .int .i64 0], .slice none 0 0, .int .i64 4]) ∧ Below w.heap.size w w') → RPar w n zs e w') := Lib.hid (fun hp e w' q => by unfold RPar; rw [if_neg (by rw [hp]; simp)]; exact q)
        have HPd : parB zs = decide (zs = pktL (fldL zs) (zs.drop (headN (fldL zs)))) := by
          unfold parB
          rw [Bool.eq_iff_iff]; simp only [decide_eq_true_eq]
          exact eq_comm
        have SH := Lib.hid (HS.out wc B3.out)
        generalize fldL zs = h at K3 HR1 HR2 HPd HV hHn ⊢
        have hcase := headN_cases h
        generalize hHd : headN h = H at HR1 HR2 HPd hHn hcase ⊢
        have HHd := Lib.hid hHd
        replace HPd := Lib.hid HPd
        have hH1 : (H : Int) ≤ (cap : Int) := by omega
        have hH2 : (H : Int) ≤ (n : Int) := by omega
        have hH3 : (0 : Int) ≤ (H : Int) := by omega
        have HB : Hid (∀ W o c, Sl .u8 W o (n - H) (zs.drop H) → (o = none → c = 0) → Calls Try.prog 10 #[(.agg #[.int .i64 h.kind, .int .i64 h.tos, .int .i64 h.id, .int .i64 h.fixed, .int .i64 h.ttl, .int .i64 h.frm, .int .i64 h.to, .int .i64 h.fromPort, .int .i64 h.toPort, .int .i64 h.check, .int .i64 h.marker, .int .i64 h.type, .int .i64 h.seq, .int .i64 h.time, .int .i64 h.source]), .slice o (n - H) c] W fun e w' => ∃ g cp, e = .returned (.tuple #[.slice (some ⟨g, 0, none⟩) n cp, .int .i64 0]) ∧ Mk .u8 5 (W.heap.size + 1) w' (.slice (some ⟨g, 0, none⟩) n cp) n (pktL h (zs.drop H)) ∧ Below W.heap.size W w') := Lib.hid (fun W o c hs hn => by
          have q := rBuild_ok h o (n - H) c (zs.drop H) W HV.out hs hn (by omega)
          rw [hHd, show H + (n - H) = n by omega] at q
          exact q)
        clear hHd hcase HV
        obtain ⟨PA, hif⟩ : ∃ PA, (if cap = H then (some ⟨g, off, none⟩ : Option Addr) else some ⟨g, off + H, none⟩) = PA := ⟨_, rfl⟩
        have hPA : ∃ b o, PA = some ⟨b, o, none⟩ := by
          rw [← hif]
          split
          · exact ⟨_, _, rfl⟩
          · exact ⟨_, _, rfl⟩
        have P3 : Sl .u8 wc PA (n - H) (zs.drop H) := by
          rw [← hif]
          split
          · exact Sl.tail_end SH.out (by omega)
          · exact Sl.tail SH.out (by omega)
        have PN : Hid (PA = none → cap - H = 0) := Lib.hid (fun q => by obtain ⟨b, o, q2⟩ := hPA; rw [q2] at q; cases q)
        replace P3 := Lib.hid P3
        replace hPA := Lib.hid hPA
        have hS3 := cells_conj h K3.out
        have hS3d := cells_conj h (W := wc.drew) K3.out
        · have hp := HP0.out
          have HD : Hid (decide (zs = pktL h (zs.drop H)) = true) := Lib.hid (HPd.out ▸ hp)
          have HR := Lib.hid (HR1.out hp)
          clear HR1 HR2 HPd hp
          go_upto_region 9 with fail
          go_region_held3 (fun w' => w'.cell? ⟨w.heap.size + 1, 0, none⟩ = some (.int .i64 h.kind) ∧ w'.cell? ⟨w.heap.size + 1, 1, none⟩ = some (.int .i64 h.tos) ∧ w'.cell? ⟨w.heap.size + 1, 2, none⟩ = some (.int .i64 h.id) ∧ w'.cell? ⟨w.heap.size + 1, 3, none⟩ = some (.int .i64 h.fixed) ∧ w'.cell? ⟨w.heap.size + 1, 4, none⟩ = some (.int .i64 h.ttl) ∧ w'.cell? ⟨w.heap.size + 1, 5, none⟩ = some (.int .i64 h.frm) ∧ w'.cell? ⟨w.heap.size + 1, 6, none⟩ = some (.int .i64 h.to) ∧ w'.cell? ⟨w.heap.size + 1, 7, none⟩ = some (.int .i64 h.fromPort) ∧ w'.cell? ⟨w.heap.size + 1, 8, none⟩ = some (.int .i64 h.toPort) ∧ w'.cell? ⟨w.heap.size + 1, 9, none⟩ = some (.int .i64 h.check) ∧ w'.cell? ⟨w.heap.size + 1, 10, none⟩ = some (.int .i64 h.marker) ∧ w'.cell? ⟨w.heap.size + 1, 11, none⟩ = some (.int .i64 h.type) ∧ w'.cell? ⟨w.heap.size + 1, 12, none⟩ = some (.int .i64 h.seq) ∧ w'.cell? ⟨w.heap.size + 1, 13, none⟩ = some (.int .i64 h.time) ∧ w'.cell? ⟨w.heap.size + 1, 14, none⟩ = some (.int .i64 h.source)) (first | with_reducible exact hS3 | with_reducible exact hS3d | with_reducible exact hS5 | fail)
            (first
              | (go_at_call 10; ((with_reducible refine (HB.out _ _ _ P3.out.drew PN.out).mono ?_); rintro e w5 ⟨g5, c5, rfl, hm, hb⟩; have M5 := Lib.hid hm.sl; have B5 := Lib.hid (B3.out.drew.trans (hb.mono B3.out.drew.size)); have K5 := Lib.hid ((hb.block (w.heap.size + 1) hz3).trans K3.out); have Z5 := Lib.hid ((hb.block w.heap.size (by first | omega | (simp; omega))).trans Z3.out); have S5 := Lib.hid (SH.out.drew.keep hb); have BB5 := Lib.hid hb; have hS5 := cells_conj h K5.out; clear hm hb))
              | fail)
          go_upto_region 12 with (first
            | (go_at_call 16; refine (same_any (some ⟨g, off, none⟩) (some ⟨g5, 0, none⟩) n cap n c5 zs _ w5 S5.out M5.out).mono ?_; rw [HD.out]; rintro e w' ⟨rfl, rfl⟩)
            | fail)
          have P5 := Lib.hid (P3.out.drew.keep BB5.out)
          have hz5 := lt_of_block K5.out
          have hPA5 := hPA.out
          have hS5d := cells_conj h (W := w5.drew) K5.out
          clear hS3 hS3d
          go_region_held3 (fun w' => w'.cell? ⟨w.heap.size + 1, 0, none⟩ = some (.int .i64 h.kind) ∧ w'.cell? ⟨w.heap.size + 1, 1, none⟩ = some (.int .i64 h.tos) ∧ w'.cell? ⟨w.heap.size + 1, 2, none⟩ = some (.int .i64 h.id) ∧ w'.cell? ⟨w.heap.size + 1, 3, none⟩ = some (.int .i64 h.fixed) ∧ w'.cell? ⟨w.heap.size + 1, 4, none⟩ = some (.int .i64 h.ttl) ∧ w'.cell? ⟨w.heap.size + 1, 5, none⟩ = some (.int .i64 h.frm) ∧ w'.cell? ⟨w.heap.size + 1, 6, none⟩ = some (.int .i64 h.to) ∧ w'.cell? ⟨w.heap.size + 1, 7, none⟩ = some (.int .i64 h.fromPort) ∧ w'.cell? ⟨w.heap.size + 1, 8, none⟩ = some (.int .i64 h.toPort) ∧ w'.cell? ⟨w.heap.size + 1, 9, none⟩ = some (.int .i64 h.check) ∧ w'.cell? ⟨w.heap.size + 1, 10, none⟩ = some (.int .i64 h.marker) ∧ w'.cell? ⟨w.heap.size + 1, 11, none⟩ = some (.int .i64 h.type) ∧ w'.cell? ⟨w.heap.size + 1, 12, none⟩ = some (.int .i64 h.seq) ∧ w'.cell? ⟨w.heap.size + 1, 13, none⟩ = some (.int .i64 h.time) ∧ w'.cell? ⟨w.heap.size + 1, 14, none⟩ = some (.int .i64 h.source)) (first | with_reducible exact hS5 | with_reducible exact hS5d | with_reducible exact hS6 | exact cells_far h (by (repeat (with_reducible refine grown_self ?_ _ _)); with_reducible exact World.grownBy.refl _ _) (by simp) K6.out)
            (first
              | ((with_reducible refine step_slice_mk rfl (.const (.slice none 0 0)) (.tmp 96) 24 rfl .u8 5 (w.heap.size + 1) 1 Try.underlying24 info_u8 (.slice none 0 0) 0 [] rfl (Mk.nil .u8 5 _ _) PA (n - H) (cap - H) (zs.drop H) hPA5 rfl P5.out.drew (by omega) (by omega) (by first | omega | (simp; omega)) ?_); intro o6 c6 w6 hm hg hf hn; rw [List.nil_append] at hm; simp only [Nat.zero_add] at hm; have M6 := Lib.hid hm; have N6 := Lib.hid hn; have K6 := Lib.hid ((hg.block (w.heap.size + 1) (by simp; omega) (by simp [Value.ownBlock])).trans K5.out); have Z6 := Lib.hid ((hg.block w.heap.size (by simp; omega) (by simp [Value.ownBlock])).trans Z5.out); have B6 := Lib.hid (B5.out.drew.trans (Below.of_row hg (fun g h => by cases h) (by simp; omega))); have hS6 := cells_conj h K6.out; have hy6 := cells_of Z6.out; have hy6f := frozen_of Z6.out; clear hm hg hf hn)
              | fail)
          go_wp2
          have ZZ := Z6.out
          have hbl := B6.out
          have MM := M6.out
          have NN := N6.out
          clear hS5 hS5d hS6 hy6 hy6f HB S5 M5 K5 SH P3 P5 PN hPA hPA5 HD Z5 B5 BB5 K3 Z3 B3 Z6 B6 M6 N6 K6
          refine at_put (Q := bodyPost _ _ _ _ _) h ⟨0, 0, 0, 0, 0, 0, 0, 0, 0, 0, 0, 0, 0, 0, 0⟩ w6 w.heap.size ZZ ?_
          intro w7 K7 G7
          have hc7 := cells_of K7
          have hb7 := hbl.trans (Below.of_row G7 (fun g h => by cases h; exact Nat.le_refl _) hbl.size)
          refine bodyPost_ret (v := .tuple #[(.agg #[.int .i64 h.kind, .int .i64 h.tos, .int .i64 h.id, .int .i64 h.fixed, .int .i64 h.ttl, .int .i64 h.frm, .int .i64 h.to, .int .i64 h.fromPort, .int .i64 h.toPort, .int .i64 h.check, .int .i64 h.marker, .int .i64 h.type, .int .i64 h.seq, .int .i64 h.time, .int .i64 h.source]), .slice o6 (n - H) c6, .int .i64 0]) (by simp [results, Try.results29, go_sem, hc7]) rfl ?_
          exact HR.out _ _ ⟨o6, c6, rfl, MM.keepRow G7 (.inr fun e => by have := (MM.own_ge _ e).1; omega), fun q => (NN q).2, hb7⟩
end Go.Proofs.Ytfeeifemfhhijaa
