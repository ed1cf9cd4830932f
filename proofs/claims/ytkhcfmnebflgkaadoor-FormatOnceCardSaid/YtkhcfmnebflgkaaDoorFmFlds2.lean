/-
  The program's fields of a format (layer 8), for each format and kind. (gen_flds2.py writes this text.)
-/
import Derived.Test.YtkhcfmnebflgkaaDoorFmFlds
import Derived.Deep.DeepCutAuto
namespace Go.Proofs.YtkhcfmnebflgkaaDoor
open Go Go.RowKit

structure W5 (W : World) (g : Nat) (a b c d e : Int) : Prop where
  c0 : W.cell? ⟨g, 0, none⟩ = some (.int .i64 a)
  c1 : W.cell? ⟨g, 1, none⟩ = some (.int .i64 b)
  c2 : W.cell? ⟨g, 2, none⟩ = some (.int .i64 c)
  c3 : W.cell? ⟨g, 3, none⟩ = some (.int .i64 d)
  c4 : W.cell? ⟨g, 4, none⟩ = some (.int .i64 e)
theorem W5.keep {w w' : World} {g : Nat} {a b c d e : Int} (h : W5 w g a b c d e) (hb : Below w.heap.size w w') : W5 w' g a b c d e := by
  have hl : g < w.heap.size := World.block_lt_of_cell? w _ h.c0
  exact ⟨(hb.cell (p := ⟨g, 0, none⟩) hl).trans h.c0, (hb.cell (p := ⟨g, 1, none⟩) hl).trans h.c1, (hb.cell (p := ⟨g, 2, none⟩) hl).trans h.c2, (hb.cell (p := ⟨g, 3, none⟩) hl).trans h.c3, (hb.cell (p := ⟨g, 4, none⟩) hl).trans h.c4⟩
theorem W5.keepB {w w' : World} {B g : Nat} {a b c d e : Int} (h : W5 w g a b c d e) (hb : w.grownBy w' (some B)) (hg : g ≠ B) : W5 w' g a b c d e :=
  ⟨hb.cell h.c0 (by simpa using hg), hb.cell h.c1 (by simpa using hg), hb.cell h.c2 (by simpa using hg), hb.cell h.c3 (by simpa using hg), hb.cell h.c4 (by simpa using hg)⟩

set_option maxRecDepth 100000 in
set_option maxHeartbeats 6400000 in
theorem flds_1_1 (G : Nat) (w : World) (hf : w.cell? ⟨G, 1, none⟩ = some (.int .i64 1)) (hk : w.cell? ⟨G, 7, none⟩ = some (.int .i64 1)) (hs : w.cell? ⟨0, 2, none⟩ = some (.int .i64 1)) :
    Calls Tryd.prog 28 #[.pointer (some ⟨G, 0, none⟩)] w (FldR G [(1, 26), (4, 2), (3, 24)] w) := by
  have hlt : G < w.heap.size := World.block_lt_of_cell? w _ hk
  have hlt0 : 0 < w.heap.size := World.block_lt_of_cell? w _ hs
  have HF0 := Lib.hid hf
  have HK0 := Lib.hid hk
  have HS0 := Lib.hid hs
  have CW : Hid (∀ W, Calls Tryd.prog 58 #[.int .i64 1, .int .i64 1] W fun e w' => e = .returned (.agg #[.int .i64 4, .int .i64 0, .int .i64 0, .int .i64 0, .int .i64 3]) ∧ Below W.heap.size W w') := Lib.hid (fun W => widthsOf_any 1 1 W)
  have hne2 : ¬ w.heap.size = G := by omega
  go_enter Tryd.func28, Tryd.ntmps28
  go_upto_region 1 with fail
  go_cut [3] (fun s3 wc => ∃ gw wx, s3 = .pointer (some ⟨gw, 0, none⟩) ∧ wx = wc ∧ W5 wx gw 4 0 0 0 3 ∧ w.heap.size ≤ gw ∧ Below w.heap.size w wx)
  case first =>
    go_region_held3 (fun w' => w'.cell? ⟨G, 1, none⟩ = some (.int .i64 1) ∧ w'.cell? ⟨G, 7, none⟩ = some (.int .i64 1)) (first | with_reducible exact ⟨hf1, hk1⟩ | (simp [World.cell?_setCell_far, hne2, hf1, hk1]; done) | go_keep) (first | (go_at_call 58; ((with_reducible refine (CW.out _).mono ?_); rintro e w1 ⟨rfl, hb⟩; have HB := Lib.hid hb; have hf1 : w1.cell? ⟨G, 1, none⟩ = some (.int .i64 1) := (hb.cell (p := ⟨G, 1, none⟩) (by simp; omega)).trans (by go_keep); have hk1 : w1.cell? ⟨G, 7, none⟩ = some (.int .i64 1) := (hb.cell (p := ⟨G, 7, none⟩) (by simp; omega)).trans (by go_keep); have hcB := fun b o h => hb.cell (p := ⟨b, o, none⟩) h; have hfB := fun b o h => hb.frozen (p := ⟨b, o, none⟩) h; have hz := hb.size; simp at hz; clear hb)) | fail)
    all_goals go_wp2_with fail
    all_goals go_meet
    · have B1 := (Below.refl w.heap.size w).drew.trans HB.out
      have K := heap_alloc_new w1 (.cells #[.int .i64 4, .int .i64 0, .int .i64 0, .int .i64 0, .int .i64 3] 92)
      exact ⟨_, _, rfl, rfl, ⟨cells_of K 0, cells_of K 1, cells_of K 2, cells_of K 3, cells_of K 4⟩, B1.size, B1.alloc B1.size _⟩
    · have B1 := ((Below.refl w.heap.size w).alloc (Nat.le_refl _) (.cells #[.int .i64 0, .int .i64 0, .int .i64 0, .int .i64 0, .int .i64 0] 92)).drew.trans (HB.out.mono (by simp))
      have K := (HB.out.block w.heap.size (by simp)).trans (heap_alloc_new w (.cells #[.int .i64 0, .int .i64 0, .int .i64 0, .int .i64 0, .int .i64 0] 92))
      have K5 := (blk_set (blk_set (blk_set (blk_set (blk_set K 0 (.int .i64 4)) 1 (.int .i64 0)) 2 (.int .i64 0)) 3 (.int .i64 0)) 4 (.int .i64 3))
      simp only [List.setIfInBounds_toArray, List.set_cons_succ, List.set_cons_zero] at K5
      exact ⟨_, _, rfl, rfl, ⟨cells_of K5 0, cells_of K5 1, cells_of K5 2, cells_of K5 3, cells_of K5 4⟩, Nat.le_refl _, Below.setCell (Below.setCell (Below.setCell (Below.setCell (Below.setCell B1 (Nat.le_refl _) _) (Nat.le_refl _) _) (Nat.le_refl _) _) (Nat.le_refl _) _) (Nat.le_refl _) _⟩
  case rest =>
    obtain ⟨gw, wx, rfl, rfl, hw5, hgw, hb0⟩ := hcut
    clear hf hk hs
    have hf := (hb0.cell (p := ⟨G, 1, none⟩) hlt).trans HF0.out
    have hs := (hb0.cell (p := ⟨0, 2, none⟩) hlt0).trans HS0.out
    have HM := FR.lit G w.heap.size wx [(1, 26)] 1 hb0.size rfl (by omega)
    have HB := hb0.alloc hb0.size (.cells #[.int .i64 1, .pointer (some ⟨G, 26, none⟩)] 65)
    have HW := hw5.keep ((Below.refl wx.heap.size wx).alloc (Nat.le_refl _) (.cells #[.int .i64 1, .pointer (some ⟨G, 26, none⟩)] 65)).drew
    simp only [fCells] at HM
    have HM := Lib.hid HM.drew
    have HB := Lib.hid HB.drew
    have HW := Lib.hid HW
    have HW0 := Lib.hid hw5
    clear hb0 hw5
    go_wp2_with fail
    go_region_held3 (fun w' => w'.cell? ⟨G, 1, none⟩ = some (.int .i64 1) ∧ w'.cell? ⟨0, 2, none⟩ = some (.int .i64 1)) (go_keep) (fail)
    have hlw : gw < ((wx.alloc (.cells #[.int .i64 1, .pointer (some ⟨G, 26, none⟩)] 65)).drew).heap.size := World.block_lt_of_cell? _ _ HW.out.c0
    generalize hbl : wx.heap.size = BL at HM ⊢
    have hbl2 : gw < BL := by have h9 : gw < wx.heap.size := World.block_lt_of_cell? wx _ HW0.out.c0; omega
    clear hf hs
    generalize (wx.alloc (.cells #[.int .i64 1, .pointer (some ⟨G, 26, none⟩)] 65)).drew = W1 at HM HB HW hlw ⊢
    have hf1 := (HB.out.cell (p := ⟨G, 1, none⟩) hlt).trans HF0.out
    have hk1 := (HB.out.cell (p := ⟨G, 7, none⟩) hlt).trans HK0.out
    clear hbl
    have LIT := FR.lit G W1.heap.size W1 [(4, 2), (3, 24)] 2 (Nat.le_refl _) rfl (by omega)
    simp only [fCells] at LIT
    have LIT := Lib.hid LIT.drew
    have w0 := HW.out.c0
    have w1 := HW.out.c1
    have w3 := HW.out.c3
    have w4 := HW.out.c4
    go_wp2_with fail
    go_region_held3 (fun w' => w'.cell? ⟨gw, 0, none⟩ = some (.int .i64 4) ∧ w'.cell? ⟨gw, 4, none⟩ = some (.int .i64 3)) (first | with_reducible exact ⟨hq.c0, hq.c4⟩ | go_keep) (first | ((with_reducible refine step_append_fr rfl (.tmp 37) (.tmp 52) rfl G w.heap.size W1.heap.size _ 1 [(1, 26)] rfl ((HM.out.alloc _).drew) W1.heap.size 2 2 [(4, 2), (3, 24)] LIT.out rfl (by omega) (by omega) (by simp; exact Nat.le_succ_of_le HB.out.size) ?_); intro g2 c2 w2 hf hg _; have HF := Lib.hid hf; have HB2 := Lib.hid (fr_below ((HM.out.alloc _).drew) ((HB.out.alloc HB.out.size _).drew) (by simp; exact Nat.le_succ_of_le HB.out.size) hg); have hq := (HW.out.keep ((Below.refl W1.heap.size W1).alloc (Nat.le_refl _) (.cells #[.int .i64 4, .pointer (some ⟨G, 2, none⟩), .int .i64 3, .pointer (some ⟨G, 24, none⟩)] 65)).drew).keepB (B := BL) hg (by omega); clear hf hg) | fail)
    go_wp2_with fail
    go_ret
    exact ⟨g2, c2, rfl, HF.out, HB2.out⟩

set_option maxRecDepth 100000 in
set_option maxHeartbeats 6400000 in
theorem flds_1_2 (G : Nat) (w : World) (hf : w.cell? ⟨G, 1, none⟩ = some (.int .i64 1)) (hk : w.cell? ⟨G, 7, none⟩ = some (.int .i64 2)) (hs : w.cell? ⟨0, 2, none⟩ = some (.int .i64 1)) :
    Calls Tryd.prog 28 #[.pointer (some ⟨G, 0, none⟩)] w (FldR G [(1, 26), (4, 2), (3, 24)] w) := by
  have hlt : G < w.heap.size := World.block_lt_of_cell? w _ hk
  have hlt0 : 0 < w.heap.size := World.block_lt_of_cell? w _ hs
  have HF0 := Lib.hid hf
  have HK0 := Lib.hid hk
  have HS0 := Lib.hid hs
  have CW : Hid (∀ W, Calls Tryd.prog 58 #[.int .i64 1, .int .i64 2] W fun e w' => e = .returned (.agg #[.int .i64 4, .int .i64 0, .int .i64 0, .int .i64 0, .int .i64 3]) ∧ Below W.heap.size W w') := Lib.hid (fun W => widthsOf_any 1 2 W)
  have hne2 : ¬ w.heap.size = G := by omega
  go_enter Tryd.func28, Tryd.ntmps28
  go_upto_region 1 with fail
  go_cut [3] (fun s3 wc => ∃ gw wx, s3 = .pointer (some ⟨gw, 0, none⟩) ∧ wx = wc ∧ W5 wx gw 4 0 0 0 3 ∧ w.heap.size ≤ gw ∧ Below w.heap.size w wx)
  case first =>
    go_region_held3 (fun w' => w'.cell? ⟨G, 1, none⟩ = some (.int .i64 1) ∧ w'.cell? ⟨G, 7, none⟩ = some (.int .i64 2)) (first | with_reducible exact ⟨hf1, hk1⟩ | (simp [World.cell?_setCell_far, hne2, hf1, hk1]; done) | go_keep) (first | (go_at_call 58; ((with_reducible refine (CW.out _).mono ?_); rintro e w1 ⟨rfl, hb⟩; have HB := Lib.hid hb; have hf1 : w1.cell? ⟨G, 1, none⟩ = some (.int .i64 1) := (hb.cell (p := ⟨G, 1, none⟩) (by simp; omega)).trans (by go_keep); have hk1 : w1.cell? ⟨G, 7, none⟩ = some (.int .i64 2) := (hb.cell (p := ⟨G, 7, none⟩) (by simp; omega)).trans (by go_keep); have hcB := fun b o h => hb.cell (p := ⟨b, o, none⟩) h; have hfB := fun b o h => hb.frozen (p := ⟨b, o, none⟩) h; have hz := hb.size; simp at hz; clear hb)) | fail)
    all_goals go_wp2_with fail
    all_goals go_meet
    · have B1 := (Below.refl w.heap.size w).drew.trans HB.out
      have K := heap_alloc_new w1 (.cells #[.int .i64 4, .int .i64 0, .int .i64 0, .int .i64 0, .int .i64 3] 92)
      exact ⟨_, _, rfl, rfl, ⟨cells_of K 0, cells_of K 1, cells_of K 2, cells_of K 3, cells_of K 4⟩, B1.size, B1.alloc B1.size _⟩
    · have B1 := ((Below.refl w.heap.size w).alloc (Nat.le_refl _) (.cells #[.int .i64 0, .int .i64 0, .int .i64 0, .int .i64 0, .int .i64 0] 92)).drew.trans (HB.out.mono (by simp))
      have K := (HB.out.block w.heap.size (by simp)).trans (heap_alloc_new w (.cells #[.int .i64 0, .int .i64 0, .int .i64 0, .int .i64 0, .int .i64 0] 92))
      have K5 := (blk_set (blk_set (blk_set (blk_set (blk_set K 0 (.int .i64 4)) 1 (.int .i64 0)) 2 (.int .i64 0)) 3 (.int .i64 0)) 4 (.int .i64 3))
      simp only [List.setIfInBounds_toArray, List.set_cons_succ, List.set_cons_zero] at K5
      exact ⟨_, _, rfl, rfl, ⟨cells_of K5 0, cells_of K5 1, cells_of K5 2, cells_of K5 3, cells_of K5 4⟩, Nat.le_refl _, Below.setCell (Below.setCell (Below.setCell (Below.setCell (Below.setCell B1 (Nat.le_refl _) _) (Nat.le_refl _) _) (Nat.le_refl _) _) (Nat.le_refl _) _) (Nat.le_refl _) _⟩
  case rest =>
    obtain ⟨gw, wx, rfl, rfl, hw5, hgw, hb0⟩ := hcut
    clear hf hk hs
    have hf := (hb0.cell (p := ⟨G, 1, none⟩) hlt).trans HF0.out
    have hs := (hb0.cell (p := ⟨0, 2, none⟩) hlt0).trans HS0.out
    have HM := FR.lit G w.heap.size wx [(1, 26)] 1 hb0.size rfl (by omega)
    have HB := hb0.alloc hb0.size (.cells #[.int .i64 1, .pointer (some ⟨G, 26, none⟩)] 65)
    have HW := hw5.keep ((Below.refl wx.heap.size wx).alloc (Nat.le_refl _) (.cells #[.int .i64 1, .pointer (some ⟨G, 26, none⟩)] 65)).drew
    simp only [fCells] at HM
    have HM := Lib.hid HM.drew
    have HB := Lib.hid HB.drew
    have HW := Lib.hid HW
    have HW0 := Lib.hid hw5
    clear hb0 hw5
    go_wp2_with fail
    go_region_held3 (fun w' => w'.cell? ⟨G, 1, none⟩ = some (.int .i64 1) ∧ w'.cell? ⟨0, 2, none⟩ = some (.int .i64 1)) (go_keep) (fail)
    have hlw : gw < ((wx.alloc (.cells #[.int .i64 1, .pointer (some ⟨G, 26, none⟩)] 65)).drew).heap.size := World.block_lt_of_cell? _ _ HW.out.c0
    generalize hbl : wx.heap.size = BL at HM ⊢
    have hbl2 : gw < BL := by have h9 : gw < wx.heap.size := World.block_lt_of_cell? wx _ HW0.out.c0; omega
    clear hf hs
    generalize (wx.alloc (.cells #[.int .i64 1, .pointer (some ⟨G, 26, none⟩)] 65)).drew = W1 at HM HB HW hlw ⊢
    have hf1 := (HB.out.cell (p := ⟨G, 1, none⟩) hlt).trans HF0.out
    have hk1 := (HB.out.cell (p := ⟨G, 7, none⟩) hlt).trans HK0.out
    clear hbl
    have LIT := FR.lit G W1.heap.size W1 [(4, 2), (3, 24)] 2 (Nat.le_refl _) rfl (by omega)
    simp only [fCells] at LIT
    have LIT := Lib.hid LIT.drew
    have w0 := HW.out.c0
    have w1 := HW.out.c1
    have w3 := HW.out.c3
    have w4 := HW.out.c4
    go_wp2_with fail
    go_region_held3 (fun w' => w'.cell? ⟨gw, 0, none⟩ = some (.int .i64 4) ∧ w'.cell? ⟨gw, 4, none⟩ = some (.int .i64 3)) (first | with_reducible exact ⟨hq.c0, hq.c4⟩ | go_keep) (first | ((with_reducible refine step_append_fr rfl (.tmp 37) (.tmp 52) rfl G w.heap.size W1.heap.size _ 1 [(1, 26)] rfl ((HM.out.alloc _).drew) W1.heap.size 2 2 [(4, 2), (3, 24)] LIT.out rfl (by omega) (by omega) (by simp; exact Nat.le_succ_of_le HB.out.size) ?_); intro g2 c2 w2 hf hg _; have HF := Lib.hid hf; have HB2 := Lib.hid (fr_below ((HM.out.alloc _).drew) ((HB.out.alloc HB.out.size _).drew) (by simp; exact Nat.le_succ_of_le HB.out.size) hg); have hq := (HW.out.keep ((Below.refl W1.heap.size W1).alloc (Nat.le_refl _) (.cells #[.int .i64 4, .pointer (some ⟨G, 2, none⟩), .int .i64 3, .pointer (some ⟨G, 24, none⟩)] 65)).drew).keepB (B := BL) hg (by omega); clear hf hg) | fail)
    go_wp2_with fail
    go_ret
    exact ⟨g2, c2, rfl, HF.out, HB2.out⟩

set_option maxRecDepth 100000 in
set_option maxHeartbeats 6400000 in
theorem flds_2_1 (G : Nat) (w : World) (hf : w.cell? ⟨G, 1, none⟩ = some (.int .i64 2)) (hk : w.cell? ⟨G, 7, none⟩ = some (.int .i64 1)) (hs : w.cell? ⟨0, 4, none⟩ = some (.int .i64 2)) :
    Calls Tryd.prog 28 #[.pointer (some ⟨G, 0, none⟩)] w (FldR G [(2, 26), (1, 4), (5, 2), (0, 3), (8, 24)] w) := by
  have hlt : G < w.heap.size := World.block_lt_of_cell? w _ hk
  have hlt0 : 0 < w.heap.size := World.block_lt_of_cell? w _ hs
  have HF0 := Lib.hid hf
  have HK0 := Lib.hid hk
  have HS0 := Lib.hid hs
  have CW : Hid (∀ W, Calls Tryd.prog 58 #[.int .i64 2, .int .i64 1] W fun e w' => e = .returned (.agg #[.int .i64 5, .int .i64 0, .int .i64 0, .int .i64 0, .int .i64 7]) ∧ Below W.heap.size W w') := Lib.hid (fun W => widthsOf_any 2 1 W)
  have hne2 : ¬ w.heap.size = G := by omega
  go_enter Tryd.func28, Tryd.ntmps28
  go_upto_region 1 with fail
  go_cut [3] (fun s3 wc => ∃ gw wx, s3 = .pointer (some ⟨gw, 0, none⟩) ∧ wx = wc ∧ W5 wx gw 5 0 0 0 7 ∧ w.heap.size ≤ gw ∧ Below w.heap.size w wx)
  case first =>
    go_region_held3 (fun w' => w'.cell? ⟨G, 1, none⟩ = some (.int .i64 2) ∧ w'.cell? ⟨G, 7, none⟩ = some (.int .i64 1)) (first | with_reducible exact ⟨hf1, hk1⟩ | (simp [World.cell?_setCell_far, hne2, hf1, hk1]; done) | go_keep) (first | (go_at_call 58; ((with_reducible refine (CW.out _).mono ?_); rintro e w1 ⟨rfl, hb⟩; have HB := Lib.hid hb; have hf1 : w1.cell? ⟨G, 1, none⟩ = some (.int .i64 2) := (hb.cell (p := ⟨G, 1, none⟩) (by simp; omega)).trans (by go_keep); have hk1 : w1.cell? ⟨G, 7, none⟩ = some (.int .i64 1) := (hb.cell (p := ⟨G, 7, none⟩) (by simp; omega)).trans (by go_keep); have hcB := fun b o h => hb.cell (p := ⟨b, o, none⟩) h; have hfB := fun b o h => hb.frozen (p := ⟨b, o, none⟩) h; have hz := hb.size; simp at hz; clear hb)) | fail)
    all_goals go_wp2_with fail
    all_goals go_meet
    · have B1 := (Below.refl w.heap.size w).drew.trans HB.out
      have K := heap_alloc_new w1 (.cells #[.int .i64 5, .int .i64 0, .int .i64 0, .int .i64 0, .int .i64 7] 92)
      exact ⟨_, _, rfl, rfl, ⟨cells_of K 0, cells_of K 1, cells_of K 2, cells_of K 3, cells_of K 4⟩, B1.size, B1.alloc B1.size _⟩
    · have B1 := ((Below.refl w.heap.size w).alloc (Nat.le_refl _) (.cells #[.int .i64 0, .int .i64 0, .int .i64 0, .int .i64 0, .int .i64 0] 92)).drew.trans (HB.out.mono (by simp))
      have K := (HB.out.block w.heap.size (by simp)).trans (heap_alloc_new w (.cells #[.int .i64 0, .int .i64 0, .int .i64 0, .int .i64 0, .int .i64 0] 92))
      have K5 := (blk_set (blk_set (blk_set (blk_set (blk_set K 0 (.int .i64 5)) 1 (.int .i64 0)) 2 (.int .i64 0)) 3 (.int .i64 0)) 4 (.int .i64 7))
      simp only [List.setIfInBounds_toArray, List.set_cons_succ, List.set_cons_zero] at K5
      exact ⟨_, _, rfl, rfl, ⟨cells_of K5 0, cells_of K5 1, cells_of K5 2, cells_of K5 3, cells_of K5 4⟩, Nat.le_refl _, Below.setCell (Below.setCell (Below.setCell (Below.setCell (Below.setCell B1 (Nat.le_refl _) _) (Nat.le_refl _) _) (Nat.le_refl _) _) (Nat.le_refl _) _) (Nat.le_refl _) _⟩
  case rest =>
    obtain ⟨gw, wx, rfl, rfl, hw5, hgw, hb0⟩ := hcut
    clear hf hk hs
    have hf := (hb0.cell (p := ⟨G, 1, none⟩) hlt).trans HF0.out
    have hs := (hb0.cell (p := ⟨0, 4, none⟩) hlt0).trans HS0.out
    have HM := FR.lit G w.heap.size wx [(2, 26)] 1 hb0.size rfl (by omega)
    have HB := hb0.alloc hb0.size (.cells #[.int .i64 2, .pointer (some ⟨G, 26, none⟩)] 65)
    have HW := hw5.keep ((Below.refl wx.heap.size wx).alloc (Nat.le_refl _) (.cells #[.int .i64 2, .pointer (some ⟨G, 26, none⟩)] 65)).drew
    simp only [fCells] at HM
    have HM := Lib.hid HM.drew
    have HB := Lib.hid HB.drew
    have HW := Lib.hid HW
    have HW0 := Lib.hid hw5
    clear hb0 hw5
    go_wp2_with fail
    go_region_held3 (fun w' => w'.cell? ⟨G, 1, none⟩ = some (.int .i64 2) ∧ w'.cell? ⟨0, 4, none⟩ = some (.int .i64 2)) (go_keep) (fail)
    have hlw : gw < ((wx.alloc (.cells #[.int .i64 2, .pointer (some ⟨G, 26, none⟩)] 65)).drew).heap.size := World.block_lt_of_cell? _ _ HW.out.c0
    generalize hbl : wx.heap.size = BL at HM ⊢
    have hbl2 : gw < BL := by have h9 : gw < wx.heap.size := World.block_lt_of_cell? wx _ HW0.out.c0; omega
    clear hf hs
    generalize (wx.alloc (.cells #[.int .i64 2, .pointer (some ⟨G, 26, none⟩)] 65)).drew = W1 at HM HB HW hlw ⊢
    have hf1 := (HB.out.cell (p := ⟨G, 1, none⟩) hlt).trans HF0.out
    have hk1 := (HB.out.cell (p := ⟨G, 7, none⟩) hlt).trans HK0.out
    clear hbl
    have LIT := FR.lit G W1.heap.size W1 [(1, 4), (5, 2), (0, 3)] 3 (Nat.le_refl _) rfl (by omega)
    simp only [fCells] at LIT
    have LIT := Lib.hid LIT.drew
    have w0 := HW.out.c0
    have w1 := HW.out.c1
    have w3 := HW.out.c3
    have w4 := HW.out.c4
    go_wp2_with fail
    go_region_held3 (fun w' => w'.cell? ⟨gw, 0, none⟩ = some (.int .i64 5) ∧ w'.cell? ⟨gw, 1, none⟩ = some (.int .i64 0)) (first | with_reducible exact ⟨hq.c0, hq.c1⟩ | go_keep) (first | ((with_reducible refine step_append_fr rfl (.tmp 56) (.tmp 76) rfl G w.heap.size W1.heap.size _ 1 [(2, 26)] rfl ((HM.out.alloc _).drew) W1.heap.size 3 3 [(1, 4), (5, 2), (0, 3)] LIT.out rfl (by omega) (by omega) (by simp; exact Nat.le_succ_of_le HB.out.size) ?_); intro g2 c2 w2 hf hg _; have HF := Lib.hid hf; have HB2 := Lib.hid (fr_below ((HM.out.alloc _).drew) ((HB.out.alloc HB.out.size _).drew) (by simp; exact Nat.le_succ_of_le HB.out.size) hg); have hq := (HW.out.keep ((Below.refl W1.heap.size W1).alloc (Nat.le_refl _) (.cells #[.int .i64 1, .pointer (some ⟨G, 4, none⟩), .int .i64 5, .pointer (some ⟨G, 2, none⟩), .int .i64 0, .pointer (some ⟨G, 3, none⟩)] 65)).drew).keepB (B := BL) hg (by omega); clear hf hg) | fail)
    have LIT9 := FR.lit G w2.heap.size w2 [(8, 24)] 1 (Nat.le_refl _) rfl (by omega)
    simp only [fCells] at LIT9
    have LIT9 := Lib.hid LIT9
    go_wp2_with (first | (at_builtin; ((with_reducible refine wpList_append_fr rfl (.tmp 128) (.tmp 134) rfl G w.heap.size w2.heap.size _ 4 [(2, 26), (1, 4), (5, 2), (0, 3)] rfl (HF.out.alloc _) w2.heap.size 1 1 [(8, 24)] LIT9.out rfl (by omega) (by omega) (by simp; exact Nat.le_succ_of_le HB2.out.size) ?_); intro g9 c9 w9 hf hg _; have HF9 := Lib.hid hf; have HB9 := Lib.hid (fr_below (HF.out.alloc _) (HB2.out.alloc HB2.out.size _) (by simp; exact Nat.le_succ_of_le HB2.out.size) hg); clear hf hg)) | fail)
    go_ret
    exact ⟨g9, c9, rfl, HF9.out, HB9.out⟩

set_option maxRecDepth 100000 in
set_option maxHeartbeats 6400000 in
theorem flds_2_2 (G : Nat) (w : World) (hf : w.cell? ⟨G, 1, none⟩ = some (.int .i64 2)) (hk : w.cell? ⟨G, 7, none⟩ = some (.int .i64 2)) (hs : w.cell? ⟨0, 4, none⟩ = some (.int .i64 2)) :
    Calls Tryd.prog 28 #[.pointer (some ⟨G, 0, none⟩)] w (FldR G [(2, 26), (1, 4), (5, 2), (16, 3), (8, 24)] w) := by
  have hlt : G < w.heap.size := World.block_lt_of_cell? w _ hk
  have hlt0 : 0 < w.heap.size := World.block_lt_of_cell? w _ hs
  have HF0 := Lib.hid hf
  have HK0 := Lib.hid hk
  have HS0 := Lib.hid hs
  have CW : Hid (∀ W, Calls Tryd.prog 58 #[.int .i64 2, .int .i64 2] W fun e w' => e = .returned (.agg #[.int .i64 5, .int .i64 16, .int .i64 1, .int .i64 0, .int .i64 7]) ∧ Below W.heap.size W w') := Lib.hid (fun W => widthsOf_any 2 2 W)
  have hne2 : ¬ w.heap.size = G := by omega
  go_enter Tryd.func28, Tryd.ntmps28
  go_upto_region 1 with fail
  go_cut [3] (fun s3 wc => ∃ gw wx, s3 = .pointer (some ⟨gw, 0, none⟩) ∧ wx = wc ∧ W5 wx gw 5 16 1 0 7 ∧ w.heap.size ≤ gw ∧ Below w.heap.size w wx)
  case first =>
    go_region_held3 (fun w' => w'.cell? ⟨G, 1, none⟩ = some (.int .i64 2) ∧ w'.cell? ⟨G, 7, none⟩ = some (.int .i64 2)) (first | with_reducible exact ⟨hf1, hk1⟩ | (simp [World.cell?_setCell_far, hne2, hf1, hk1]; done) | go_keep) (first | (go_at_call 58; ((with_reducible refine (CW.out _).mono ?_); rintro e w1 ⟨rfl, hb⟩; have HB := Lib.hid hb; have hf1 : w1.cell? ⟨G, 1, none⟩ = some (.int .i64 2) := (hb.cell (p := ⟨G, 1, none⟩) (by simp; omega)).trans (by go_keep); have hk1 : w1.cell? ⟨G, 7, none⟩ = some (.int .i64 2) := (hb.cell (p := ⟨G, 7, none⟩) (by simp; omega)).trans (by go_keep); have hcB := fun b o h => hb.cell (p := ⟨b, o, none⟩) h; have hfB := fun b o h => hb.frozen (p := ⟨b, o, none⟩) h; have hz := hb.size; simp at hz; clear hb)) | fail)
    all_goals go_wp2_with fail
    all_goals go_meet
    · have B1 := (Below.refl w.heap.size w).drew.trans HB.out
      have K := heap_alloc_new w1 (.cells #[.int .i64 5, .int .i64 16, .int .i64 1, .int .i64 0, .int .i64 7] 92)
      exact ⟨_, _, rfl, rfl, ⟨cells_of K 0, cells_of K 1, cells_of K 2, cells_of K 3, cells_of K 4⟩, B1.size, B1.alloc B1.size _⟩
    · have B1 := ((Below.refl w.heap.size w).alloc (Nat.le_refl _) (.cells #[.int .i64 0, .int .i64 0, .int .i64 0, .int .i64 0, .int .i64 0] 92)).drew.trans (HB.out.mono (by simp))
      have K := (HB.out.block w.heap.size (by simp)).trans (heap_alloc_new w (.cells #[.int .i64 0, .int .i64 0, .int .i64 0, .int .i64 0, .int .i64 0] 92))
      have K5 := (blk_set (blk_set (blk_set (blk_set (blk_set K 0 (.int .i64 5)) 1 (.int .i64 16)) 2 (.int .i64 1)) 3 (.int .i64 0)) 4 (.int .i64 7))
      simp only [List.setIfInBounds_toArray, List.set_cons_succ, List.set_cons_zero] at K5
      exact ⟨_, _, rfl, rfl, ⟨cells_of K5 0, cells_of K5 1, cells_of K5 2, cells_of K5 3, cells_of K5 4⟩, Nat.le_refl _, Below.setCell (Below.setCell (Below.setCell (Below.setCell (Below.setCell B1 (Nat.le_refl _) _) (Nat.le_refl _) _) (Nat.le_refl _) _) (Nat.le_refl _) _) (Nat.le_refl _) _⟩
  case rest =>
    obtain ⟨gw, wx, rfl, rfl, hw5, hgw, hb0⟩ := hcut
    clear hf hk hs
    have hf := (hb0.cell (p := ⟨G, 1, none⟩) hlt).trans HF0.out
    have hs := (hb0.cell (p := ⟨0, 4, none⟩) hlt0).trans HS0.out
    have HM := FR.lit G w.heap.size wx [(2, 26)] 1 hb0.size rfl (by omega)
    have HB := hb0.alloc hb0.size (.cells #[.int .i64 2, .pointer (some ⟨G, 26, none⟩)] 65)
    have HW := hw5.keep ((Below.refl wx.heap.size wx).alloc (Nat.le_refl _) (.cells #[.int .i64 2, .pointer (some ⟨G, 26, none⟩)] 65)).drew
    simp only [fCells] at HM
    have HM := Lib.hid HM.drew
    have HB := Lib.hid HB.drew
    have HW := Lib.hid HW
    have HW0 := Lib.hid hw5
    clear hb0 hw5
    go_wp2_with fail
    go_region_held3 (fun w' => w'.cell? ⟨G, 1, none⟩ = some (.int .i64 2) ∧ w'.cell? ⟨0, 4, none⟩ = some (.int .i64 2)) (go_keep) (fail)
    have hlw : gw < ((wx.alloc (.cells #[.int .i64 2, .pointer (some ⟨G, 26, none⟩)] 65)).drew).heap.size := World.block_lt_of_cell? _ _ HW.out.c0
    generalize hbl : wx.heap.size = BL at HM ⊢
    have hbl2 : gw < BL := by have h9 : gw < wx.heap.size := World.block_lt_of_cell? wx _ HW0.out.c0; omega
    clear hf hs
    generalize (wx.alloc (.cells #[.int .i64 2, .pointer (some ⟨G, 26, none⟩)] 65)).drew = W1 at HM HB HW hlw ⊢
    have hf1 := (HB.out.cell (p := ⟨G, 1, none⟩) hlt).trans HF0.out
    have hk1 := (HB.out.cell (p := ⟨G, 7, none⟩) hlt).trans HK0.out
    clear hbl
    have LIT := FR.lit G W1.heap.size W1 [(1, 4), (5, 2), (16, 3)] 3 (Nat.le_refl _) rfl (by omega)
    simp only [fCells] at LIT
    have LIT := Lib.hid LIT.drew
    have w0 := HW.out.c0
    have w1 := HW.out.c1
    have w3 := HW.out.c3
    have w4 := HW.out.c4
    go_wp2_with fail
    go_region_held3 (fun w' => w'.cell? ⟨gw, 0, none⟩ = some (.int .i64 5) ∧ w'.cell? ⟨gw, 1, none⟩ = some (.int .i64 16)) (first | with_reducible exact ⟨hq.c0, hq.c1⟩ | go_keep) (first | ((with_reducible refine step_append_fr rfl (.tmp 56) (.tmp 76) rfl G w.heap.size W1.heap.size _ 1 [(2, 26)] rfl ((HM.out.alloc _).drew) W1.heap.size 3 3 [(1, 4), (5, 2), (16, 3)] LIT.out rfl (by omega) (by omega) (by simp; exact Nat.le_succ_of_le HB.out.size) ?_); intro g2 c2 w2 hf hg _; have HF := Lib.hid hf; have HB2 := Lib.hid (fr_below ((HM.out.alloc _).drew) ((HB.out.alloc HB.out.size _).drew) (by simp; exact Nat.le_succ_of_le HB.out.size) hg); have hq := (HW.out.keep ((Below.refl W1.heap.size W1).alloc (Nat.le_refl _) (.cells #[.int .i64 1, .pointer (some ⟨G, 4, none⟩), .int .i64 5, .pointer (some ⟨G, 2, none⟩), .int .i64 16, .pointer (some ⟨G, 3, none⟩)] 65)).drew).keepB (B := BL) hg (by omega); clear hf hg) | fail)
    have LIT9 := FR.lit G w2.heap.size w2 [(8, 24)] 1 (Nat.le_refl _) rfl (by omega)
    simp only [fCells] at LIT9
    have LIT9 := Lib.hid LIT9
    go_wp2_with (first | (at_builtin; ((with_reducible refine wpList_append_fr rfl (.tmp 128) (.tmp 134) rfl G w.heap.size w2.heap.size _ 4 [(2, 26), (1, 4), (5, 2), (16, 3)] rfl (HF.out.alloc _) w2.heap.size 1 1 [(8, 24)] LIT9.out rfl (by omega) (by omega) (by simp; exact Nat.le_succ_of_le HB2.out.size) ?_); intro g9 c9 w9 hf hg _; have HF9 := Lib.hid hf; have HB9 := Lib.hid (fr_below (HF.out.alloc _) (HB2.out.alloc HB2.out.size _) (by simp; exact Nat.le_succ_of_le HB2.out.size) hg); clear hf hg)) | fail)
    go_ret
    exact ⟨g9, c9, rfl, HF9.out, HB9.out⟩

set_option maxRecDepth 100000 in
set_option maxHeartbeats 6400000 in
theorem flds_3_1 (G : Nat) (w : World) (hf : w.cell? ⟨G, 1, none⟩ = some (.int .i64 3)) (hk : w.cell? ⟨G, 7, none⟩ = some (.int .i64 1)) (hs : w.cell? ⟨0, 6, none⟩ = some (.int .i64 7)) :
    Calls Tryd.prog 28 #[.pointer (some ⟨G, 0, none⟩)] w (FldR G [(7, 26), (1, 4), (16, 2), (0, 3), (0, 5), (8, 24)] w) := by
  have hlt : G < w.heap.size := World.block_lt_of_cell? w _ hk
  have hlt0 : 0 < w.heap.size := World.block_lt_of_cell? w _ hs
  have HF0 := Lib.hid hf
  have HK0 := Lib.hid hk
  have HS0 := Lib.hid hs
  have CW : Hid (∀ W, Calls Tryd.prog 58 #[.int .i64 3, .int .i64 1] W fun e w' => e = .returned (.agg #[.int .i64 16, .int .i64 0, .int .i64 0, .int .i64 0, .int .i64 8]) ∧ Below W.heap.size W w') := Lib.hid (fun W => widthsOf_any 3 1 W)
  have hne2 : ¬ w.heap.size = G := by omega
  go_enter Tryd.func28, Tryd.ntmps28
  go_upto_region 1 with fail
  go_cut [3] (fun s3 wc => ∃ gw wx, s3 = .pointer (some ⟨gw, 0, none⟩) ∧ wx = wc ∧ W5 wx gw 16 0 0 0 8 ∧ w.heap.size ≤ gw ∧ Below w.heap.size w wx)
  case first =>
    go_region_held3 (fun w' => w'.cell? ⟨G, 1, none⟩ = some (.int .i64 3) ∧ w'.cell? ⟨G, 7, none⟩ = some (.int .i64 1)) (first | with_reducible exact ⟨hf1, hk1⟩ | (simp [World.cell?_setCell_far, hne2, hf1, hk1]; done) | go_keep) (first | (go_at_call 58; ((with_reducible refine (CW.out _).mono ?_); rintro e w1 ⟨rfl, hb⟩; have HB := Lib.hid hb; have hf1 : w1.cell? ⟨G, 1, none⟩ = some (.int .i64 3) := (hb.cell (p := ⟨G, 1, none⟩) (by simp; omega)).trans (by go_keep); have hk1 : w1.cell? ⟨G, 7, none⟩ = some (.int .i64 1) := (hb.cell (p := ⟨G, 7, none⟩) (by simp; omega)).trans (by go_keep); have hcB := fun b o h => hb.cell (p := ⟨b, o, none⟩) h; have hfB := fun b o h => hb.frozen (p := ⟨b, o, none⟩) h; have hz := hb.size; simp at hz; clear hb)) | fail)
    all_goals go_wp2_with fail
    all_goals go_meet
    · have B1 := (Below.refl w.heap.size w).drew.trans HB.out
      have K := heap_alloc_new w1 (.cells #[.int .i64 16, .int .i64 0, .int .i64 0, .int .i64 0, .int .i64 8] 92)
      exact ⟨_, _, rfl, rfl, ⟨cells_of K 0, cells_of K 1, cells_of K 2, cells_of K 3, cells_of K 4⟩, B1.size, B1.alloc B1.size _⟩
    · have B1 := ((Below.refl w.heap.size w).alloc (Nat.le_refl _) (.cells #[.int .i64 0, .int .i64 0, .int .i64 0, .int .i64 0, .int .i64 0] 92)).drew.trans (HB.out.mono (by simp))
      have K := (HB.out.block w.heap.size (by simp)).trans (heap_alloc_new w (.cells #[.int .i64 0, .int .i64 0, .int .i64 0, .int .i64 0, .int .i64 0] 92))
      have K5 := (blk_set (blk_set (blk_set (blk_set (blk_set K 0 (.int .i64 16)) 1 (.int .i64 0)) 2 (.int .i64 0)) 3 (.int .i64 0)) 4 (.int .i64 8))
      simp only [List.setIfInBounds_toArray, List.set_cons_succ, List.set_cons_zero] at K5
      exact ⟨_, _, rfl, rfl, ⟨cells_of K5 0, cells_of K5 1, cells_of K5 2, cells_of K5 3, cells_of K5 4⟩, Nat.le_refl _, Below.setCell (Below.setCell (Below.setCell (Below.setCell (Below.setCell B1 (Nat.le_refl _) _) (Nat.le_refl _) _) (Nat.le_refl _) _) (Nat.le_refl _) _) (Nat.le_refl _) _⟩
  case rest =>
    obtain ⟨gw, wx, rfl, rfl, hw5, hgw, hb0⟩ := hcut
    clear hf hk hs
    have hf := (hb0.cell (p := ⟨G, 1, none⟩) hlt).trans HF0.out
    have hs := (hb0.cell (p := ⟨0, 6, none⟩) hlt0).trans HS0.out
    have HM := FR.lit G w.heap.size wx [(7, 26)] 1 hb0.size rfl (by omega)
    have HB := hb0.alloc hb0.size (.cells #[.int .i64 7, .pointer (some ⟨G, 26, none⟩)] 65)
    have HW := hw5.keep ((Below.refl wx.heap.size wx).alloc (Nat.le_refl _) (.cells #[.int .i64 7, .pointer (some ⟨G, 26, none⟩)] 65)).drew
    simp only [fCells] at HM
    have HM := Lib.hid HM.drew
    have HB := Lib.hid HB.drew
    have HW := Lib.hid HW
    have HW0 := Lib.hid hw5
    clear hb0 hw5
    go_wp2_with fail
    go_region_held3 (fun w' => w'.cell? ⟨G, 1, none⟩ = some (.int .i64 3) ∧ w'.cell? ⟨0, 6, none⟩ = some (.int .i64 7)) (go_keep) (fail)
    have hlw : gw < ((wx.alloc (.cells #[.int .i64 7, .pointer (some ⟨G, 26, none⟩)] 65)).drew).heap.size := World.block_lt_of_cell? _ _ HW.out.c0
    generalize hbl : wx.heap.size = BL at HM ⊢
    have hbl2 : gw < BL := by have h9 : gw < wx.heap.size := World.block_lt_of_cell? wx _ HW0.out.c0; omega
    clear hf hs
    generalize (wx.alloc (.cells #[.int .i64 7, .pointer (some ⟨G, 26, none⟩)] 65)).drew = W1 at HM HB HW hlw ⊢
    have hf1 := (HB.out.cell (p := ⟨G, 1, none⟩) hlt).trans HF0.out
    have hk1 := (HB.out.cell (p := ⟨G, 7, none⟩) hlt).trans HK0.out
    clear hbl
    have LIT := FR.lit G W1.heap.size W1 [(1, 4), (16, 2), (0, 3), (0, 5)] 4 (Nat.le_refl _) rfl (by omega)
    simp only [fCells] at LIT
    have LIT := Lib.hid LIT.drew
    have w0 := HW.out.c0
    have w1 := HW.out.c1
    have w3 := HW.out.c3
    have w4 := HW.out.c4
    go_wp2_with fail
    go_region_held3 (fun w' => w'.cell? ⟨gw, 0, none⟩ = some (.int .i64 16) ∧ w'.cell? ⟨gw, 1, none⟩ = some (.int .i64 0) ∧ w'.cell? ⟨gw, 3, none⟩ = some (.int .i64 0)) (first | with_reducible exact ⟨hq.c0, hq.c1, hq.c3⟩ | go_keep) (first | ((with_reducible refine step_append_fr rfl (.tmp 80) (.tmp 107) rfl G w.heap.size W1.heap.size _ 1 [(7, 26)] rfl ((HM.out.alloc _).drew) W1.heap.size 4 4 [(1, 4), (16, 2), (0, 3), (0, 5)] LIT.out rfl (by omega) (by omega) (by simp; exact Nat.le_succ_of_le HB.out.size) ?_); intro g2 c2 w2 hf hg _; have HF := Lib.hid hf; have HB2 := Lib.hid (fr_below ((HM.out.alloc _).drew) ((HB.out.alloc HB.out.size _).drew) (by simp; exact Nat.le_succ_of_le HB.out.size) hg); have hq := (HW.out.keep ((Below.refl W1.heap.size W1).alloc (Nat.le_refl _) (.cells #[.int .i64 1, .pointer (some ⟨G, 4, none⟩), .int .i64 16, .pointer (some ⟨G, 2, none⟩), .int .i64 0, .pointer (some ⟨G, 3, none⟩), .int .i64 0, .pointer (some ⟨G, 5, none⟩)] 65)).drew).keepB (B := BL) hg (by omega); clear hf hg) | fail)
    have LIT9 := FR.lit G w2.heap.size w2 [(8, 24)] 1 (Nat.le_refl _) rfl (by omega)
    simp only [fCells] at LIT9
    have LIT9 := Lib.hid LIT9
    go_wp2_with (first | (at_builtin; ((with_reducible refine wpList_append_fr rfl (.tmp 128) (.tmp 134) rfl G w.heap.size w2.heap.size _ 5 [(7, 26), (1, 4), (16, 2), (0, 3), (0, 5)] rfl (HF.out.alloc _) w2.heap.size 1 1 [(8, 24)] LIT9.out rfl (by omega) (by omega) (by simp; exact Nat.le_succ_of_le HB2.out.size) ?_); intro g9 c9 w9 hf hg _; have HF9 := Lib.hid hf; have HB9 := Lib.hid (fr_below (HF.out.alloc _) (HB2.out.alloc HB2.out.size _) (by simp; exact Nat.le_succ_of_le HB2.out.size) hg); clear hf hg)) | fail)
    go_ret
    exact ⟨g9, c9, rfl, HF9.out, HB9.out⟩

set_option maxRecDepth 100000 in
set_option maxHeartbeats 6400000 in
theorem flds_3_2 (G : Nat) (w : World) (hf : w.cell? ⟨G, 1, none⟩ = some (.int .i64 3)) (hk : w.cell? ⟨G, 7, none⟩ = some (.int .i64 2)) (hs : w.cell? ⟨0, 6, none⟩ = some (.int .i64 7)) :
    Calls Tryd.prog 28 #[.pointer (some ⟨G, 0, none⟩)] w (FldR G [(7, 26), (1, 4), (8, 2), (32, 3), (16, 5), (8, 24)] w) := by
  have hlt : G < w.heap.size := World.block_lt_of_cell? w _ hk
  have hlt0 : 0 < w.heap.size := World.block_lt_of_cell? w _ hs
  have HF0 := Lib.hid hf
  have HK0 := Lib.hid hk
  have HS0 := Lib.hid hs
  have CW : Hid (∀ W, Calls Tryd.prog 58 #[.int .i64 3, .int .i64 2] W fun e w' => e = .returned (.agg #[.int .i64 8, .int .i64 32, .int .i64 1, .int .i64 16, .int .i64 8]) ∧ Below W.heap.size W w') := Lib.hid (fun W => widthsOf_any 3 2 W)
  have hne2 : ¬ w.heap.size = G := by omega
  go_enter Tryd.func28, Tryd.ntmps28
  go_upto_region 1 with fail
  go_cut [3] (fun s3 wc => ∃ gw wx, s3 = .pointer (some ⟨gw, 0, none⟩) ∧ wx = wc ∧ W5 wx gw 8 32 1 16 8 ∧ w.heap.size ≤ gw ∧ Below w.heap.size w wx)
  case first =>
    go_region_held3 (fun w' => w'.cell? ⟨G, 1, none⟩ = some (.int .i64 3) ∧ w'.cell? ⟨G, 7, none⟩ = some (.int .i64 2)) (first | with_reducible exact ⟨hf1, hk1⟩ | (simp [World.cell?_setCell_far, hne2, hf1, hk1]; done) | go_keep) (first | (go_at_call 58; ((with_reducible refine (CW.out _).mono ?_); rintro e w1 ⟨rfl, hb⟩; have HB := Lib.hid hb; have hf1 : w1.cell? ⟨G, 1, none⟩ = some (.int .i64 3) := (hb.cell (p := ⟨G, 1, none⟩) (by simp; omega)).trans (by go_keep); have hk1 : w1.cell? ⟨G, 7, none⟩ = some (.int .i64 2) := (hb.cell (p := ⟨G, 7, none⟩) (by simp; omega)).trans (by go_keep); have hcB := fun b o h => hb.cell (p := ⟨b, o, none⟩) h; have hfB := fun b o h => hb.frozen (p := ⟨b, o, none⟩) h; have hz := hb.size; simp at hz; clear hb)) | fail)
    all_goals go_wp2_with fail
    all_goals go_meet
    · have B1 := (Below.refl w.heap.size w).drew.trans HB.out
      have K := heap_alloc_new w1 (.cells #[.int .i64 8, .int .i64 32, .int .i64 1, .int .i64 16, .int .i64 8] 92)
      exact ⟨_, _, rfl, rfl, ⟨cells_of K 0, cells_of K 1, cells_of K 2, cells_of K 3, cells_of K 4⟩, B1.size, B1.alloc B1.size _⟩
    · have B1 := ((Below.refl w.heap.size w).alloc (Nat.le_refl _) (.cells #[.int .i64 0, .int .i64 0, .int .i64 0, .int .i64 0, .int .i64 0] 92)).drew.trans (HB.out.mono (by simp))
      have K := (HB.out.block w.heap.size (by simp)).trans (heap_alloc_new w (.cells #[.int .i64 0, .int .i64 0, .int .i64 0, .int .i64 0, .int .i64 0] 92))
      have K5 := (blk_set (blk_set (blk_set (blk_set (blk_set K 0 (.int .i64 8)) 1 (.int .i64 32)) 2 (.int .i64 1)) 3 (.int .i64 16)) 4 (.int .i64 8))
      simp only [List.setIfInBounds_toArray, List.set_cons_succ, List.set_cons_zero] at K5
      exact ⟨_, _, rfl, rfl, ⟨cells_of K5 0, cells_of K5 1, cells_of K5 2, cells_of K5 3, cells_of K5 4⟩, Nat.le_refl _, Below.setCell (Below.setCell (Below.setCell (Below.setCell (Below.setCell B1 (Nat.le_refl _) _) (Nat.le_refl _) _) (Nat.le_refl _) _) (Nat.le_refl _) _) (Nat.le_refl _) _⟩
  case rest =>
    obtain ⟨gw, wx, rfl, rfl, hw5, hgw, hb0⟩ := hcut
    clear hf hk hs
    have hf := (hb0.cell (p := ⟨G, 1, none⟩) hlt).trans HF0.out
    have hs := (hb0.cell (p := ⟨0, 6, none⟩) hlt0).trans HS0.out
    have HM := FR.lit G w.heap.size wx [(7, 26)] 1 hb0.size rfl (by omega)
    have HB := hb0.alloc hb0.size (.cells #[.int .i64 7, .pointer (some ⟨G, 26, none⟩)] 65)
    have HW := hw5.keep ((Below.refl wx.heap.size wx).alloc (Nat.le_refl _) (.cells #[.int .i64 7, .pointer (some ⟨G, 26, none⟩)] 65)).drew
    simp only [fCells] at HM
    have HM := Lib.hid HM.drew
    have HB := Lib.hid HB.drew
    have HW := Lib.hid HW
    have HW0 := Lib.hid hw5
    clear hb0 hw5
    go_wp2_with fail
    go_region_held3 (fun w' => w'.cell? ⟨G, 1, none⟩ = some (.int .i64 3) ∧ w'.cell? ⟨0, 6, none⟩ = some (.int .i64 7)) (go_keep) (fail)
    have hlw : gw < ((wx.alloc (.cells #[.int .i64 7, .pointer (some ⟨G, 26, none⟩)] 65)).drew).heap.size := World.block_lt_of_cell? _ _ HW.out.c0
    generalize hbl : wx.heap.size = BL at HM ⊢
    have hbl2 : gw < BL := by have h9 : gw < wx.heap.size := World.block_lt_of_cell? wx _ HW0.out.c0; omega
    clear hf hs
    generalize (wx.alloc (.cells #[.int .i64 7, .pointer (some ⟨G, 26, none⟩)] 65)).drew = W1 at HM HB HW hlw ⊢
    have hf1 := (HB.out.cell (p := ⟨G, 1, none⟩) hlt).trans HF0.out
    have hk1 := (HB.out.cell (p := ⟨G, 7, none⟩) hlt).trans HK0.out
    clear hbl
    have LIT := FR.lit G W1.heap.size W1 [(1, 4), (8, 2), (32, 3), (16, 5)] 4 (Nat.le_refl _) rfl (by omega)
    simp only [fCells] at LIT
    have LIT := Lib.hid LIT.drew
    have w0 := HW.out.c0
    have w1 := HW.out.c1
    have w3 := HW.out.c3
    have w4 := HW.out.c4
    go_wp2_with fail
    go_region_held3 (fun w' => w'.cell? ⟨gw, 0, none⟩ = some (.int .i64 8) ∧ w'.cell? ⟨gw, 1, none⟩ = some (.int .i64 32) ∧ w'.cell? ⟨gw, 3, none⟩ = some (.int .i64 16)) (first | with_reducible exact ⟨hq.c0, hq.c1, hq.c3⟩ | go_keep) (first | ((with_reducible refine step_append_fr rfl (.tmp 80) (.tmp 107) rfl G w.heap.size W1.heap.size _ 1 [(7, 26)] rfl ((HM.out.alloc _).drew) W1.heap.size 4 4 [(1, 4), (8, 2), (32, 3), (16, 5)] LIT.out rfl (by omega) (by omega) (by simp; exact Nat.le_succ_of_le HB.out.size) ?_); intro g2 c2 w2 hf hg _; have HF := Lib.hid hf; have HB2 := Lib.hid (fr_below ((HM.out.alloc _).drew) ((HB.out.alloc HB.out.size _).drew) (by simp; exact Nat.le_succ_of_le HB.out.size) hg); have hq := (HW.out.keep ((Below.refl W1.heap.size W1).alloc (Nat.le_refl _) (.cells #[.int .i64 1, .pointer (some ⟨G, 4, none⟩), .int .i64 8, .pointer (some ⟨G, 2, none⟩), .int .i64 32, .pointer (some ⟨G, 3, none⟩), .int .i64 16, .pointer (some ⟨G, 5, none⟩)] 65)).drew).keepB (B := BL) hg (by omega); clear hf hg) | fail)
    have LIT9 := FR.lit G w2.heap.size w2 [(8, 24)] 1 (Nat.le_refl _) rfl (by omega)
    simp only [fCells] at LIT9
    have LIT9 := Lib.hid LIT9
    go_wp2_with (first | (at_builtin; ((with_reducible refine wpList_append_fr rfl (.tmp 128) (.tmp 134) rfl G w.heap.size w2.heap.size _ 5 [(7, 26), (1, 4), (8, 2), (32, 3), (16, 5)] rfl (HF.out.alloc _) w2.heap.size 1 1 [(8, 24)] LIT9.out rfl (by omega) (by omega) (by simp; exact Nat.le_succ_of_le HB2.out.size) ?_); intro g9 c9 w9 hf hg _; have HF9 := Lib.hid hf; have HB9 := Lib.hid (fr_below (HF.out.alloc _) (HB2.out.alloc HB2.out.size _) (by simp; exact Nat.le_succ_of_le HB2.out.size) hg); clear hf hg)) | fail)
    go_ret
    exact ⟨g9, c9, rfl, HF9.out, HB9.out⟩

set_option maxRecDepth 100000 in
set_option maxHeartbeats 6400000 in
theorem flds_4_1 (G : Nat) (w : World) (hf : w.cell? ⟨G, 1, none⟩ = some (.int .i64 4)) (hk : w.cell? ⟨G, 7, none⟩ = some (.int .i64 1)) (hs : w.cell? ⟨0, 8, none⟩ = some (.int .i64 8)) :
    Calls Tryd.prog 28 #[.pointer (some ⟨G, 0, none⟩)] w (FldR G [(8, 26), (8, 8), (8, 11), (1, 10), (1, 27), (1, 23), (1, 17), (4, 28), (16, 9), (8, 24)] w) := by
  have hlt : G < w.heap.size := World.block_lt_of_cell? w _ hk
  have hlt0 : 0 < w.heap.size := World.block_lt_of_cell? w _ hs
  have HF0 := Lib.hid hf
  have HK0 := Lib.hid hk
  have HS0 := Lib.hid hs
  have CW : Hid (∀ W, Calls Tryd.prog 58 #[.int .i64 4, .int .i64 1] W fun e w' => e = .returned (.agg #[.int .i64 0, .int .i64 0, .int .i64 0, .int .i64 0, .int .i64 8]) ∧ Below W.heap.size W w') := Lib.hid (fun W => widthsOf_any 4 1 W)
  have hne2 : ¬ w.heap.size = G := by omega
  go_enter Tryd.func28, Tryd.ntmps28
  go_upto_region 1 with fail
  go_cut [3] (fun s3 wc => ∃ gw wx, s3 = .pointer (some ⟨gw, 0, none⟩) ∧ wx = wc ∧ W5 wx gw 0 0 0 0 8 ∧ w.heap.size ≤ gw ∧ Below w.heap.size w wx)
  case first =>
    go_region_held3 (fun w' => w'.cell? ⟨G, 1, none⟩ = some (.int .i64 4) ∧ w'.cell? ⟨G, 7, none⟩ = some (.int .i64 1)) (first | with_reducible exact ⟨hf1, hk1⟩ | (simp [World.cell?_setCell_far, hne2, hf1, hk1]; done) | go_keep) (first | (go_at_call 58; ((with_reducible refine (CW.out _).mono ?_); rintro e w1 ⟨rfl, hb⟩; have HB := Lib.hid hb; have hf1 : w1.cell? ⟨G, 1, none⟩ = some (.int .i64 4) := (hb.cell (p := ⟨G, 1, none⟩) (by simp; omega)).trans (by go_keep); have hk1 : w1.cell? ⟨G, 7, none⟩ = some (.int .i64 1) := (hb.cell (p := ⟨G, 7, none⟩) (by simp; omega)).trans (by go_keep); have hcB := fun b o h => hb.cell (p := ⟨b, o, none⟩) h; have hfB := fun b o h => hb.frozen (p := ⟨b, o, none⟩) h; have hz := hb.size; simp at hz; clear hb)) | fail)
    all_goals go_wp2_with fail
    all_goals go_meet
    · have B1 := (Below.refl w.heap.size w).drew.trans HB.out
      have K := heap_alloc_new w1 (.cells #[.int .i64 0, .int .i64 0, .int .i64 0, .int .i64 0, .int .i64 8] 92)
      exact ⟨_, _, rfl, rfl, ⟨cells_of K 0, cells_of K 1, cells_of K 2, cells_of K 3, cells_of K 4⟩, B1.size, B1.alloc B1.size _⟩
    · have B1 := ((Below.refl w.heap.size w).alloc (Nat.le_refl _) (.cells #[.int .i64 0, .int .i64 0, .int .i64 0, .int .i64 0, .int .i64 0] 92)).drew.trans (HB.out.mono (by simp))
      have K := (HB.out.block w.heap.size (by simp)).trans (heap_alloc_new w (.cells #[.int .i64 0, .int .i64 0, .int .i64 0, .int .i64 0, .int .i64 0] 92))
      have K5 := (blk_set (blk_set (blk_set (blk_set (blk_set K 0 (.int .i64 0)) 1 (.int .i64 0)) 2 (.int .i64 0)) 3 (.int .i64 0)) 4 (.int .i64 8))
      simp only [List.setIfInBounds_toArray, List.set_cons_succ, List.set_cons_zero] at K5
      exact ⟨_, _, rfl, rfl, ⟨cells_of K5 0, cells_of K5 1, cells_of K5 2, cells_of K5 3, cells_of K5 4⟩, Nat.le_refl _, Below.setCell (Below.setCell (Below.setCell (Below.setCell (Below.setCell B1 (Nat.le_refl _) _) (Nat.le_refl _) _) (Nat.le_refl _) _) (Nat.le_refl _) _) (Nat.le_refl _) _⟩
  case rest =>
    obtain ⟨gw, wx, rfl, rfl, hw5, hgw, hb0⟩ := hcut
    clear hf hk hs
    have hf := (hb0.cell (p := ⟨G, 1, none⟩) hlt).trans HF0.out
    have hs := (hb0.cell (p := ⟨0, 8, none⟩) hlt0).trans HS0.out
    have HM := FR.lit G w.heap.size wx [(8, 26)] 1 hb0.size rfl (by omega)
    have HB := hb0.alloc hb0.size (.cells #[.int .i64 8, .pointer (some ⟨G, 26, none⟩)] 65)
    have HW := hw5.keep ((Below.refl wx.heap.size wx).alloc (Nat.le_refl _) (.cells #[.int .i64 8, .pointer (some ⟨G, 26, none⟩)] 65)).drew
    simp only [fCells] at HM
    have HM := Lib.hid HM.drew
    have HB := Lib.hid HB.drew
    have HW := Lib.hid HW
    have HW0 := Lib.hid hw5
    clear hb0 hw5
    go_wp2_with fail
    go_region_held3 (fun w' => w'.cell? ⟨G, 1, none⟩ = some (.int .i64 4) ∧ w'.cell? ⟨0, 8, none⟩ = some (.int .i64 8)) (go_keep) (fail)
    have hlw : gw < ((wx.alloc (.cells #[.int .i64 8, .pointer (some ⟨G, 26, none⟩)] 65)).drew).heap.size := World.block_lt_of_cell? _ _ HW.out.c0
    generalize hbl : wx.heap.size = BL at HM ⊢
    have hbl2 : gw < BL := by have h9 : gw < wx.heap.size := World.block_lt_of_cell? wx _ HW0.out.c0; omega
    clear hf hs
    generalize (wx.alloc (.cells #[.int .i64 8, .pointer (some ⟨G, 26, none⟩)] 65)).drew = W1 at HM HB HW hlw ⊢
    have hf1 := (HB.out.cell (p := ⟨G, 1, none⟩) hlt).trans HF0.out
    have hk1 := (HB.out.cell (p := ⟨G, 7, none⟩) hlt).trans HK0.out
    clear hbl
    have C4 : Hid (∀ W, W.cell? ⟨G, 7, none⟩ = some (.int .i64 1) → Calls Tryd.prog 59 #[.pointer (some ⟨G, 0, none⟩)] W fun e w' => ∃ g cap, e = .returned (.slice (some ⟨g, 0, none⟩) 8 cap) ∧ FR G W.heap.size w' (.slice (some ⟨g, 0, none⟩) 8 cap) 8 [(8, 8), (8, 11), (1, 10), (1, 27), (1, 23), (1, 17), (4, 28), (16, 9)] ∧ Below W.heap.size W w') := Lib.hid (fun W h => dynFields_1 G W h)
    have hk_4 := (HB.out.cell (p := ⟨G, 7, none⟩) hlt).trans HK0.out
    go_wp2_with fail
    refine (C4.out _ hk_4).mono ?_
    rintro e wc4 ⟨gc4, cc4, rfl, hfc, hbc⟩
    have HC4 := Lib.hid hfc
    have HM4 := Lib.hid (HM.out.keep hbc)
    have HB4 := Lib.hid (HB.out.trans (hbc.mono HB.out.size))
    clear hfc hbc
    go_upto_region 17 with (first | (at_builtin; ((with_reducible refine wpList_append_fr rfl (.tmp 111) (.tmp 113) rfl G w.heap.size _ (.slice (some ⟨BL, 0, none⟩) 1 1) 1 [(8, 26)] rfl HM4.out gc4 8 cc4 [(8, 8), (8, 11), (1, 10), (1, 27), (1, 23), (1, 17), (4, 28), (16, 9)] HC4.out rfl (by omega) (by omega) HB4.out.size ?_); intro ga4 ca4 wa4 hf hg _; have HF4 : Hid (FR G w.heap.size wa4 (.slice (some ⟨ga4, 0, none⟩) 9 ca4) 9 [(8, 26), (8, 8), (8, 11), (1, 10), (1, 27), (1, 23), (1, 17), (4, 28), (16, 9)]) := Lib.hid hf; have HG4 := Lib.hid (fr_below HM4.out HB4.out HB4.out.size hg); have hf1 := (HG4.out.cell (p := ⟨G, 1, none⟩) hlt).trans HF0.out; clear hf hg)) | fail)
    have LIT9 := FR.lit G wa4.heap.size wa4 [(8, 24)] 1 (Nat.le_refl _) rfl (by omega)
    simp only [fCells] at LIT9
    have LIT9 := Lib.hid LIT9
    go_wp2_with (first | (at_builtin; ((with_reducible refine wpList_append_fr rfl (.tmp 128) (.tmp 134) rfl G w.heap.size wa4.heap.size _ 9 [(8, 26), (8, 8), (8, 11), (1, 10), (1, 27), (1, 23), (1, 17), (4, 28), (16, 9)] rfl (HF4.out.alloc _) wa4.heap.size 1 1 [(8, 24)] LIT9.out rfl (by omega) (by omega) (by simp; exact Nat.le_succ_of_le HG4.out.size) ?_); intro g9 c9 w9 hf hg _; have HF9 := Lib.hid hf; have HB9 := Lib.hid (fr_below (HF4.out.alloc _) (HG4.out.alloc HG4.out.size _) (by simp; exact Nat.le_succ_of_le HG4.out.size) hg); clear hf hg)) | fail)
    go_ret
    exact ⟨g9, c9, rfl, HF9.out, HB9.out⟩

set_option maxRecDepth 100000 in
set_option maxHeartbeats 6400000 in
theorem flds_4_2 (G : Nat) (w : World) (hf : w.cell? ⟨G, 1, none⟩ = some (.int .i64 4)) (hk : w.cell? ⟨G, 7, none⟩ = some (.int .i64 2)) (hs : w.cell? ⟨0, 8, none⟩ = some (.int .i64 8)) :
    Calls Tryd.prog 28 #[.pointer (some ⟨G, 0, none⟩)] w (FldR G [(8, 26), (8, 8), (8, 11), (1, 10), (1, 27), (1, 23), (1, 17), (4, 28), (8, 18), (16, 19), (16, 9), (32, 20), (16, 22), (8, 24)] w) := by
  have hlt : G < w.heap.size := World.block_lt_of_cell? w _ hk
  have hlt0 : 0 < w.heap.size := World.block_lt_of_cell? w _ hs
  have HF0 := Lib.hid hf
  have HK0 := Lib.hid hk
  have HS0 := Lib.hid hs
  have CW : Hid (∀ W, Calls Tryd.prog 58 #[.int .i64 4, .int .i64 2] W fun e w' => e = .returned (.agg #[.int .i64 0, .int .i64 0, .int .i64 0, .int .i64 0, .int .i64 8]) ∧ Below W.heap.size W w') := Lib.hid (fun W => widthsOf_any 4 2 W)
  have hne2 : ¬ w.heap.size = G := by omega
  go_enter Tryd.func28, Tryd.ntmps28
  go_upto_region 1 with fail
  go_cut [3] (fun s3 wc => ∃ gw wx, s3 = .pointer (some ⟨gw, 0, none⟩) ∧ wx = wc ∧ W5 wx gw 0 0 0 0 8 ∧ w.heap.size ≤ gw ∧ Below w.heap.size w wx)
  case first =>
    go_region_held3 (fun w' => w'.cell? ⟨G, 1, none⟩ = some (.int .i64 4) ∧ w'.cell? ⟨G, 7, none⟩ = some (.int .i64 2)) (first | with_reducible exact ⟨hf1, hk1⟩ | (simp [World.cell?_setCell_far, hne2, hf1, hk1]; done) | go_keep) (first | (go_at_call 58; ((with_reducible refine (CW.out _).mono ?_); rintro e w1 ⟨rfl, hb⟩; have HB := Lib.hid hb; have hf1 : w1.cell? ⟨G, 1, none⟩ = some (.int .i64 4) := (hb.cell (p := ⟨G, 1, none⟩) (by simp; omega)).trans (by go_keep); have hk1 : w1.cell? ⟨G, 7, none⟩ = some (.int .i64 2) := (hb.cell (p := ⟨G, 7, none⟩) (by simp; omega)).trans (by go_keep); have hcB := fun b o h => hb.cell (p := ⟨b, o, none⟩) h; have hfB := fun b o h => hb.frozen (p := ⟨b, o, none⟩) h; have hz := hb.size; simp at hz; clear hb)) | fail)
    all_goals go_wp2_with fail
    all_goals go_meet
    · have B1 := (Below.refl w.heap.size w).drew.trans HB.out
      have K := heap_alloc_new w1 (.cells #[.int .i64 0, .int .i64 0, .int .i64 0, .int .i64 0, .int .i64 8] 92)
      exact ⟨_, _, rfl, rfl, ⟨cells_of K 0, cells_of K 1, cells_of K 2, cells_of K 3, cells_of K 4⟩, B1.size, B1.alloc B1.size _⟩
    · have B1 := ((Below.refl w.heap.size w).alloc (Nat.le_refl _) (.cells #[.int .i64 0, .int .i64 0, .int .i64 0, .int .i64 0, .int .i64 0] 92)).drew.trans (HB.out.mono (by simp))
      have K := (HB.out.block w.heap.size (by simp)).trans (heap_alloc_new w (.cells #[.int .i64 0, .int .i64 0, .int .i64 0, .int .i64 0, .int .i64 0] 92))
      have K5 := (blk_set (blk_set (blk_set (blk_set (blk_set K 0 (.int .i64 0)) 1 (.int .i64 0)) 2 (.int .i64 0)) 3 (.int .i64 0)) 4 (.int .i64 8))
      simp only [List.setIfInBounds_toArray, List.set_cons_succ, List.set_cons_zero] at K5
      exact ⟨_, _, rfl, rfl, ⟨cells_of K5 0, cells_of K5 1, cells_of K5 2, cells_of K5 3, cells_of K5 4⟩, Nat.le_refl _, Below.setCell (Below.setCell (Below.setCell (Below.setCell (Below.setCell B1 (Nat.le_refl _) _) (Nat.le_refl _) _) (Nat.le_refl _) _) (Nat.le_refl _) _) (Nat.le_refl _) _⟩
  case rest =>
    obtain ⟨gw, wx, rfl, rfl, hw5, hgw, hb0⟩ := hcut
    clear hf hk hs
    have hf := (hb0.cell (p := ⟨G, 1, none⟩) hlt).trans HF0.out
    have hs := (hb0.cell (p := ⟨0, 8, none⟩) hlt0).trans HS0.out
    have HM := FR.lit G w.heap.size wx [(8, 26)] 1 hb0.size rfl (by omega)
    have HB := hb0.alloc hb0.size (.cells #[.int .i64 8, .pointer (some ⟨G, 26, none⟩)] 65)
    have HW := hw5.keep ((Below.refl wx.heap.size wx).alloc (Nat.le_refl _) (.cells #[.int .i64 8, .pointer (some ⟨G, 26, none⟩)] 65)).drew
    simp only [fCells] at HM
    have HM := Lib.hid HM.drew
    have HB := Lib.hid HB.drew
    have HW := Lib.hid HW
    have HW0 := Lib.hid hw5
    clear hb0 hw5
    go_wp2_with fail
    go_region_held3 (fun w' => w'.cell? ⟨G, 1, none⟩ = some (.int .i64 4) ∧ w'.cell? ⟨0, 8, none⟩ = some (.int .i64 8)) (go_keep) (fail)
    have hlw : gw < ((wx.alloc (.cells #[.int .i64 8, .pointer (some ⟨G, 26, none⟩)] 65)).drew).heap.size := World.block_lt_of_cell? _ _ HW.out.c0
    generalize hbl : wx.heap.size = BL at HM ⊢
    have hbl2 : gw < BL := by have h9 : gw < wx.heap.size := World.block_lt_of_cell? wx _ HW0.out.c0; omega
    clear hf hs
    generalize (wx.alloc (.cells #[.int .i64 8, .pointer (some ⟨G, 26, none⟩)] 65)).drew = W1 at HM HB HW hlw ⊢
    have hf1 := (HB.out.cell (p := ⟨G, 1, none⟩) hlt).trans HF0.out
    have hk1 := (HB.out.cell (p := ⟨G, 7, none⟩) hlt).trans HK0.out
    clear hbl
    have C4 : Hid (∀ W, W.cell? ⟨G, 7, none⟩ = some (.int .i64 2) → Calls Tryd.prog 59 #[.pointer (some ⟨G, 0, none⟩)] W fun e w' => ∃ g cap, e = .returned (.slice (some ⟨g, 0, none⟩) 12 cap) ∧ FR G W.heap.size w' (.slice (some ⟨g, 0, none⟩) 12 cap) 12 [(8, 8), (8, 11), (1, 10), (1, 27), (1, 23), (1, 17), (4, 28), (8, 18), (16, 19), (16, 9), (32, 20), (16, 22)] ∧ Below W.heap.size W w') := Lib.hid (fun W h => dynFields_2 G W h)
    have hk_4 := (HB.out.cell (p := ⟨G, 7, none⟩) hlt).trans HK0.out
    go_wp2_with fail
    refine (C4.out _ hk_4).mono ?_
    rintro e wc4 ⟨gc4, cc4, rfl, hfc, hbc⟩
    have HC4 := Lib.hid hfc
    have HM4 := Lib.hid (HM.out.keep hbc)
    have HB4 := Lib.hid (HB.out.trans (hbc.mono HB.out.size))
    clear hfc hbc
    go_upto_region 17 with (first | (at_builtin; ((with_reducible refine wpList_append_fr rfl (.tmp 111) (.tmp 113) rfl G w.heap.size _ (.slice (some ⟨BL, 0, none⟩) 1 1) 1 [(8, 26)] rfl HM4.out gc4 12 cc4 [(8, 8), (8, 11), (1, 10), (1, 27), (1, 23), (1, 17), (4, 28), (8, 18), (16, 19), (16, 9), (32, 20), (16, 22)] HC4.out rfl (by omega) (by omega) HB4.out.size ?_); intro ga4 ca4 wa4 hf hg _; have HF4 : Hid (FR G w.heap.size wa4 (.slice (some ⟨ga4, 0, none⟩) 13 ca4) 13 [(8, 26), (8, 8), (8, 11), (1, 10), (1, 27), (1, 23), (1, 17), (4, 28), (8, 18), (16, 19), (16, 9), (32, 20), (16, 22)]) := Lib.hid hf; have HG4 := Lib.hid (fr_below HM4.out HB4.out HB4.out.size hg); have hf1 := (HG4.out.cell (p := ⟨G, 1, none⟩) hlt).trans HF0.out; clear hf hg)) | fail)
    have LIT9 := FR.lit G wa4.heap.size wa4 [(8, 24)] 1 (Nat.le_refl _) rfl (by omega)
    simp only [fCells] at LIT9
    have LIT9 := Lib.hid LIT9
    go_wp2_with (first | (at_builtin; ((with_reducible refine wpList_append_fr rfl (.tmp 128) (.tmp 134) rfl G w.heap.size wa4.heap.size _ 13 [(8, 26), (8, 8), (8, 11), (1, 10), (1, 27), (1, 23), (1, 17), (4, 28), (8, 18), (16, 19), (16, 9), (32, 20), (16, 22)] rfl (HF4.out.alloc _) wa4.heap.size 1 1 [(8, 24)] LIT9.out rfl (by omega) (by omega) (by simp; exact Nat.le_succ_of_le HG4.out.size) ?_); intro g9 c9 w9 hf hg _; have HF9 := Lib.hid hf; have HB9 := Lib.hid (fr_below (HF4.out.alloc _) (HG4.out.alloc HG4.out.size _) (by simp; exact Nat.le_succ_of_le HG4.out.size) hg); clear hf hg)) | fail)
    go_ret
    exact ⟨g9, c9, rfl, HF9.out, HB9.out⟩

set_option maxRecDepth 100000 in
set_option maxHeartbeats 6400000 in
theorem flds_5_1 (G : Nat) (w : World) (hf : w.cell? ⟨G, 1, none⟩ = some (.int .i64 5)) (hk : w.cell? ⟨G, 7, none⟩ = some (.int .i64 1)) (hs : w.cell? ⟨0, 10, none⟩ = some (.int .i64 8)) :
    Calls Tryd.prog 28 #[.pointer (some ⟨G, 0, none⟩)] w (FldR G [(8, 26), (8, 7), (32, 12), (32, 13), (16, 14), (16, 15), (8, 8), (8, 11), (1, 10), (1, 27), (1, 23), (1, 17), (4, 28), (16, 9), (8, 24)] w) := by
  have hlt : G < w.heap.size := World.block_lt_of_cell? w _ hk
  have hlt0 : 0 < w.heap.size := World.block_lt_of_cell? w _ hs
  have HF0 := Lib.hid hf
  have HK0 := Lib.hid hk
  have HS0 := Lib.hid hs
  have CW : Hid (∀ W, Calls Tryd.prog 58 #[.int .i64 5, .int .i64 1] W fun e w' => e = .returned (.agg #[.int .i64 0, .int .i64 0, .int .i64 0, .int .i64 0, .int .i64 8]) ∧ Below W.heap.size W w') := Lib.hid (fun W => widthsOf_any 5 1 W)
  have hne2 : ¬ w.heap.size = G := by omega
  go_enter Tryd.func28, Tryd.ntmps28
  go_upto_region 1 with fail
  go_cut [3] (fun s3 wc => ∃ gw wx, s3 = .pointer (some ⟨gw, 0, none⟩) ∧ wx = wc ∧ W5 wx gw 0 0 0 0 8 ∧ w.heap.size ≤ gw ∧ Below w.heap.size w wx)
  case first =>
    go_region_held3 (fun w' => w'.cell? ⟨G, 1, none⟩ = some (.int .i64 5) ∧ w'.cell? ⟨G, 7, none⟩ = some (.int .i64 1)) (first | with_reducible exact ⟨hf1, hk1⟩ | (simp [World.cell?_setCell_far, hne2, hf1, hk1]; done) | go_keep) (first | (go_at_call 58; ((with_reducible refine (CW.out _).mono ?_); rintro e w1 ⟨rfl, hb⟩; have HB := Lib.hid hb; have hf1 : w1.cell? ⟨G, 1, none⟩ = some (.int .i64 5) := (hb.cell (p := ⟨G, 1, none⟩) (by simp; omega)).trans (by go_keep); have hk1 : w1.cell? ⟨G, 7, none⟩ = some (.int .i64 1) := (hb.cell (p := ⟨G, 7, none⟩) (by simp; omega)).trans (by go_keep); have hcB := fun b o h => hb.cell (p := ⟨b, o, none⟩) h; have hfB := fun b o h => hb.frozen (p := ⟨b, o, none⟩) h; have hz := hb.size; simp at hz; clear hb)) | fail)
    all_goals go_wp2_with fail
    all_goals go_meet
    · have B1 := (Below.refl w.heap.size w).drew.trans HB.out
      have K := heap_alloc_new w1 (.cells #[.int .i64 0, .int .i64 0, .int .i64 0, .int .i64 0, .int .i64 8] 92)
      exact ⟨_, _, rfl, rfl, ⟨cells_of K 0, cells_of K 1, cells_of K 2, cells_of K 3, cells_of K 4⟩, B1.size, B1.alloc B1.size _⟩
    · have B1 := ((Below.refl w.heap.size w).alloc (Nat.le_refl _) (.cells #[.int .i64 0, .int .i64 0, .int .i64 0, .int .i64 0, .int .i64 0] 92)).drew.trans (HB.out.mono (by simp))
      have K := (HB.out.block w.heap.size (by simp)).trans (heap_alloc_new w (.cells #[.int .i64 0, .int .i64 0, .int .i64 0, .int .i64 0, .int .i64 0] 92))
      have K5 := (blk_set (blk_set (blk_set (blk_set (blk_set K 0 (.int .i64 0)) 1 (.int .i64 0)) 2 (.int .i64 0)) 3 (.int .i64 0)) 4 (.int .i64 8))
      simp only [List.setIfInBounds_toArray, List.set_cons_succ, List.set_cons_zero] at K5
      exact ⟨_, _, rfl, rfl, ⟨cells_of K5 0, cells_of K5 1, cells_of K5 2, cells_of K5 3, cells_of K5 4⟩, Nat.le_refl _, Below.setCell (Below.setCell (Below.setCell (Below.setCell (Below.setCell B1 (Nat.le_refl _) _) (Nat.le_refl _) _) (Nat.le_refl _) _) (Nat.le_refl _) _) (Nat.le_refl _) _⟩
  case rest =>
    obtain ⟨gw, wx, rfl, rfl, hw5, hgw, hb0⟩ := hcut
    clear hf hk hs
    have hf := (hb0.cell (p := ⟨G, 1, none⟩) hlt).trans HF0.out
    have hs := (hb0.cell (p := ⟨0, 10, none⟩) hlt0).trans HS0.out
    have HM := FR.lit G w.heap.size wx [(8, 26)] 1 hb0.size rfl (by omega)
    have HB := hb0.alloc hb0.size (.cells #[.int .i64 8, .pointer (some ⟨G, 26, none⟩)] 65)
    have HW := hw5.keep ((Below.refl wx.heap.size wx).alloc (Nat.le_refl _) (.cells #[.int .i64 8, .pointer (some ⟨G, 26, none⟩)] 65)).drew
    simp only [fCells] at HM
    have HM := Lib.hid HM.drew
    have HB := Lib.hid HB.drew
    have HW := Lib.hid HW
    have HW0 := Lib.hid hw5
    clear hb0 hw5
    go_wp2_with fail
    go_region_held3 (fun w' => w'.cell? ⟨G, 1, none⟩ = some (.int .i64 5) ∧ w'.cell? ⟨0, 10, none⟩ = some (.int .i64 8)) (go_keep) (fail)
    have hlw : gw < ((wx.alloc (.cells #[.int .i64 8, .pointer (some ⟨G, 26, none⟩)] 65)).drew).heap.size := World.block_lt_of_cell? _ _ HW.out.c0
    generalize hbl : wx.heap.size = BL at HM ⊢
    have hbl2 : gw < BL := by have h9 : gw < wx.heap.size := World.block_lt_of_cell? wx _ HW0.out.c0; omega
    clear hf hs
    generalize (wx.alloc (.cells #[.int .i64 8, .pointer (some ⟨G, 26, none⟩)] 65)).drew = W1 at HM HB HW hlw ⊢
    have hf1 := (HB.out.cell (p := ⟨G, 1, none⟩) hlt).trans HF0.out
    have hk1 := (HB.out.cell (p := ⟨G, 7, none⟩) hlt).trans HK0.out
    clear hbl
    have C4 : Hid (∀ W, W.cell? ⟨G, 7, none⟩ = some (.int .i64 1) → Calls Tryd.prog 60 #[.pointer (some ⟨G, 0, none⟩)] W fun e w' => ∃ g cap, e = .returned (.slice (some ⟨g, 0, none⟩) 5 cap) ∧ FR G W.heap.size w' (.slice (some ⟨g, 0, none⟩) 5 cap) 5 [(8, 7), (32, 12), (32, 13), (16, 14), (16, 15)] ∧ Below W.heap.size W w') := Lib.hid (fun W h => statFields_1 G W h)
    have hk_4 := (HB.out.cell (p := ⟨G, 7, none⟩) hlt).trans HK0.out
    go_wp2_with fail
    refine (C4.out _ hk_4).mono ?_
    rintro e wc4 ⟨gc4, cc4, rfl, hfc, hbc⟩
    have HC4 := Lib.hid hfc
    have HM4 := Lib.hid (HM.out.keep hbc)
    have HB4 := Lib.hid (HB.out.trans (hbc.mono HB.out.size))
    clear hfc hbc
    go_upto_region 14 with (first | (at_builtin; ((with_reducible refine wpList_append_fr rfl (.tmp 117) (.tmp 119) rfl G w.heap.size _ (.slice (some ⟨BL, 0, none⟩) 1 1) 1 [(8, 26)] rfl HM4.out gc4 5 cc4 [(8, 7), (32, 12), (32, 13), (16, 14), (16, 15)] HC4.out rfl (by omega) (by omega) HB4.out.size ?_); intro ga4 ca4 wa4 hf hg _; have HF4 : Hid (FR G w.heap.size wa4 (.slice (some ⟨ga4, 0, none⟩) 6 ca4) 6 [(8, 26), (8, 7), (32, 12), (32, 13), (16, 14), (16, 15)]) := Lib.hid hf; have HG4 := Lib.hid (fr_below HM4.out HB4.out HB4.out.size hg); have hf1 := (HG4.out.cell (p := ⟨G, 1, none⟩) hlt).trans HF0.out; clear hf hg)) | fail)
    have C5 : Hid (∀ W, W.cell? ⟨G, 7, none⟩ = some (.int .i64 1) → Calls Tryd.prog 59 #[.pointer (some ⟨G, 0, none⟩)] W fun e w' => ∃ g cap, e = .returned (.slice (some ⟨g, 0, none⟩) 8 cap) ∧ FR G W.heap.size w' (.slice (some ⟨g, 0, none⟩) 8 cap) 8 [(8, 8), (8, 11), (1, 10), (1, 27), (1, 23), (1, 17), (4, 28), (16, 9)] ∧ Below W.heap.size W w') := Lib.hid (fun W h => dynFields_1 G W h)
    have hk_5 := (HG4.out.cell (p := ⟨G, 7, none⟩) hlt).trans HK0.out
    go_wp2_with fail
    refine (C5.out _ hk_5).mono ?_
    rintro e wc5 ⟨gc5, cc5, rfl, hfc, hbc⟩
    have HC5 := Lib.hid hfc
    have HM5 := Lib.hid (HF4.out.keep hbc)
    have HB5 := Lib.hid (HG4.out.trans (hbc.mono HG4.out.size))
    clear hfc hbc
    go_upto_region 17 with (first | (at_builtin; ((with_reducible refine wpList_append_fr rfl (.tmp 121) (.tmp 123) rfl G w.heap.size _ (.slice (some ⟨ga4, 0, none⟩) 6 ca4) 6 [(8, 26), (8, 7), (32, 12), (32, 13), (16, 14), (16, 15)] rfl HM5.out gc5 8 cc5 [(8, 8), (8, 11), (1, 10), (1, 27), (1, 23), (1, 17), (4, 28), (16, 9)] HC5.out rfl (by omega) (by omega) HB5.out.size ?_); intro ga5 ca5 wa5 hf hg _; have HF5 : Hid (FR G w.heap.size wa5 (.slice (some ⟨ga5, 0, none⟩) 14 ca5) 14 [(8, 26), (8, 7), (32, 12), (32, 13), (16, 14), (16, 15), (8, 8), (8, 11), (1, 10), (1, 27), (1, 23), (1, 17), (4, 28), (16, 9)]) := Lib.hid hf; have HG5 := Lib.hid (fr_below HM5.out HB5.out HB5.out.size hg); have hf1 := (HG5.out.cell (p := ⟨G, 1, none⟩) hlt).trans HF0.out; clear hf hg)) | fail)
    have LIT9 := FR.lit G wa5.heap.size wa5 [(8, 24)] 1 (Nat.le_refl _) rfl (by omega)
    simp only [fCells] at LIT9
    have LIT9 := Lib.hid LIT9
    go_wp2_with (first | (at_builtin; ((with_reducible refine wpList_append_fr rfl (.tmp 128) (.tmp 134) rfl G w.heap.size wa5.heap.size _ 14 [(8, 26), (8, 7), (32, 12), (32, 13), (16, 14), (16, 15), (8, 8), (8, 11), (1, 10), (1, 27), (1, 23), (1, 17), (4, 28), (16, 9)] rfl (HF5.out.alloc _) wa5.heap.size 1 1 [(8, 24)] LIT9.out rfl (by omega) (by omega) (by simp; exact Nat.le_succ_of_le HG5.out.size) ?_); intro g9 c9 w9 hf hg _; have HF9 := Lib.hid hf; have HB9 := Lib.hid (fr_below (HF5.out.alloc _) (HG5.out.alloc HG5.out.size _) (by simp; exact Nat.le_succ_of_le HG5.out.size) hg); clear hf hg)) | fail)
    go_ret
    exact ⟨g9, c9, rfl, HF9.out, HB9.out⟩

set_option maxRecDepth 100000 in
set_option maxHeartbeats 6400000 in
theorem flds_5_2 (G : Nat) (w : World) (hf : w.cell? ⟨G, 1, none⟩ = some (.int .i64 5)) (hk : w.cell? ⟨G, 7, none⟩ = some (.int .i64 2)) (hs : w.cell? ⟨0, 10, none⟩ = some (.int .i64 8)) :
    Calls Tryd.prog 28 #[.pointer (some ⟨G, 0, none⟩)] w (FldR G [(8, 26), (8, 7), (32, 12), (32, 13), (16, 14), (16, 15), (32, 21), (8, 8), (8, 11), (1, 10), (1, 27), (1, 23), (1, 17), (4, 28), (8, 18), (16, 19), (16, 9), (32, 20), (16, 22), (8, 24)] w) := by
  have hlt : G < w.heap.size := World.block_lt_of_cell? w _ hk
  have hlt0 : 0 < w.heap.size := World.block_lt_of_cell? w _ hs
  have HF0 := Lib.hid hf
  have HK0 := Lib.hid hk
  have HS0 := Lib.hid hs
  have CW : Hid (∀ W, Calls Tryd.prog 58 #[.int .i64 5, .int .i64 2] W fun e w' => e = .returned (.agg #[.int .i64 0, .int .i64 0, .int .i64 0, .int .i64 0, .int .i64 8]) ∧ Below W.heap.size W w') := Lib.hid (fun W => widthsOf_any 5 2 W)
  have hne2 : ¬ w.heap.size = G := by omega
  go_enter Tryd.func28, Tryd.ntmps28
  go_upto_region 1 with fail
  go_cut [3] (fun s3 wc => ∃ gw wx, s3 = .pointer (some ⟨gw, 0, none⟩) ∧ wx = wc ∧ W5 wx gw 0 0 0 0 8 ∧ w.heap.size ≤ gw ∧ Below w.heap.size w wx)
  case first =>
    go_region_held3 (fun w' => w'.cell? ⟨G, 1, none⟩ = some (.int .i64 5) ∧ w'.cell? ⟨G, 7, none⟩ = some (.int .i64 2)) (first | with_reducible exact ⟨hf1, hk1⟩ | (simp [World.cell?_setCell_far, hne2, hf1, hk1]; done) | go_keep) (first | (go_at_call 58; ((with_reducible refine (CW.out _).mono ?_); rintro e w1 ⟨rfl, hb⟩; have HB := Lib.hid hb; have hf1 : w1.cell? ⟨G, 1, none⟩ = some (.int .i64 5) := (hb.cell (p := ⟨G, 1, none⟩) (by simp; omega)).trans (by go_keep); have hk1 : w1.cell? ⟨G, 7, none⟩ = some (.int .i64 2) := (hb.cell (p := ⟨G, 7, none⟩) (by simp; omega)).trans (by go_keep); have hcB := fun b o h => hb.cell (p := ⟨b, o, none⟩) h; have hfB := fun b o h => hb.frozen (p := ⟨b, o, none⟩) h; have hz := hb.size; simp at hz; clear hb)) | fail)
    all_goals go_wp2_with fail
    all_goals go_meet
    · have B1 := (Below.refl w.heap.size w).drew.trans HB.out
      have K := heap_alloc_new w1 (.cells #[.int .i64 0, .int .i64 0, .int .i64 0, .int .i64 0, .int .i64 8] 92)
      exact ⟨_, _, rfl, rfl, ⟨cells_of K 0, cells_of K 1, cells_of K 2, cells_of K 3, cells_of K 4⟩, B1.size, B1.alloc B1.size _⟩
    · have B1 := ((Below.refl w.heap.size w).alloc (Nat.le_refl _) (.cells #[.int .i64 0, .int .i64 0, .int .i64 0, .int .i64 0, .int .i64 0] 92)).drew.trans (HB.out.mono (by simp))
      have K := (HB.out.block w.heap.size (by simp)).trans (heap_alloc_new w (.cells #[.int .i64 0, .int .i64 0, .int .i64 0, .int .i64 0, .int .i64 0] 92))
      have K5 := (blk_set (blk_set (blk_set (blk_set (blk_set K 0 (.int .i64 0)) 1 (.int .i64 0)) 2 (.int .i64 0)) 3 (.int .i64 0)) 4 (.int .i64 8))
      simp only [List.setIfInBounds_toArray, List.set_cons_succ, List.set_cons_zero] at K5
      exact ⟨_, _, rfl, rfl, ⟨cells_of K5 0, cells_of K5 1, cells_of K5 2, cells_of K5 3, cells_of K5 4⟩, Nat.le_refl _, Below.setCell (Below.setCell (Below.setCell (Below.setCell (Below.setCell B1 (Nat.le_refl _) _) (Nat.le_refl _) _) (Nat.le_refl _) _) (Nat.le_refl _) _) (Nat.le_refl _) _⟩
  case rest =>
    obtain ⟨gw, wx, rfl, rfl, hw5, hgw, hb0⟩ := hcut
    clear hf hk hs
    have hf := (hb0.cell (p := ⟨G, 1, none⟩) hlt).trans HF0.out
    have hs := (hb0.cell (p := ⟨0, 10, none⟩) hlt0).trans HS0.out
    have HM := FR.lit G w.heap.size wx [(8, 26)] 1 hb0.size rfl (by omega)
    have HB := hb0.alloc hb0.size (.cells #[.int .i64 8, .pointer (some ⟨G, 26, none⟩)] 65)
    have HW := hw5.keep ((Below.refl wx.heap.size wx).alloc (Nat.le_refl _) (.cells #[.int .i64 8, .pointer (some ⟨G, 26, none⟩)] 65)).drew
    simp only [fCells] at HM
    have HM := Lib.hid HM.drew
    have HB := Lib.hid HB.drew
    have HW := Lib.hid HW
    have HW0 := Lib.hid hw5
    clear hb0 hw5
    go_wp2_with fail
    go_region_held3 (fun w' => w'.cell? ⟨G, 1, none⟩ = some (.int .i64 5) ∧ w'.cell? ⟨0, 10, none⟩ = some (.int .i64 8)) (go_keep) (fail)
    have hlw : gw < ((wx.alloc (.cells #[.int .i64 8, .pointer (some ⟨G, 26, none⟩)] 65)).drew).heap.size := World.block_lt_of_cell? _ _ HW.out.c0
    generalize hbl : wx.heap.size = BL at HM ⊢
    have hbl2 : gw < BL := by have h9 : gw < wx.heap.size := World.block_lt_of_cell? wx _ HW0.out.c0; omega
    clear hf hs
    generalize (wx.alloc (.cells #[.int .i64 8, .pointer (some ⟨G, 26, none⟩)] 65)).drew = W1 at HM HB HW hlw ⊢
    have hf1 := (HB.out.cell (p := ⟨G, 1, none⟩) hlt).trans HF0.out
    have hk1 := (HB.out.cell (p := ⟨G, 7, none⟩) hlt).trans HK0.out
    clear hbl
    have C4 : Hid (∀ W, W.cell? ⟨G, 7, none⟩ = some (.int .i64 2) → Calls Tryd.prog 60 #[.pointer (some ⟨G, 0, none⟩)] W fun e w' => ∃ g cap, e = .returned (.slice (some ⟨g, 0, none⟩) 6 cap) ∧ FR G W.heap.size w' (.slice (some ⟨g, 0, none⟩) 6 cap) 6 [(8, 7), (32, 12), (32, 13), (16, 14), (16, 15), (32, 21)] ∧ Below W.heap.size W w') := Lib.hid (fun W h => statFields_2 G W h)
    have hk_4 := (HB.out.cell (p := ⟨G, 7, none⟩) hlt).trans HK0.out
    go_wp2_with fail
    refine (C4.out _ hk_4).mono ?_
    rintro e wc4 ⟨gc4, cc4, rfl, hfc, hbc⟩
    have HC4 := Lib.hid hfc
    have HM4 := Lib.hid (HM.out.keep hbc)
    have HB4 := Lib.hid (HB.out.trans (hbc.mono HB.out.size))
    clear hfc hbc
    go_upto_region 14 with (first | (at_builtin; ((with_reducible refine wpList_append_fr rfl (.tmp 117) (.tmp 119) rfl G w.heap.size _ (.slice (some ⟨BL, 0, none⟩) 1 1) 1 [(8, 26)] rfl HM4.out gc4 6 cc4 [(8, 7), (32, 12), (32, 13), (16, 14), (16, 15), (32, 21)] HC4.out rfl (by omega) (by omega) HB4.out.size ?_); intro ga4 ca4 wa4 hf hg _; have HF4 : Hid (FR G w.heap.size wa4 (.slice (some ⟨ga4, 0, none⟩) 7 ca4) 7 [(8, 26), (8, 7), (32, 12), (32, 13), (16, 14), (16, 15), (32, 21)]) := Lib.hid hf; have HG4 := Lib.hid (fr_below HM4.out HB4.out HB4.out.size hg); have hf1 := (HG4.out.cell (p := ⟨G, 1, none⟩) hlt).trans HF0.out; clear hf hg)) | fail)
    have C5 : Hid (∀ W, W.cell? ⟨G, 7, none⟩ = some (.int .i64 2) → Calls Tryd.prog 59 #[.pointer (some ⟨G, 0, none⟩)] W fun e w' => ∃ g cap, e = .returned (.slice (some ⟨g, 0, none⟩) 12 cap) ∧ FR G W.heap.size w' (.slice (some ⟨g, 0, none⟩) 12 cap) 12 [(8, 8), (8, 11), (1, 10), (1, 27), (1, 23), (1, 17), (4, 28), (8, 18), (16, 19), (16, 9), (32, 20), (16, 22)] ∧ Below W.heap.size W w') := Lib.hid (fun W h => dynFields_2 G W h)
    have hk_5 := (HG4.out.cell (p := ⟨G, 7, none⟩) hlt).trans HK0.out
    go_wp2_with fail
    refine (C5.out _ hk_5).mono ?_
    rintro e wc5 ⟨gc5, cc5, rfl, hfc, hbc⟩
    have HC5 := Lib.hid hfc
    have HM5 := Lib.hid (HF4.out.keep hbc)
    have HB5 := Lib.hid (HG4.out.trans (hbc.mono HG4.out.size))
    clear hfc hbc
    go_upto_region 17 with (first | (at_builtin; ((with_reducible refine wpList_append_fr rfl (.tmp 121) (.tmp 123) rfl G w.heap.size _ (.slice (some ⟨ga4, 0, none⟩) 7 ca4) 7 [(8, 26), (8, 7), (32, 12), (32, 13), (16, 14), (16, 15), (32, 21)] rfl HM5.out gc5 12 cc5 [(8, 8), (8, 11), (1, 10), (1, 27), (1, 23), (1, 17), (4, 28), (8, 18), (16, 19), (16, 9), (32, 20), (16, 22)] HC5.out rfl (by omega) (by omega) HB5.out.size ?_); intro ga5 ca5 wa5 hf hg _; have HF5 : Hid (FR G w.heap.size wa5 (.slice (some ⟨ga5, 0, none⟩) 19 ca5) 19 [(8, 26), (8, 7), (32, 12), (32, 13), (16, 14), (16, 15), (32, 21), (8, 8), (8, 11), (1, 10), (1, 27), (1, 23), (1, 17), (4, 28), (8, 18), (16, 19), (16, 9), (32, 20), (16, 22)]) := Lib.hid hf; have HG5 := Lib.hid (fr_below HM5.out HB5.out HB5.out.size hg); have hf1 := (HG5.out.cell (p := ⟨G, 1, none⟩) hlt).trans HF0.out; clear hf hg)) | fail)
    have LIT9 := FR.lit G wa5.heap.size wa5 [(8, 24)] 1 (Nat.le_refl _) rfl (by omega)
    simp only [fCells] at LIT9
    have LIT9 := Lib.hid LIT9
    go_wp2_with (first | (at_builtin; ((with_reducible refine wpList_append_fr rfl (.tmp 128) (.tmp 134) rfl G w.heap.size wa5.heap.size _ 19 [(8, 26), (8, 7), (32, 12), (32, 13), (16, 14), (16, 15), (32, 21), (8, 8), (8, 11), (1, 10), (1, 27), (1, 23), (1, 17), (4, 28), (8, 18), (16, 19), (16, 9), (32, 20), (16, 22)] rfl (HF5.out.alloc _) wa5.heap.size 1 1 [(8, 24)] LIT9.out rfl (by omega) (by omega) (by simp; exact Nat.le_succ_of_le HG5.out.size) ?_); intro g9 c9 w9 hf hg _; have HF9 := Lib.hid hf; have HB9 := Lib.hid (fr_below (HF5.out.alloc _) (HG5.out.alloc HG5.out.size _) (by simp; exact Nat.le_succ_of_le HG5.out.size) hg); clear hf hg)) | fail)
    go_ret
    exact ⟨g9, c9, rfl, HF9.out, HB9.out⟩

set_option maxRecDepth 100000 in
set_option maxHeartbeats 6400000 in
theorem flds_6_0 (G : Nat) (w : World) (hf : w.cell? ⟨G, 1, none⟩ = some (.int .i64 6)) (hk : w.cell? ⟨G, 7, none⟩ = some (.int .i64 0)) (hs : w.cell? ⟨0, 12, none⟩ = some (.int .i64 8)) :
    Calls Tryd.prog 28 #[.pointer (some ⟨G, 0, none⟩)] w (FldR G [(8, 26)] w) := by
  have hlt : G < w.heap.size := World.block_lt_of_cell? w _ hk
  have hlt0 : 0 < w.heap.size := World.block_lt_of_cell? w _ hs
  have HF0 := Lib.hid hf
  have HK0 := Lib.hid hk
  have HS0 := Lib.hid hs
  have CW : Hid (∀ W, Calls Tryd.prog 58 #[.int .i64 6, .int .i64 0] W fun e w' => e = .returned (.agg #[.int .i64 0, .int .i64 0, .int .i64 0, .int .i64 0, .int .i64 0]) ∧ Below W.heap.size W w') := Lib.hid (fun W => widthsOf_any 6 0 W)
  have hne2 : ¬ w.heap.size = G := by omega
  go_enter Tryd.func28, Tryd.ntmps28
  go_upto_region 1 with fail
  go_cut [3] (fun s3 wc => ∃ gw wx, s3 = .pointer (some ⟨gw, 0, none⟩) ∧ wx = wc ∧ W5 wx gw 0 0 0 0 0 ∧ w.heap.size ≤ gw ∧ Below w.heap.size w wx)
  case first =>
    go_region_held3 (fun w' => w'.cell? ⟨G, 1, none⟩ = some (.int .i64 6) ∧ w'.cell? ⟨G, 7, none⟩ = some (.int .i64 0)) (first | with_reducible exact ⟨hf1, hk1⟩ | (simp [World.cell?_setCell_far, hne2, hf1, hk1]; done) | go_keep) (first | (go_at_call 58; ((with_reducible refine (CW.out _).mono ?_); rintro e w1 ⟨rfl, hb⟩; have HB := Lib.hid hb; have hf1 : w1.cell? ⟨G, 1, none⟩ = some (.int .i64 6) := (hb.cell (p := ⟨G, 1, none⟩) (by simp; omega)).trans (by go_keep); have hk1 : w1.cell? ⟨G, 7, none⟩ = some (.int .i64 0) := (hb.cell (p := ⟨G, 7, none⟩) (by simp; omega)).trans (by go_keep); have hcB := fun b o h => hb.cell (p := ⟨b, o, none⟩) h; have hfB := fun b o h => hb.frozen (p := ⟨b, o, none⟩) h; have hz := hb.size; simp at hz; clear hb)) | fail)
    all_goals go_wp2_with fail
    all_goals go_meet
    · have B1 := (Below.refl w.heap.size w).drew.trans HB.out
      have K := heap_alloc_new w1 (.cells #[.int .i64 0, .int .i64 0, .int .i64 0, .int .i64 0, .int .i64 0] 92)
      exact ⟨_, _, rfl, rfl, ⟨cells_of K 0, cells_of K 1, cells_of K 2, cells_of K 3, cells_of K 4⟩, B1.size, B1.alloc B1.size _⟩
    · have B1 := ((Below.refl w.heap.size w).alloc (Nat.le_refl _) (.cells #[.int .i64 0, .int .i64 0, .int .i64 0, .int .i64 0, .int .i64 0] 92)).drew.trans (HB.out.mono (by simp))
      have K := (HB.out.block w.heap.size (by simp)).trans (heap_alloc_new w (.cells #[.int .i64 0, .int .i64 0, .int .i64 0, .int .i64 0, .int .i64 0] 92))
      have K5 := (blk_set (blk_set (blk_set (blk_set (blk_set K 0 (.int .i64 0)) 1 (.int .i64 0)) 2 (.int .i64 0)) 3 (.int .i64 0)) 4 (.int .i64 0))
      simp only [List.setIfInBounds_toArray, List.set_cons_succ, List.set_cons_zero] at K5
      exact ⟨_, _, rfl, rfl, ⟨cells_of K5 0, cells_of K5 1, cells_of K5 2, cells_of K5 3, cells_of K5 4⟩, Nat.le_refl _, Below.setCell (Below.setCell (Below.setCell (Below.setCell (Below.setCell B1 (Nat.le_refl _) _) (Nat.le_refl _) _) (Nat.le_refl _) _) (Nat.le_refl _) _) (Nat.le_refl _) _⟩
  case rest =>
    obtain ⟨gw, wx, rfl, rfl, hw5, hgw, hb0⟩ := hcut
    clear hf hk hs
    have hf := (hb0.cell (p := ⟨G, 1, none⟩) hlt).trans HF0.out
    have hs := (hb0.cell (p := ⟨0, 12, none⟩) hlt0).trans HS0.out
    have HM := FR.lit G w.heap.size wx [(8, 26)] 1 hb0.size rfl (by omega)
    have HB := hb0.alloc hb0.size (.cells #[.int .i64 8, .pointer (some ⟨G, 26, none⟩)] 65)
    have HW := hw5.keep ((Below.refl wx.heap.size wx).alloc (Nat.le_refl _) (.cells #[.int .i64 8, .pointer (some ⟨G, 26, none⟩)] 65)).drew
    simp only [fCells] at HM
    have HM := Lib.hid HM.drew
    have HB := Lib.hid HB.drew
    have HW := Lib.hid HW
    have HW0 := Lib.hid hw5
    clear hb0 hw5
    go_wp2_with fail
    go_region_held3 (fun w' => w'.cell? ⟨G, 1, none⟩ = some (.int .i64 6) ∧ w'.cell? ⟨0, 12, none⟩ = some (.int .i64 8)) (go_keep) (fail)
    have hlw : gw < ((wx.alloc (.cells #[.int .i64 8, .pointer (some ⟨G, 26, none⟩)] 65)).drew).heap.size := World.block_lt_of_cell? _ _ HW.out.c0
    generalize hbl : wx.heap.size = BL at HM ⊢
    have hbl2 : gw < BL := by have h9 : gw < wx.heap.size := World.block_lt_of_cell? wx _ HW0.out.c0; omega
    clear hf hs
    generalize (wx.alloc (.cells #[.int .i64 8, .pointer (some ⟨G, 26, none⟩)] 65)).drew = W1 at HM HB HW hlw ⊢
    have hf1 := (HB.out.cell (p := ⟨G, 1, none⟩) hlt).trans HF0.out
    have hk1 := (HB.out.cell (p := ⟨G, 7, none⟩) hlt).trans HK0.out
    clear hbl
    go_wp2_with fail
    go_ret
    exact ⟨_, _, rfl, HM.out, HB.out⟩

end Go.Proofs.YtkhcfmnebflgkaaDoor
