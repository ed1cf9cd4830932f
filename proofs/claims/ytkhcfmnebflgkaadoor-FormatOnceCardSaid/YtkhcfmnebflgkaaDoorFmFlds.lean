/-
  The program's lists of fields of layer 8: dynamicFields, staticFields. (gen_flds.py writes this text.)
-/
import Derived.Test.YtkhcfmnebflgkaaDoorJLow
import Derived.Test.YtkhcfmnebflgkaaDoorFmFns
import Derived.Deep.RegionHeld3
namespace Go.Proofs.YtkhcfmnebflgkaaDoor
open Go Go.RowKit

def dynF1 : List (Int × Nat) := [(8, 8), (8, 11), (1, 10), (1, 27), (1, 23), (1, 17), (4, 28), (16, 9)]
def dynF2 : List (Int × Nat) := [(8, 8), (8, 11), (1, 10), (1, 27), (1, 23), (1, 17), (4, 28), (8, 18), (16, 19), (16, 9), (32, 20), (16, 22)]
def statF1 : List (Int × Nat) := [(8, 7), (32, 12), (32, 13), (16, 14), (16, 15)]
def statF2 : List (Int × Nat) := [(8, 7), (32, 12), (32, 13), (16, 14), (16, 15), (32, 21)]

/-- fields that a function of the program returns -/
def FldR (G : Nat) (fs : List (Int × Nat)) (w : World) (e : Ending) (w' : World) : Prop := ∃ g cap, e = .returned (.slice (some ⟨g, 0, none⟩) fs.length cap) ∧ FR G w.heap.size w' (.slice (some ⟨g, 0, none⟩) fs.length cap) fs.length fs ∧ Below w.heap.size w w'
theorem fr_below {G B n : Nat} {w W w2 : World} {v : Value} {xs : List (Int × Nat)} (hm : FR G B W v n xs) (hb : Below B w W) (hB : B ≤ W.heap.size) (hg : W.grownBy w2 v.ownBlock) : Below B w w2 := hb.trans (Below.of_row hg (fun g e => (hm.ge g e).1) hB)

set_option maxRecDepth 100000 in
set_option maxHeartbeats 6400000 in
theorem dynFields_1 (G : Nat) (w : World) (hk : w.cell? ⟨G, 7, none⟩ = some (.int .i64 1)) :
    Calls Tryd.prog 59 #[.pointer (some ⟨G, 0, none⟩)] w (FldR G dynF1 w) := by
  have hlt : G < w.heap.size := World.block_lt_of_cell? w _ hk
  have HM := FR.lit G w.heap.size w [(8, 8), (8, 11), (1, 10), (1, 27), (1, 23), (1, 17), (4, 28)] 7 (Nat.le_refl _) rfl (by omega)
  have HB := (Below.refl w.heap.size w).alloc (Nat.le_refl _) (.cells #[.int .i64 8, .pointer (some ⟨G, 8, none⟩), .int .i64 8, .pointer (some ⟨G, 11, none⟩), .int .i64 1, .pointer (some ⟨G, 10, none⟩), .int .i64 1, .pointer (some ⟨G, 27, none⟩), .int .i64 1, .pointer (some ⟨G, 23, none⟩), .int .i64 1, .pointer (some ⟨G, 17, none⟩), .int .i64 4, .pointer (some ⟨G, 28, none⟩)] 65)
  have HK : ((w.alloc (.cells #[.int .i64 8, .pointer (some ⟨G, 8, none⟩), .int .i64 8, .pointer (some ⟨G, 11, none⟩), .int .i64 1, .pointer (some ⟨G, 10, none⟩), .int .i64 1, .pointer (some ⟨G, 27, none⟩), .int .i64 1, .pointer (some ⟨G, 23, none⟩), .int .i64 1, .pointer (some ⟨G, 17, none⟩), .int .i64 4, .pointer (some ⟨G, 28, none⟩)] 65)).drew).cell? ⟨G, 7, none⟩ = some (.int .i64 1) := (HB.drew.cell (p := ⟨G, 7, none⟩) hlt).trans hk
  simp only [fCells] at HM
  have HM := Lib.hid HM.drew
  have HB := Lib.hid HB.drew
  have HK := Lib.hid HK
  go_enter Tryd.func59, Tryd.ntmps59
  go_wp2_with fail
  go_region_held3 (fun w' => w'.cell? ⟨G, 7, none⟩ = some (.int .i64 1)) (go_keep) (fail)
  generalize (w.alloc (.cells #[.int .i64 8, .pointer (some ⟨G, 8, none⟩), .int .i64 8, .pointer (some ⟨G, 11, none⟩), .int .i64 1, .pointer (some ⟨G, 10, none⟩), .int .i64 1, .pointer (some ⟨G, 27, none⟩), .int .i64 1, .pointer (some ⟨G, 23, none⟩), .int .i64 1, .pointer (some ⟨G, 17, none⟩), .int .i64 4, .pointer (some ⟨G, 28, none⟩)] 65)).drew = W1 at HM HB HK ⊢
  have hk1 := HK.out
  have HK0 := Lib.hid hk
  clear hk HK
  have LIT := FR.lit G W1.heap.size W1 [(16, 9)] 1 (Nat.le_refl _) rfl (by omega)
  simp only [fCells] at LIT
  have LIT := Lib.hid LIT
  go_wp2_with (first | (at_builtin; ((with_reducible refine wpList_append_fr rfl (.tmp 45) (.tmp 50) rfl G w.heap.size W1.heap.size _ 7 [(8, 8), (8, 11), (1, 10), (1, 27), (1, 23), (1, 17), (4, 28)] rfl ((HM.out.alloc _)) W1.heap.size 1 1 [(16, 9)] LIT.out rfl (by omega) (by omega) (by simp; exact Nat.le_succ_of_le HB.out.size) ?_); intro g cap w2 hf hg _; have HF := Lib.hid hf; have HB2 := Lib.hid (fr_below ((HM.out.alloc _)) ((HB.out.alloc HB.out.size _)) (by simp; exact Nat.le_succ_of_le HB.out.size) hg); clear hf hg)) | fail)
  go_ret
  exact ⟨g, cap, rfl, HF.out, HB2.out⟩

set_option maxRecDepth 100000 in
set_option maxHeartbeats 6400000 in
theorem dynFields_2 (G : Nat) (w : World) (hk : w.cell? ⟨G, 7, none⟩ = some (.int .i64 2)) :
    Calls Tryd.prog 59 #[.pointer (some ⟨G, 0, none⟩)] w (FldR G dynF2 w) := by
  have hlt : G < w.heap.size := World.block_lt_of_cell? w _ hk
  have HM := FR.lit G w.heap.size w [(8, 8), (8, 11), (1, 10), (1, 27), (1, 23), (1, 17), (4, 28)] 7 (Nat.le_refl _) rfl (by omega)
  have HB := (Below.refl w.heap.size w).alloc (Nat.le_refl _) (.cells #[.int .i64 8, .pointer (some ⟨G, 8, none⟩), .int .i64 8, .pointer (some ⟨G, 11, none⟩), .int .i64 1, .pointer (some ⟨G, 10, none⟩), .int .i64 1, .pointer (some ⟨G, 27, none⟩), .int .i64 1, .pointer (some ⟨G, 23, none⟩), .int .i64 1, .pointer (some ⟨G, 17, none⟩), .int .i64 4, .pointer (some ⟨G, 28, none⟩)] 65)
  have HK : ((w.alloc (.cells #[.int .i64 8, .pointer (some ⟨G, 8, none⟩), .int .i64 8, .pointer (some ⟨G, 11, none⟩), .int .i64 1, .pointer (some ⟨G, 10, none⟩), .int .i64 1, .pointer (some ⟨G, 27, none⟩), .int .i64 1, .pointer (some ⟨G, 23, none⟩), .int .i64 1, .pointer (some ⟨G, 17, none⟩), .int .i64 4, .pointer (some ⟨G, 28, none⟩)] 65)).drew).cell? ⟨G, 7, none⟩ = some (.int .i64 2) := (HB.drew.cell (p := ⟨G, 7, none⟩) hlt).trans hk
  simp only [fCells] at HM
  have HM := Lib.hid HM.drew
  have HB := Lib.hid HB.drew
  have HK := Lib.hid HK
  go_enter Tryd.func59, Tryd.ntmps59
  go_wp2_with fail
  go_region_held3 (fun w' => w'.cell? ⟨G, 7, none⟩ = some (.int .i64 2)) (go_keep) (fail)
  generalize (w.alloc (.cells #[.int .i64 8, .pointer (some ⟨G, 8, none⟩), .int .i64 8, .pointer (some ⟨G, 11, none⟩), .int .i64 1, .pointer (some ⟨G, 10, none⟩), .int .i64 1, .pointer (some ⟨G, 27, none⟩), .int .i64 1, .pointer (some ⟨G, 23, none⟩), .int .i64 1, .pointer (some ⟨G, 17, none⟩), .int .i64 4, .pointer (some ⟨G, 28, none⟩)] 65)).drew = W1 at HM HB HK ⊢
  have hk1 := HK.out
  have HK0 := Lib.hid hk
  clear hk HK
  have LIT := FR.lit G W1.heap.size W1 [(8, 18), (16, 19), (16, 9), (32, 20), (16, 22)] 5 (Nat.le_refl _) rfl (by omega)
  simp only [fCells] at LIT
  have LIT := Lib.hid LIT.drew
  go_wp2_with fail
  go_region_held3 (fun w' => w'.cell? ⟨G, 7, none⟩ = some (.int .i64 2)) (first | with_reducible exact hk2 | go_keep) (first | (((with_reducible refine step_append_fr rfl (.tmp 52) (.tmp 75) rfl G w.heap.size W1.heap.size _ 7 [(8, 8), (8, 11), (1, 10), (1, 27), (1, 23), (1, 17), (4, 28)] rfl ((HM.out.alloc _).drew) W1.heap.size 5 5 [(8, 18), (16, 19), (16, 9), (32, 20), (16, 22)] LIT.out rfl (by omega) (by omega) (by simp; exact Nat.le_succ_of_le HB.out.size) ?_); intro g cap w2 hf hg _; have HF := Lib.hid hf; have HB2 := Lib.hid (fr_below ((HM.out.alloc _).drew) ((HB.out.alloc HB.out.size _).drew) (by simp; exact Nat.le_succ_of_le HB.out.size) hg); have hk2 := (HB2.out.cell (p := ⟨G, 7, none⟩) hlt).trans HK0.out; clear hf hg)) | fail)
  go_wp2_with fail
  go_ret
  exact ⟨g, cap, rfl, HF.out, HB2.out⟩

set_option maxRecDepth 100000 in
set_option maxHeartbeats 6400000 in
theorem statFields_2 (G : Nat) (w : World) (hk : w.cell? ⟨G, 7, none⟩ = some (.int .i64 2)) :
    Calls Tryd.prog 60 #[.pointer (some ⟨G, 0, none⟩)] w (FldR G statF2 w) := by
  have hlt : G < w.heap.size := World.block_lt_of_cell? w _ hk
  have HM := FR.lit G w.heap.size w [(8, 7), (32, 12), (32, 13), (16, 14), (16, 15)] 5 (Nat.le_refl _) rfl (by omega)
  have HB := (Below.refl w.heap.size w).alloc (Nat.le_refl _) (.cells #[.int .i64 8, .pointer (some ⟨G, 7, none⟩), .int .i64 32, .pointer (some ⟨G, 12, none⟩), .int .i64 32, .pointer (some ⟨G, 13, none⟩), .int .i64 16, .pointer (some ⟨G, 14, none⟩), .int .i64 16, .pointer (some ⟨G, 15, none⟩)] 65)
  have HK : ((w.alloc (.cells #[.int .i64 8, .pointer (some ⟨G, 7, none⟩), .int .i64 32, .pointer (some ⟨G, 12, none⟩), .int .i64 32, .pointer (some ⟨G, 13, none⟩), .int .i64 16, .pointer (some ⟨G, 14, none⟩), .int .i64 16, .pointer (some ⟨G, 15, none⟩)] 65)).drew).cell? ⟨G, 7, none⟩ = some (.int .i64 2) := (HB.drew.cell (p := ⟨G, 7, none⟩) hlt).trans hk
  simp only [fCells] at HM
  have HM := Lib.hid HM.drew
  have HB := Lib.hid HB.drew
  have HK := Lib.hid HK
  go_enter Tryd.func60, Tryd.ntmps60
  go_wp2_with fail
  go_region_held3 (fun w' => w'.cell? ⟨G, 7, none⟩ = some (.int .i64 2)) (go_keep) (fail)
  generalize (w.alloc (.cells #[.int .i64 8, .pointer (some ⟨G, 7, none⟩), .int .i64 32, .pointer (some ⟨G, 12, none⟩), .int .i64 32, .pointer (some ⟨G, 13, none⟩), .int .i64 16, .pointer (some ⟨G, 14, none⟩), .int .i64 16, .pointer (some ⟨G, 15, none⟩)] 65)).drew = W1 at HM HB HK ⊢
  have hk1 := HK.out
  have HK0 := Lib.hid hk
  clear hk HK
  have LIT := FR.lit G W1.heap.size W1 [(32, 21)] 1 (Nat.le_refl _) rfl (by omega)
  simp only [fCells] at LIT
  have LIT := Lib.hid LIT
  go_wp2_with (first | (at_builtin; ((with_reducible refine wpList_append_fr rfl (.tmp 35) (.tmp 40) rfl G w.heap.size W1.heap.size _ 5 [(8, 7), (32, 12), (32, 13), (16, 14), (16, 15)] rfl ((HM.out.alloc _)) W1.heap.size 1 1 [(32, 21)] LIT.out rfl (by omega) (by omega) (by simp; exact Nat.le_succ_of_le HB.out.size) ?_); intro g cap w2 hf hg _; have HF := Lib.hid hf; have HB2 := Lib.hid (fr_below ((HM.out.alloc _)) ((HB.out.alloc HB.out.size _)) (by simp; exact Nat.le_succ_of_le HB.out.size) hg); clear hf hg)) | fail)
  go_ret
  exact ⟨g, cap, rfl, HF.out, HB2.out⟩

set_option maxRecDepth 100000 in
set_option maxHeartbeats 6400000 in
theorem statFields_1 (G : Nat) (w : World) (hk : w.cell? ⟨G, 7, none⟩ = some (.int .i64 1)) :
    Calls Tryd.prog 60 #[.pointer (some ⟨G, 0, none⟩)] w (FldR G statF1 w) := by
  have hlt : G < w.heap.size := World.block_lt_of_cell? w _ hk
  have HM := FR.lit G w.heap.size w [(8, 7), (32, 12), (32, 13), (16, 14), (16, 15)] 5 (Nat.le_refl _) rfl (by omega)
  have HB := (Below.refl w.heap.size w).alloc (Nat.le_refl _) (.cells #[.int .i64 8, .pointer (some ⟨G, 7, none⟩), .int .i64 32, .pointer (some ⟨G, 12, none⟩), .int .i64 32, .pointer (some ⟨G, 13, none⟩), .int .i64 16, .pointer (some ⟨G, 14, none⟩), .int .i64 16, .pointer (some ⟨G, 15, none⟩)] 65)
  have HK : ((w.alloc (.cells #[.int .i64 8, .pointer (some ⟨G, 7, none⟩), .int .i64 32, .pointer (some ⟨G, 12, none⟩), .int .i64 32, .pointer (some ⟨G, 13, none⟩), .int .i64 16, .pointer (some ⟨G, 14, none⟩), .int .i64 16, .pointer (some ⟨G, 15, none⟩)] 65)).drew).cell? ⟨G, 7, none⟩ = some (.int .i64 1) := (HB.drew.cell (p := ⟨G, 7, none⟩) hlt).trans hk
  simp only [fCells] at HM
  have HM := Lib.hid HM.drew
  have HB := Lib.hid HB.drew
  have HK := Lib.hid HK
  go_enter Tryd.func60, Tryd.ntmps60
  go_wp2_with fail
  go_region_held3 (fun w' => w'.cell? ⟨G, 7, none⟩ = some (.int .i64 1)) (go_keep) (fail)
  generalize (w.alloc (.cells #[.int .i64 8, .pointer (some ⟨G, 7, none⟩), .int .i64 32, .pointer (some ⟨G, 12, none⟩), .int .i64 32, .pointer (some ⟨G, 13, none⟩), .int .i64 16, .pointer (some ⟨G, 14, none⟩), .int .i64 16, .pointer (some ⟨G, 15, none⟩)] 65)).drew = W1 at HM HB HK ⊢
  have hk1 := HK.out
  have HK0 := Lib.hid hk
  clear hk HK
  go_wp2_with fail
  go_ret
  exact ⟨_, _, rfl, HM.out, HB.out⟩
end Go.Proofs.YtkhcfmnebflgkaaDoor
