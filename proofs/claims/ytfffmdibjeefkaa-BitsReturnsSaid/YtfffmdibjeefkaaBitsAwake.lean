/-
  The sanity check of layer 1.
-/
import Derived.Test.YtfffmdibjeefkaaBitsPack
namespace Go.Proofs.Ytfffmdibjeefkaa
open Go Go.RowKit

theorem awake_pack : packV [4, 3] [9, 2] = [148] ∧ packE [4, 3] [9, 2] = 0 := by decide +kernel
theorem awake_read : readV [128, 1] 12 4 = 1 ∧ readE [128, 1] 12 4 = 0 := by decide +kernel

set_option maxHeartbeats 400000 in
theorem awake01_any (w : World) :
    Calls Try.prog 14 #[] w fun e w' => e = .returned (.bool true) ∧ Below w.heap.size w w' := by
  go_enter Try.func14, Try.ntmps14
  go_wp2_with fail
  have s1 : Sl .i64 ((w.alloc (.cells #[.int .i64 4, .int .i64 3] 3)).alloc (.cells #[.int .i64 9, .int .i64 2] 3)) (some ⟨w.heap.size, 0, none⟩) 2 [4, 3] := (Sl.lit .i64 w [4, 3] 3 2 _ rfl rfl (by omega) (by decide)).alloc _
  have s2 : Sl .i64 ((w.alloc (.cells #[.int .i64 4, .int .i64 3] 3)).alloc (.cells #[.int .i64 9, .int .i64 2] 3)) (some ⟨w.heap.size + 1, 0, none⟩) 2 [9, 2] := Sl.lit .i64 _ [9, 2] 3 2 _ (by simp) rfl (by omega) (by decide)
  refine (Pack_any _ _ _ _ _ _ [4, 3] [9, 2] _ s1 s2).mono ?_
  rw [awake_pack.1, awake_pack.2]
  rintro e w1 ⟨a1, n1, c1, rfl, hn1, hm1, hb1⟩
  obtain rfl : n1 = 1 := by rw [← hm1.len]; rfl
  obtain ⟨g, off, rfl⟩ := hm1.sl.head (by omega)
  have hc1 : w1.cell? ⟨g, off, none⟩ = some (.int .u8 148) := by simpa using hm1.sl.at (i := 0) (by omega)
  have hb := hm1.sl.block (i := 0) (by omega)
  have hB := (((Below.refl w.heap.size w).alloc (Nat.le_refl _) (.cells #[.int .i64 4, .int .i64 3] 3)).alloc (by simp) (.cells #[.int .i64 9, .int .i64 2] 3)).trans (hb1.mono (by simp; omega))
  have HB := Lib.hid hB
  clear s1 s2 hm1 hb1 hB hn1
  go_wp2_with fail
  have s3 : Sl .u8 (w1.alloc (.cells #[.int .u8 128, .int .u8 1] 5)) (some ⟨w1.heap.size, 0, none⟩) 2 [128, 1] := Sl.lit .u8 w1 [128, 1] 5 2 _ rfl rfl (by omega) (by decide)
  refine (Read_any _ _ _ _ _ [128, 1] _ s3 (by omega)).mono ?_
  rw [awake_read.1, awake_read.2]
  rintro e w2 ⟨rfl, rfl⟩
  clear s3
  go_wp2_with fail
  go_ret
  exact ⟨rfl, HB.out.alloc HB.out.size _⟩
end Go.Proofs.Ytfffmdibjeefkaa
