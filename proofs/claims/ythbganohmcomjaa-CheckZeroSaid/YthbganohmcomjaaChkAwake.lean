/-
  The sanity check of layer 3, and the widths that the laws draw.
-/
import Derived.Test.YthbganohmcomjaaChkSum
import Derived.Test.YthbganohmcomjaaMod
namespace Go.Proofs.Ythbganohmcomjaa
open Go Go.RowKit

theorem awake_sum8 : sumV 8 [0] = 243 ∧ sumE 8 = 0 := by decide +kernel
theorem awake_sum3 : sumV 3 [] = 7 ∧ sumE 3 = 0 := by decide +kernel

set_option maxHeartbeats 1000000 in
theorem awake03_any (w : World) :
    Calls Try.prog 8 #[] w fun e w' => e = .returned (.bool true) ∧ Below w.heap.size w w' := by
  have S1 := Lib.hid (Sl.lit .u8 w [0] 5 1 w.heap.size rfl rfl (by omega) (by decide))
  have B1 := Lib.hid ((Below.refl w.heap.size w).alloc (Nat.le_refl _) (.cells #[Value.int .u8 0] 5))
  have S2 := fun W : World => (Mk.nil .u8 5 0 W).sl
  have S2 := Lib.hid S2
  go_enter Try.func8, Try.ntmps8
  go_wp2_with fail
  refine (Sum_any 8 _ _ _ [0] _ S1.out (by omega)).mono ?_
  rw [awake_sum8.1, awake_sum8.2]
  rintro e w1 ⟨rfl, h1⟩
  have H1 := Lib.hid (B1.out.trans (h1.mono (by simp)))
  clear h1
  go_wp2_with fail
  refine (Sum_any 3 _ _ _ [] _ (S2.out _) (by omega)).mono ?_
  rw [awake_sum3.1, awake_sum3.2]
  rintro e w2 ⟨rfl, h2⟩
  have H2 := Lib.hid (H1.out.trans (h2.mono H1.out.size))
  clear h2
  go_wp2
  go_ret
  exact ⟨rfl, H2.out⟩

def widN (x : Int) : Nat := if x % 5 = 0 then 3 else if x % 5 = 1 then 7 else if x % 5 = 2 then 8 else if x % 5 = 3 then 16 else 24
theorem widN_kd (x : Int) : ∃ P, Kd (widN x) P := by
  refine kd_of _ ?_
  unfold widN
  repeat' split
  all_goals simp

set_option maxHeartbeats 1000000 in
theorem width_any (x : Int) (w : World) (b : -9223372036854775808 ≤ x ∧ x ≤ 9223372036854775807) :
    Calls Try.prog 9 #[.int .i64 x] w fun e w' => e = .returned (.int .i64 (widN x)) ∧ w = w' := by
  have C : Hid (∀ W, Calls Try.prog 14 #[.int .i64 x, .int .i64 5] W fun e w' => e = .returned (.int .i64 (x % 5)) ∧ W = w') := fun W => mod_any x 5 W (by omega) (by omega) b.1 b.2
  have h0 := Int.emod_nonneg x (show (5 : Int) ≠ 0 by omega)
  have h1 := Int.emod_lt_of_pos x (show (0 : Int) < 5 by omega)
  unfold widN
  generalize x % 5 = y at C h0 h1
  have r0 : ∀ W, Sem.run Try.prog (Instr.index 37 (.agg #[.int .i64 3, .int .i64 7, .int .i64 8, .int .i64 16, .int .i64 24]) (.int .i64 0)) W = .ok (.int .i64 3) W := fun W => by kernel_rfl
  have r1 : ∀ W, Sem.run Try.prog (Instr.index 37 (.agg #[.int .i64 3, .int .i64 7, .int .i64 8, .int .i64 16, .int .i64 24]) (.int .i64 1)) W = .ok (.int .i64 7) W := fun W => by kernel_rfl
  have r2 : ∀ W, Sem.run Try.prog (Instr.index 37 (.agg #[.int .i64 3, .int .i64 7, .int .i64 8, .int .i64 16, .int .i64 24]) (.int .i64 2)) W = .ok (.int .i64 8) W := fun W => by kernel_rfl
  have r3 : ∀ W, Sem.run Try.prog (Instr.index 37 (.agg #[.int .i64 3, .int .i64 7, .int .i64 8, .int .i64 16, .int .i64 24]) (.int .i64 3)) W = .ok (.int .i64 16) W := fun W => by kernel_rfl
  have r4 : ∀ W, Sem.run Try.prog (Instr.index 37 (.agg #[.int .i64 3, .int .i64 7, .int .i64 8, .int .i64 16, .int .i64 24]) (.int .i64 4)) W = .ok (.int .i64 24) W := fun W => by kernel_rfl
  rcases (show y = 0 ∨ y = 1 ∨ y = 2 ∨ y = 3 ∨ y = 4 by omega) with rfl | rfl | rfl | rfl | rfl
  all_goals
    go_enter Try.func9, Try.ntmps9
    go_wp2_with (go_at_call 14; refine (C.out _).mono ?_; rintro e w' ⟨rfl, rfl⟩)
    go_ret
    exact ⟨rfl, rfl⟩

/-! ### over a world that has grown since the call began -/
theorem Sum_b {W : World} (k : Int) (a : Option Addr) (n cap : Nat) (zs : List Int) (w : World) (hb : Below W.heap.size W w) (hs : Sl .u8 w a n zs) (hk : -9223372036854775808 ≤ k ∧ k ≤ 9223372036854775807) :
    Calls Try.prog 10 #[.int .i64 k, .slice a n cap] w fun e w' => e = .returned (.tuple #[.int .i64 (sumV k zs), .int .i64 (sumE k)]) ∧ Below W.heap.size W w' ∧ Below w.heap.size w w' :=
  (Sum_any k a n cap zs w hs hk).mono fun _ _ ⟨he, h⟩ => ⟨he, hb.trans (h.mono hb.size), h⟩
theorem Next_b {W : World} (k r : Int) (a : Option Addr) (n cap : Nat) (zs : List Int) (w : World) (hb : Below W.heap.size W w) (hs : Sl .u8 w a n zs) (hk : -9223372036854775808 ≤ k ∧ k ≤ 9223372036854775807) :
    Calls Try.prog 12 #[.int .i64 k, .int .i64 r, .slice a n cap] w fun e w' => e = .returned (.tuple #[.int .i64 (nextV k r zs), .int .i64 (nextE k r)]) ∧ Below W.heap.size W w' ∧ Below w.heap.size w w' :=
  (Next_any k r a n cap zs w hs hk).mono fun _ _ ⟨he, h⟩ => ⟨he, hb.trans (h.mono hb.size), h⟩
theorem awake03_b {W : World} (w : World) (hb : Below W.heap.size W w) :
    Calls Try.prog 8 #[] w fun e w' => e = .returned (.bool true) ∧ Below W.heap.size W w' :=
  (awake03_any w).mono fun _ _ ⟨he, h⟩ => ⟨he, hb.trans (h.mono hb.size)⟩
end Go.Proofs.Ythbganohmcomjaa
