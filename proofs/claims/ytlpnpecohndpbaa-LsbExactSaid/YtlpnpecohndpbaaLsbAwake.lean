/-
  The sanity check of layer 7, and the widths that the laws draw.
-/
import Derived.Test.YtlpnpecohndpbaaLsbFns
import Derived.Test.YtlpnpecohndpbaaPush
import Derived.Test.YtlpnpecohndpbaaMod
namespace Go.Proofs.Ytlpnpecohndpbaa
open Go Go.RowKit

theorem awake_dec1 : lsDecV 16 100 4 2 = 114 ∧ lsDecE 16 100 4 2 = 0 := by decide +kernel
theorem awake_dec2 : lsDecV 16 100 4 3 = 99 ∧ lsDecE 16 100 4 3 = 0 := by decide +kernel
theorem awake_least : lsLeast 16 [100, 104] 105 = 3 := by decide +kernel
theorem awake_off : offV 8 = 31 := by decide +kernel

set_option maxHeartbeats 1000000 in
theorem awake07_any (w : World) :
    Calls Try.prog 7 #[] w fun e w' => e = .returned (.bool true) ∧ Below w.heap.size w w' := by
  have S1 := Lib.hid (Sl.lit .i64 w [100, 104] 3 2 w.heap.size rfl rfl (by omega) (by decide))
  have B1 := Lib.hid ((Below.refl w.heap.size w).alloc (Nat.le_refl _) (.cells #[Value.int .i64 100, Value.int .i64 104] 3))
  go_enter Try.func7, Try.ntmps7
  go_wp2_with fail
  refine (lsDecode_any _ _ _ _ _).mono ?_
  rw [awake_dec1.1, awake_dec1.2]
  rintro e w' ⟨rfl, rfl⟩
  go_wp2_with fail
  refine (lsDecode_any _ _ _ _ _).mono ?_
  rw [awake_dec2.1, awake_dec2.2]
  rintro e w' ⟨rfl, rfl⟩
  go_wp2_with fail
  refine (lsLeast_any 16 105 _ _ _ [100, 104] _ S1.out).mono ?_
  rw [awake_least]
  rintro e w' ⟨rfl, rfl⟩
  go_wp2_with fail
  refine (Offset_any _ _).mono ?_
  rw [awake_off]
  rintro e w' ⟨rfl, rfl⟩
  go_wp2
  go_ret
  exact ⟨rfl, B1.out⟩
theorem awake07_b {W : World} (w : World) (hb : Below W.heap.size W w) :
    Calls Try.prog 7 #[] w fun e w' => e = .returned (.bool true) ∧ Below W.heap.size W w' ∧ Below w.heap.size w w' :=
  (awake07_any w).mono fun _ _ ⟨he, h⟩ => ⟨he, hb.trans (h.mono hb.size), h⟩

/-- the widths that a law draws of three -/
theorem wide3 (x : Int) : ∃ N : Nat, lsWide N = true ∧ N ≤ 32 ∧ 8 ≤ N ∧ ∀ W, Sem.run Try.prog (Instr.index 25 (.agg #[.int .i64 8, .int .i64 16, .int .i64 32]) (.int .i64 (x % 3))) W = .ok (.int .i64 N) W := by
  have h0 := Int.emod_nonneg x (show (3 : Int) ≠ 0 by omega)
  have h1 := Int.emod_lt_of_pos x (show (0 : Int) < 3 by omega)
  rcases (show x % 3 = 0 ∨ x % 3 = 1 ∨ x % 3 = 2 by omega) with h | h | h
  · exact ⟨8, by decide, by omega, by omega, fun W => by rw [h]; kernel_rfl⟩
  · exact ⟨16, by decide, by omega, by omega, fun W => by rw [h]; kernel_rfl⟩
  · exact ⟨32, by decide, by omega, by omega, fun W => by rw [h]; kernel_rfl⟩
end Go.Proofs.Ytlpnpecohndpbaa
