/-
  The sanity check of layer 4.
-/
import Derived.Test.YtlofehjopdhkaaaSumFns
import Derived.Test.YtlofehjopdhkaaaMk
namespace Go.Proofs.Ytlofehjopdhkaaa
open Go Go.RowKit

theorem awake_sums : csV [] = 65535 ∧ foldI 65536 = 1 ∧ csV [0, 1] = 65534 := by decide +kernel

set_option maxHeartbeats 1000000 in
theorem awake04_any (w : World) :
    Calls Try.prog 11 #[] w fun e w' => e = .returned (.bool true) ∧ Below w.heap.size w w' := by
  have S1 := Lib.hid (fun w : World => Sl.lit .u8 w [0, 1] 5 2 w.heap.size rfl rfl (by omega) (by decide))
  have B1 := Lib.hid ((Below.refl w.heap.size w).alloc (Nat.le_refl _) (.cells #[Value.int .u8 0, Value.int .u8 1] 5))
  have S2 := fun W : World => (Mk.nil .u8 5 0 W).sl
  have S2 := Lib.hid S2
  have F := Lib.hid (awake_sums.2.1 ▸ Fold_any 65536 w (by omega))
  have C1 := Lib.hid (awake_sums.1 ▸ Sum_any none 0 0 [] w (S2.out _))
  have C2 := Lib.hid (awake_sums.2.2 ▸ Sum_any _ 2 2 [0, 1] _ (S1.out w))
  go_enter Try.func11, Try.ntmps11
  go_wp2_with (first
    | (go_at_call 16; ((with_reducible refine C1.out.mono ?_); rintro e w' ⟨rfl, rfl⟩))
    | (go_at_call 12; refine F.out.mono ?_; rintro e w' ⟨rfl, rfl⟩)
    | (go_at_call 16; refine C2.out.mono ?_; rintro e w' ⟨rfl, rfl⟩)
    | fail)
  go_ret
  exact ⟨rfl, B1.out⟩

theorem awake04_b {W : World} (w : World) (hb : Below W.heap.size W w) :
    Calls Try.prog 11 #[] w fun e w' => e = .returned (.bool true) ∧ Below W.heap.size W w' ∧ Below w.heap.size w w' :=
  (awake04_any w).mono fun _ _ ⟨he, h⟩ => ⟨he, hb.trans (h.mono hb.size), h⟩
end Go.Proofs.Ytlofehjopdhkaaa
