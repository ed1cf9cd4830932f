/-
  The sanity check of layer 2.
-/
import Derived.Test.YtadiaphpafkedaaSerFns
namespace Go.Proofs.Ytadiaphpafkedaa
open Go Go.RowKit

theorem awake_near : nearV 5 100 1 = 97 ∧ nearB 5 100 = true := by decide +kernel
theorem awake_dist : distV 8 250 3 = 9 := by decide +kernel
theorem awake_sig : sigV 8 3 250 = -9 := by decide +kernel

theorem awake02_any (w : World) :
    Calls Try.prog 18 #[] w fun e w' => e = .returned (.bool true) ∧ w = w' := by
  go_enter Try.func18, Try.ntmps18
  go_wp2_with (first | (go_at_call 7; refine (Nearest_any _ _ _ _).mono ?_; rw [awake_near.1, awake_near.2]; rintro e w' ⟨rfl, rfl⟩) | (go_at_call 11; refine (Distance_any _ _ _ _).mono ?_; rw [awake_dist]; rintro e w' ⟨rfl, rfl⟩) | (go_at_call 15; refine (Signed_any _ _ _ _).mono ?_; rw [awake_sig]; rintro e w' ⟨rfl, rfl⟩))
  go_ret
  exact ⟨rfl, rfl⟩
end Go.Proofs.Ytadiaphpafkedaa
