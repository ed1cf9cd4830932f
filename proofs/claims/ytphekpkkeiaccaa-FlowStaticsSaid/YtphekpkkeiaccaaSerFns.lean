/-
  What the functions of layer 2 return.
-/
import Derived.Test.YtphekpkkeiaccaaSerPlain
import Derived.Test.YtphekpkkeiaccaaProg
namespace Go.Proofs.Ytphekpkkeiaccaa
open Go Go.RowKit

theorem serWidth_any (n : Int) (w : World) :
    Calls Try.prog 45 #[.int .i64 n] w fun e w' => e = .returned (.bool (widB n)) ∧ w = w' := by
  by_cases h0 : 1 ≤ n
  · go_enter Try.func45, Try.ntmps45
    go_wp2
    go_ret
    exact ⟨ret_bool (by unfold widB; simp [h0]), rfl⟩
  · go_enter Try.func45, Try.ntmps45
    go_wp2
    go_ret
    exact ⟨ret_bool (by unfold widB; simp; omega), rfl⟩

theorem half_any (N : Nat) (w : World) (h : 1 ≤ N ∧ N ≤ 32) :
    Calls Try.prog 51 #[.int .i64 N] w fun e w' => e = .returned (.int .i64 (2 ^ (N - 1))) ∧ w = w' := by
  go_enter Try.func51, Try.ntmps51
  go_wp2
  go_ret
  exact ⟨ret_int (wrap_ipow (N - 1) (by omega)), rfl⟩

theorem Low_any (n x : Int) (w : World) :
    Calls Try.prog 33 #[.int .i64 n, .int .i64 x] w fun e w' => e = .returned (.int .i64 (lowV n x)) ∧ w = w' := by
  by_cases h : 1 ≤ n ∧ n ≤ 32
  · have hb := widB_yes h
    obtain ⟨N, rfl⟩ := Int.eq_ofNat_of_zero_le (show 0 ≤ n by omega)
    go_enter Try.func33, Try.ntmps33
    go_wp2_with (go_at_call 45; refine (serWidth_any _ _).mono ?_; rintro e w' ⟨rfl, rfl⟩)
    go_ret
    refine ⟨ret_int ?_, rfl⟩
    show bits BinOp.and IntKind.i64 x (wrap64 (wrap64 (2 ^ N) - 1)) = _
    rw [wrap_imask N (by omega), i64_mask x N (by omega), lowV_nat N x (by omega)]
  · have hb := widB_no h
    rw [lowV_no x h]
    go_enter Try.func33, Try.ntmps33
    go_wp2_with (go_at_call 45; refine (serWidth_any _ _).mono ?_; rintro e w' ⟨rfl, rfl⟩)
    go_ret
    exact ⟨rfl, rfl⟩

theorem Distance_any (n a b : Int) (w : World) :
    Calls Try.prog 50 #[.int .i64 n, .int .i64 a, .int .i64 b] w fun e w' => e = .returned (.int .i64 (distV n a b)) ∧ w = w' := by
  have H := Lib.hid (low_wrap n (b - a))
  go_enter Try.func50, Try.ntmps50
  go_wp2_with (go_at_call 33; refine (Low_any _ _ _).mono ?_; rintro e w' ⟨rfl, rfl⟩)
  go_ret
  exact ⟨ret_int (H.out.trans (distV_low n a b).symm), rfl⟩

set_option maxHeartbeats 400000 in
theorem Signed_any (n a b : Int) (w : World) :
    Calls Try.prog 40 #[.int .i64 n, .int .i64 a, .int .i64 b] w fun e w' => e = .returned (.int .i64 (sigV n a b)) ∧ w = w' := by
  by_cases h : 1 ≤ n ∧ n ≤ 32
  · have hb := widB_yes h
    have hd := distV_bd n a b
    obtain ⟨N, rfl⟩ := Int.eq_ofNat_of_zero_le (show 0 ≤ n by omega)
    have H := Lib.hid (sigV_nat N a b (by omega))
    by_cases hlt : distV N a b < 2 ^ (N - 1)
    · go_enter Try.func40, Try.ntmps40
      go_wp2_with (first | (go_at_call 45; refine (serWidth_any _ _).mono ?_; rintro e w' ⟨rfl, rfl⟩) | (go_at_call 50; refine (Distance_any _ _ _ _).mono ?_; rintro e w' ⟨rfl, rfl⟩) | (go_at_call 51; refine (half_any N _ (by omega)).mono ?_; rintro e w' ⟨rfl, rfl⟩))
      go_ret
      refine ⟨ret_int ?_, rfl⟩
      rw [H.out, if_pos hlt]
    · go_enter Try.func40, Try.ntmps40
      go_wp2_with (first | (go_at_call 45; refine (serWidth_any _ _).mono ?_; rintro e w' ⟨rfl, rfl⟩) | (go_at_call 50; refine (Distance_any _ _ _ _).mono ?_; rintro e w' ⟨rfl, rfl⟩) | (go_at_call 51; refine (half_any N _ (by omega)).mono ?_; rintro e w' ⟨rfl, rfl⟩))
      go_ret
      refine ⟨ret_int ?_, rfl⟩
      rw [H.out, if_neg (by omega)]
      have h1 := ipow_pos N
      have h2 := ipow_le32 N (by omega)
      show wrap64 (distV N a b - wrap64 (2 ^ N)) = _
      rw [wrap_ipow N (by omega)]
      generalize (2 : Int) ^ N = t at h1 h2
      exact IntWalk.wrap64_in _ ⟨by omega, by omega⟩
  · have hb := widB_no h
    rw [sigV_no a b h]
    go_enter Try.func40, Try.ntmps40
    go_wp2_with (first | (go_at_call 45; refine (serWidth_any _ _).mono ?_; rintro e w' ⟨rfl, rfl⟩))
    go_ret
    exact ⟨rfl, rfl⟩

end Go.Proofs.Ytphekpkkeiaccaa
