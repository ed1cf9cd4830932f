/-
  What the document's own functions of layer 2 return, and the sanity check.
-/
import Derived.Test.YtphekpkkeiaccaaSerFns
namespace Go.Proofs.Ytphekpkkeiaccaa
open Go Go.RowKit

theorem refWidth_any (n : Int) (w : World) :
    Calls Try.prog 43 #[.int .i64 n] w fun e w' => e = .returned (.bool (widB n)) ∧ w = w' := by
  by_cases h0 : 1 ≤ n
  · go_enter Try.func43, Try.ntmps43
    go_wp2
    go_ret
    exact ⟨ret_bool (by unfold widB; simp [h0]), rfl⟩
  · go_enter Try.func43, Try.ntmps43
    go_wp2
    go_ret
    exact ⟨ret_bool (by unfold widB; simp; omega), rfl⟩

theorem refLow_any (n x : Int) (w : World) :
    Calls Try.prog 34 #[.int .i64 n, .int .i64 x] w fun e w' => e = .returned (.int .i64 (lowV n x)) ∧ w = w' := by
  by_cases h : 1 ≤ n ∧ n ≤ 32
  · have hb := widB_yes h
    obtain ⟨N, rfl⟩ := Int.eq_ofNat_of_zero_le (show 0 ≤ n by omega)
    go_enter Try.func34, Try.ntmps34
    go_wp2_with (go_at_call 43; refine (refWidth_any _ _).mono ?_; rintro e w' ⟨rfl, rfl⟩)
    go_ret
    refine ⟨ret_int ?_, rfl⟩
    show bits BinOp.and IntKind.i64 x (wrap64 (wrap64 (2 ^ N) - 1)) = _
    rw [wrap_imask N (by omega), i64_mask x N (by omega), lowV_nat N x (by omega)]
  · have hb := widB_no h
    rw [lowV_no x h]
    go_enter Try.func34, Try.ntmps34
    go_wp2_with (go_at_call 43; refine (refWidth_any _ _).mono ?_; rintro e w' ⟨rfl, rfl⟩)
    go_ret
    exact ⟨rfl, rfl⟩

set_option maxHeartbeats 400000 in
theorem refDistance_any (n a b : Int) (w : World) :
    Calls Try.prog 44 #[.int .i64 n, .int .i64 a, .int .i64 b] w fun e w' => e = .returned (.int .i64 (distV n a b)) ∧ w = w' := by
  by_cases h : 1 ≤ n ∧ n ≤ 32
  · have hb := widB_yes h
    obtain ⟨N, rfl⟩ := Int.eq_ofNat_of_zero_le (show 0 ≤ n by omega)
    have H1 := Lib.hid (lowV_nat N a (by omega))
    have H2 := Lib.hid (lowV_nat N b (by omega))
    have h1 := lowV_bd N a
    have h2 := lowV_bd N b
    go_enter Try.func44, Try.ntmps44
    go_wp2_with (first | (go_at_call 43; refine (refWidth_any _ _).mono ?_; rintro e w' ⟨rfl, rfl⟩) | (go_at_call 34; refine (refLow_any _ _ _).mono ?_; rintro e w' ⟨rfl, rfl⟩))
    go_ret
    refine ⟨ret_int ?_, rfl⟩
    show bits BinOp.and IntKind.i64 (lowV N b - lowV N a) (wrap64 (wrap64 (2 ^ N) - 1)) = _
    rw [wrap_imask N (by omega), i64_mask _ N (by omega), H1.out, H2.out, dist_low, distV_nat N a b (by omega)]
  · have hb := widB_no h
    rw [distV_no a b h]
    go_enter Try.func44, Try.ntmps44
    go_wp2_with (first | (go_at_call 43; refine (refWidth_any _ _).mono ?_; rintro e w' ⟨rfl, rfl⟩))
    go_ret
    exact ⟨rfl, rfl⟩

set_option maxHeartbeats 400000 in
theorem refSigned_any (n a b : Int) (w : World) :
    Calls Try.prog 32 #[.int .i64 n, .int .i64 a, .int .i64 b] w fun e w' => e = .returned (.int .i64 (sigV n a b)) ∧ w = w' := by
  by_cases h : 1 ≤ n ∧ n ≤ 32
  · have hb := widB_yes h
    have hd := distV_bd n a b
    obtain ⟨N, rfl⟩ := Int.eq_ofNat_of_zero_le (show 0 ≤ n by omega)
    have H := Lib.hid (sigV_nat N a b (by omega))
    have HP := Lib.hid (wrap_ipow (N - 1) (by omega))
    by_cases hlt : wrap64 (2 ^ (N - 1)) ≤ distV N a b
    · go_enter Try.func32, Try.ntmps32
      go_wp2_with (first | (go_at_call 43; refine (refWidth_any _ _).mono ?_; rintro e w' ⟨rfl, rfl⟩) | (go_at_call 44; refine (refDistance_any _ _ _ _).mono ?_; rintro e w' ⟨rfl, rfl⟩))
      go_ret
      refine ⟨ret_int ?_, rfl⟩
      rw [HP.out] at hlt
      rw [H.out, if_neg (by omega)]
      have h1 := ipow_pos N
      have h2 := ipow_le32 N (by omega)
      show wrap64 (distV N a b - wrap64 (2 ^ N)) = _
      rw [wrap_ipow N (by omega)]
      generalize (2 : Int) ^ N = t at h1 h2
      exact IntWalk.wrap64_in _ ⟨by omega, by omega⟩
    · go_enter Try.func32, Try.ntmps32
      go_wp2_with (first | (go_at_call 43; refine (refWidth_any _ _).mono ?_; rintro e w' ⟨rfl, rfl⟩) | (go_at_call 44; refine (refDistance_any _ _ _ _).mono ?_; rintro e w' ⟨rfl, rfl⟩))
      go_ret
      refine ⟨ret_int ?_, rfl⟩
      rw [HP.out] at hlt
      rw [H.out, if_pos (by omega)]
  · have hb := widB_no h
    rw [sigV_no a b h]
    go_enter Try.func32, Try.ntmps32
    go_wp2_with (first | (go_at_call 43; refine (refWidth_any _ _).mono ?_; rintro e w' ⟨rfl, rfl⟩))
    go_ret
    exact ⟨rfl, rfl⟩

end Go.Proofs.Ytphekpkkeiaccaa
