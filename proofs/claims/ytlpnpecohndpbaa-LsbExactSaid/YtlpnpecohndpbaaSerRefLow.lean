/-
  What Low and Distance of the document's own layer 2 return.
-/
import Derived.Test.YtlpnpecohndpbaaSerLow
namespace Go.Proofs.Ytlpnpecohndpbaa
open Go Go.RowKit

theorem refWidth_any (n : Int) (w : World) :
    Calls Try.prog 18 #[.int .i64 n] w fun e w' => e = .returned (.bool (widB n)) ∧ w = w' := by
  by_cases h0 : 1 ≤ n
  · go_enter Try.func18, Try.ntmps18
    go_wp2
    go_ret
    exact ⟨ret_bool (by unfold widB; simp [h0]), rfl⟩
  · go_enter Try.func18, Try.ntmps18
    go_wp2
    go_ret
    exact ⟨ret_bool (by unfold widB; simp; omega), rfl⟩

theorem refLow_any (n x : Int) (w : World) :
    Calls Try.prog 9 #[.int .i64 n, .int .i64 x] w fun e w' => e = .returned (.int .i64 (lowV n x)) ∧ w = w' := by
  by_cases h : 1 ≤ n ∧ n ≤ 32
  · have hb := widB_yes h
    obtain ⟨N, rfl⟩ := Int.eq_ofNat_of_zero_le (show 0 ≤ n by omega)
    go_enter Try.func9, Try.ntmps9
    go_wp2_with (go_at_call 18; refine (refWidth_any _ _).mono ?_; rintro e w' ⟨rfl, rfl⟩)
    go_ret
    refine ⟨ret_int ?_, rfl⟩
    show bits BinOp.and IntKind.i64 x (wrap64 (wrap64 (2 ^ N) - 1)) = _
    rw [wrap_imask N (by omega), i64_mask x N (by omega), lowV_nat N x (by omega)]
  · have hb := widB_no h
    rw [lowV_no x h]
    go_enter Try.func9, Try.ntmps9
    go_wp2_with (go_at_call 18; refine (refWidth_any _ _).mono ?_; rintro e w' ⟨rfl, rfl⟩)
    go_ret
    exact ⟨rfl, rfl⟩

set_option maxHeartbeats 400000 in
theorem refDistance_any (n a b : Int) (w : World) :
    Calls Try.prog 25 #[.int .i64 n, .int .i64 a, .int .i64 b] w fun e w' => e = .returned (.int .i64 (distV n a b)) ∧ w = w' := by
  by_cases h : 1 ≤ n ∧ n ≤ 32
  · have hb := widB_yes h
    obtain ⟨N, rfl⟩ := Int.eq_ofNat_of_zero_le (show 0 ≤ n by omega)
    have H1 := Lib.hid (lowV_nat N a (by omega))
    have H2 := Lib.hid (lowV_nat N b (by omega))
    have h1 := lowV_bd N a
    have h2 := lowV_bd N b
    go_enter Try.func25, Try.ntmps25
    go_wp2_with (first | (go_at_call 18; refine (refWidth_any _ _).mono ?_; rintro e w' ⟨rfl, rfl⟩) | (go_at_call 9; refine (refLow_any _ _ _).mono ?_; rintro e w' ⟨rfl, rfl⟩))
    go_ret
    refine ⟨ret_int ?_, rfl⟩
    show bits BinOp.and IntKind.i64 (lowV N b - lowV N a) (wrap64 (wrap64 (2 ^ N) - 1)) = _
    rw [wrap_imask N (by omega), i64_mask _ N (by omega), H1.out, H2.out, dist_low, distV_nat N a b (by omega)]
  · have hb := widB_no h
    rw [distV_no a b h]
    go_enter Try.func25, Try.ntmps25
    go_wp2_with (first | (go_at_call 18; refine (refWidth_any _ _).mono ?_; rintro e w' ⟨rfl, rfl⟩))
    go_ret
    exact ⟨rfl, rfl⟩

end Go.Proofs.Ytlpnpecohndpbaa
