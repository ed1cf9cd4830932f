/-
  What Low and Distance of layer 2 return.
-/
import Derived.Test.YtlpnpecohndpbaaSerPlain
import Derived.Test.YtlpnpecohndpbaaProg
namespace Go.Proofs.Ytlpnpecohndpbaa
open Go Go.RowKit

theorem serWidth_any (n : Int) (w : World) :
    Calls Try.prog 26 #[.int .i64 n] w fun e w' => e = .returned (.bool (widB n)) ∧ w = w' := by
  by_cases h0 : 1 ≤ n
  · go_enter Try.func26, Try.ntmps26
    go_wp2
    go_ret
    exact ⟨ret_bool (by unfold widB; simp [h0]), rfl⟩
  · go_enter Try.func26, Try.ntmps26
    go_wp2
    go_ret
    exact ⟨ret_bool (by unfold widB; simp; omega), rfl⟩

theorem Low_any (n x : Int) (w : World) :
    Calls Try.prog 22 #[.int .i64 n, .int .i64 x] w fun e w' => e = .returned (.int .i64 (lowV n x)) ∧ w = w' := by
  by_cases h : 1 ≤ n ∧ n ≤ 32
  · have hb := widB_yes h
    obtain ⟨N, rfl⟩ := Int.eq_ofNat_of_zero_le (show 0 ≤ n by omega)
    go_enter Try.func22, Try.ntmps22
    go_wp2_with (go_at_call 26; refine (serWidth_any _ _).mono ?_; rintro e w' ⟨rfl, rfl⟩)
    go_ret
    refine ⟨ret_int ?_, rfl⟩
    show bits BinOp.and IntKind.i64 x (wrap64 (wrap64 (2 ^ N) - 1)) = _
    rw [wrap_imask N (by omega), i64_mask x N (by omega), lowV_nat N x (by omega)]
  · have hb := widB_no h
    rw [lowV_no x h]
    go_enter Try.func22, Try.ntmps22
    go_wp2_with (go_at_call 26; refine (serWidth_any _ _).mono ?_; rintro e w' ⟨rfl, rfl⟩)
    go_ret
    exact ⟨rfl, rfl⟩

theorem Distance_any (n a b : Int) (w : World) :
    Calls Try.prog 23 #[.int .i64 n, .int .i64 a, .int .i64 b] w fun e w' => e = .returned (.int .i64 (distV n a b)) ∧ w = w' := by
  have H := Lib.hid (low_wrap n (b - a))
  go_enter Try.func23, Try.ntmps23
  go_wp2_with (go_at_call 22; refine (Low_any _ _ _).mono ?_; rintro e w' ⟨rfl, rfl⟩)
  go_ret
  exact ⟨ret_int (H.out.trans (distV_low n a b).symm), rfl⟩

end Go.Proofs.Ytlpnpecohndpbaa
