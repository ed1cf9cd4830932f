/-
  What Mod of the statements' own helpers returns.
-/
import Derived.Test.YtlpnpecohndpbaaBase
import Derived.Test.YtlpnpecohndpbaaProg
namespace Go.Proofs.Ytlpnpecohndpbaa
open Go Go.RowKit

set_option maxHeartbeats 400000 in
theorem mod_any (n m : Int) (w : World) (hm : 1 ≤ m) (hm2 : m ≤ 9223372036854775807) (_hn1 : -9223372036854775808 ≤ n) (_hn2 : n ≤ 9223372036854775807) :
    Calls Try.prog 8 #[.int .i64 n, .int .i64 m] w fun e w' => e = .returned (.int .i64 (n % m)) ∧ w = w' := by
  have t1 : -m < n.tmod m := Int.lt_tmod_of_pos _ (by omega)
  have t2 : n.tmod m < m := Int.tmod_lt_of_pos _ (by omega)
  go_enter Try.func8, Try.ntmps8
  go_wp2
  · go_ret
    exact ⟨ret_int (mod_neg n m hm (by assumption)), rfl⟩
  · go_ret
    exact ⟨ret_int (mod_pos n m hm (by assumption)), rfl⟩
end Go.Proofs.Ytlpnpecohndpbaa
