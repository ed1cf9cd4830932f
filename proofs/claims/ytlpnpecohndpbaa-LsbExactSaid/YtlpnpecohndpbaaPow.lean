/-
  Powers of two as numbers of int: their size, a mask as '%', what wraps around.
-/
import Derived.Test.YtlpnpecohndpbaaBase
namespace Go.Proofs.Ytlpnpecohndpbaa
open Go Go.RowKit

theorem ipow_nat (n : Nat) : ((2 : Int) ^ n) = ((2 ^ n : Nat) : Int) := by simp
theorem ipow_pos (n : Nat) : (1 : Int) ≤ 2 ^ n := by have := Nat.two_pow_pos n; rw [ipow_nat]; omega
theorem ipow_le (n m : Nat) (h : n ≤ m) : (2 : Int) ^ n ≤ 2 ^ m := by have := Nat.pow_le_pow_right (n := 2) (by decide) h; rw [ipow_nat, ipow_nat]; omega
theorem ipow_le32 (n : Nat) (h : n ≤ 32) : (2 : Int) ^ n ≤ 4294967296 := ipow_le n 32 h
theorem ipow_le31 (n : Nat) (h : n ≤ 31) : (2 : Int) ^ n ≤ 2147483648 := ipow_le n 31 h
theorem ipow_half (n : Nat) (h : 1 ≤ n) : (2 : Int) ^ n = 2 * 2 ^ (n - 1) := by
  obtain ⟨m, rfl⟩ : ∃ m, n = m + 1 := ⟨n - 1, by omega⟩
  rw [Int.pow_succ, Nat.add_sub_cancel]; omega
theorem ipow_dvd64 (n : Nat) (h : n ≤ 64) : (2 : Int) ^ n ∣ 18446744073709551616 := by
  have := Nat.pow_dvd_pow 2 h
  rw [ipow_nat]; exact Int.ofNat_dvd.2 this

theorem wrap_ipow (n : Nat) (h : n ≤ 32) : wrap64 (2 ^ n) = 2 ^ n := by
  have h1 := ipow_pos n
  have h2 := ipow_le32 n h
  generalize (2 : Int) ^ n = t at h1 h2
  exact IntWalk.wrap64_in _ ⟨by omega, by omega⟩
theorem wrap_imask (n : Nat) (h : n ≤ 32) : wrap64 (wrap64 (2 ^ n) - 1) = 2 ^ n - 1 := by
  rw [wrap_ipow n h]
  have h1 := ipow_pos n
  have h2 := ipow_le32 n h
  generalize (2 : Int) ^ n = t at h1 h2
  exact IntWalk.wrap64_in _ ⟨by omega, by omega⟩

/-- a mask cuts a number, also a negative one -/
theorem i64_mask (x : Int) (n : Nat) (hn : n ≤ 62) : bits .and .i64 x (2 ^ n - 1) = x % 2 ^ n := by
  have hp := Nat.two_pow_pos n
  have hq : (2 : Nat) ^ n ≤ 4611686018427387904 := Nat.pow_le_pow_right (n := 2) (by decide) hn
  have e : ((2 : Int) ^ n - 1) = ((2 ^ n - 1 : Nat) : Int) := by rw [ipow_nat]; omega
  have hd : ((2 ^ n : Nat) : Int) ∣ ((2 ^ 64 : Nat) : Int) := Int.ofNat_dvd.2 (Nat.pow_dvd_pow 2 (by omega))
  rw [e]
  show IntKind.i64.wrap ((BitVec.ofInt 64 x &&& BitVec.ofInt 64 ((2 ^ n - 1 : Nat) : Int)).toNat : Int) = _
  rw [BitVec.toNat_and, ofInt_i64 (2 ^ n - 1) (by omega), Nat.and_two_pow_sub_one_eq_mod, BitVec.toNat_ofInt]
  have e2 : (((x % ((2 ^ 64 : Nat) : Int)).toNat % 2 ^ n : Nat) : Int) = x % ((2 ^ n : Nat) : Int) := by
    have h0 : 0 ≤ x % ((2 ^ 64 : Nat) : Int) := Int.emod_nonneg _ (by decide)
    rw [Int.natCast_emod, Int.toNat_of_nonneg h0, Int.emod_emod_of_dvd _ hd]
  rw [e2, ipow_nat]
  have h1 : 0 ≤ x % ((2 ^ n : Nat) : Int) := Int.emod_nonneg _ (by omega)
  have h2 : x % ((2 ^ n : Nat) : Int) < ((2 ^ n : Nat) : Int) := Int.emod_lt_of_pos _ (by omega)
  generalize x % ((2 ^ n : Nat) : Int) = y at h1 h2
  rw [IntKind.wrap_i64]; omega

/-- a number that wraps around is the same one modulo a power of two -/
theorem wrap_mod (x : Int) (n : Nat) (hn : n ≤ 64) : wrap64 x % 2 ^ n = x % 2 ^ n := by
  have hd := ipow_dvd64 n hn
  have e : ∃ k, wrap64 x = x + 18446744073709551616 * k := by
    refine ⟨(wrap64 x - x) / 18446744073709551616, ?_⟩
    unfold wrap64; omega
  obtain ⟨k, e⟩ := e
  obtain ⟨q, hq⟩ := hd
  rw [e, hq, Int.mul_assoc, Int.add_mul_emod_self_left]
end Go.Proofs.Ytlpnpecohndpbaa
