/-
  Numbers modulo a power of two, plainly: what the functions of layer 2 return.
-/
import Derived.Test.YtadiaphpafkedaaBase
namespace Go.Proofs.Ytadiaphpafkedaa
open Go Go.RowKit

theorem ipow_nat (n : Nat) : ((2 : Int) ^ n) = ((2 ^ n : Nat) : Int) := by simp
theorem ipow_pos (n : Nat) : (1 : Int) ≤ 2 ^ n := by have := Nat.two_pow_pos n; rw [ipow_nat]; omega
theorem ipow_le (n m : Nat) (h : n ≤ m) : (2 : Int) ^ n ≤ 2 ^ m := by have := Nat.pow_le_pow_right (n := 2) (by decide) h; rw [ipow_nat, ipow_nat]; omega
theorem ipow_le32 (n : Nat) (h : n ≤ 32) : (2 : Int) ^ n ≤ 4294967296 := ipow_le n 32 h
theorem ipow_le31 (n : Nat) (h : n ≤ 31) : (2 : Int) ^ n ≤ 2147483648 := ipow_le n 31 h
theorem ipow_half (n : Nat) (h : 1 ≤ n) : (2 : Int) ^ n = 2 * 2 ^ (n - 1) := by
  obtain ⟨m, rfl⟩ : ∃ m, n = m + 1 := ⟨n - 1, by omega⟩
  rw [Int.pow_succ, Nat.add_sub_cancel]; omega
theorem ipow_dvd64 (n : Nat) (h : n ≤ 64) : (2 : Int) ^ n ∣ 18446744073709551616 := by
  have := Nat.pow_dvd_pow 2 h
  rw [ipow_nat]; exact Int.ofNat_dvd.2 this

theorem wrap_ipow (n : Nat) (h : n ≤ 32) : wrap64 (2 ^ n) = 2 ^ n := by
  have h1 := ipow_pos n
  have h2 := ipow_le32 n h
  generalize (2 : Int) ^ n = t at h1 h2
  exact IntWalk.wrap64_in _ ⟨by omega, by omega⟩
theorem wrap_imask (n : Nat) (h : n ≤ 32) : wrap64 (wrap64 (2 ^ n) - 1) = 2 ^ n - 1 := by
  rw [wrap_ipow n h]
  have h1 := ipow_pos n
  have h2 := ipow_le32 n h
  generalize (2 : Int) ^ n = t at h1 h2
  exact IntWalk.wrap64_in _ ⟨by omega, by omega⟩

/-- a mask cuts a number, also a negative one -/
theorem i64_mask (x : Int) (n : Nat) (hn : n ≤ 62) : bits .and .i64 x (2 ^ n - 1) = x % 2 ^ n := by
  have hp := Nat.two_pow_pos n
  have hq : (2 : Nat) ^ n ≤ 4611686018427387904 := Nat.pow_le_pow_right (n := 2) (by decide) hn
  have e : ((2 : Int) ^ n - 1) = ((2 ^ n - 1 : Nat) : Int) := by rw [ipow_nat]; omega
  have hd : ((2 ^ n : Nat) : Int) ∣ ((2 ^ 64 : Nat) : Int) := Int.ofNat_dvd.2 (Nat.pow_dvd_pow 2 (by omega))
  rw [e]
  show IntKind.i64.wrap ((BitVec.ofInt 64 x &&& BitVec.ofInt 64 ((2 ^ n - 1 : Nat) : Int)).toNat : Int) = _
  rw [BitVec.toNat_and, ofInt_i64 (2 ^ n - 1) (by omega), Nat.and_two_pow_sub_one_eq_mod, BitVec.toNat_ofInt]
  have e2 : (((x % ((2 ^ 64 : Nat) : Int)).toNat % 2 ^ n : Nat) : Int) = x % ((2 ^ n : Nat) : Int) := by
    have h0 : 0 ≤ x % ((2 ^ 64 : Nat) : Int) := Int.emod_nonneg _ (by decide)
    rw [Int.natCast_emod, Int.toNat_of_nonneg h0, Int.emod_emod_of_dvd _ hd]
  rw [e2, ipow_nat]
  have h1 : 0 ≤ x % ((2 ^ n : Nat) : Int) := Int.emod_nonneg _ (by omega)
  have h2 : x % ((2 ^ n : Nat) : Int) < ((2 ^ n : Nat) : Int) := Int.emod_lt_of_pos _ (by omega)
  generalize x % ((2 ^ n : Nat) : Int) = y at h1 h2
  rw [IntKind.wrap_i64]; omega

/-- a number that wraps around is the same one modulo a power of two -/
theorem wrap_mod (x : Int) (n : Nat) (hn : n ≤ 64) : wrap64 x % 2 ^ n = x % 2 ^ n := by
  have hd := ipow_dvd64 n hn
  have e : ∃ k, wrap64 x = x + 18446744073709551616 * k := by
    refine ⟨(wrap64 x - x) / 18446744073709551616, ?_⟩
    unfold wrap64; omega
  obtain ⟨k, e⟩ := e
  obtain ⟨q, hq⟩ := hd
  rw [e, hq, Int.mul_assoc, Int.add_mul_emod_self_left]

def widB (n : Int) : Bool := decide (1 ≤ n ∧ n ≤ 32)
theorem widB_yes {n : Int} (h : 1 ≤ n ∧ n ≤ 32) : widB n = true := by unfold widB; exact decide_eq_true h
theorem widB_no {n : Int} (h : ¬ (1 ≤ n ∧ n ≤ 32)) : widB n = false := by unfold widB; exact decide_eq_false h

def lowV (n x : Int) : Int := if 1 ≤ n ∧ n ≤ 32 then x % 2 ^ n.toNat else -1
def distV (n a b : Int) : Int := if 1 ≤ n ∧ n ≤ 32 then (b - a) % 2 ^ n.toNat else -1
def insV (n a x : Int) : Bool := decide ((1 ≤ n ∧ n ≤ 32) ∧ distV n a x < 2 ^ (n.toNat - 1))
def sigV (n a b : Int) : Int := if 1 ≤ n ∧ n ≤ 32 then (if distV n a b < 2 ^ (n.toNat - 1) then distV n a b else distV n a b - 2 ^ n.toNat) else 0
def nearB (n c : Int) : Bool := decide ((1 ≤ n ∧ n ≤ 32) ∧ -1099511627776 ≤ c ∧ c ≤ 1099511627776)
def nearV (n c x : Int) : Int := if nearB n c then c + sigV n c x else 0

theorem lowV_nat (N : Nat) (x : Int) (h : 1 ≤ N ∧ N ≤ 32) : lowV N x = x % 2 ^ N := by unfold lowV; rw [if_pos (by omega)]; simp
theorem distV_nat (N : Nat) (a b : Int) (h : 1 ≤ N ∧ N ≤ 32) : distV N a b = (b - a) % 2 ^ N := by unfold distV; rw [if_pos (by omega)]; simp
theorem lowV_no {n : Int} (x : Int) (h : ¬ (1 ≤ n ∧ n ≤ 32)) : lowV n x = -1 := by unfold lowV; rw [if_neg h]
theorem distV_no {n : Int} (a b : Int) (h : ¬ (1 ≤ n ∧ n ≤ 32)) : distV n a b = -1 := by unfold distV; rw [if_neg h]
theorem sigV_no {n : Int} (a b : Int) (h : ¬ (1 ≤ n ∧ n ≤ 32)) : sigV n a b = 0 := by unfold sigV; rw [if_neg h]
theorem insV_no {n : Int} (a b : Int) (h : ¬ (1 ≤ n ∧ n ≤ 32)) : insV n a b = false := by unfold insV; exact decide_eq_false (fun h' => h h'.1)
theorem nearB_no {n c : Int} (h : ¬ (1 ≤ n ∧ n ≤ 32)) : nearB n c = false := by unfold nearB; exact decide_eq_false (fun h' => h h'.1)
theorem nearB_far {n c : Int} (h : ¬ (-1099511627776 ≤ c ∧ c ≤ 1099511627776)) : nearB n c = false := by unfold nearB; exact decide_eq_false (fun h' => h h'.2)
theorem nearB_yes {n c : Int} (h : 1 ≤ n ∧ n ≤ 32) (h2 : -1099511627776 ≤ c ∧ c ≤ 1099511627776) : nearB n c = true := by unfold nearB; exact decide_eq_true ⟨h, h2⟩
theorem nearV_no {n c : Int} (x : Int) (h : nearB n c = false) : nearV n c x = 0 := by unfold nearV; rw [h]; rfl
theorem nearV_yes {n c : Int} (x : Int) (h : nearB n c = true) : nearV n c x = c + sigV n c x := by unfold nearV; rw [h]; rfl
theorem sigV_nat (N : Nat) (a b : Int) (h : 1 ≤ N ∧ N ≤ 32) : sigV N a b = if distV N a b < 2 ^ (N - 1) then distV N a b else distV N a b - 2 ^ N := by
  unfold sigV; rw [if_pos (by omega)]; simp
theorem insV_nat (N : Nat) (a b : Int) (h : 1 ≤ N ∧ N ≤ 32) : insV N a b = decide (distV N a b < 2 ^ (N - 1)) := by
  have h2 : (1 : Int) ≤ N ∧ (N : Int) ≤ 32 := by omega
  unfold insV; simp [h2]

theorem lowV_bd (n x : Int) : -1 ≤ lowV n x ∧ lowV n x ≤ 4294967295 := by
  by_cases h : 1 ≤ n ∧ n ≤ 32
  · obtain ⟨N, rfl⟩ := Int.eq_ofNat_of_zero_le (show 0 ≤ n by omega)
    rw [lowV_nat N x (by omega)]
    have h1 := ipow_pos N
    have h2 := ipow_le32 N (by omega)
    have h3 := Int.emod_nonneg x (show (2 : Int) ^ N ≠ 0 by omega)
    have h4 := Int.emod_lt_of_pos x (show (0 : Int) < 2 ^ N by omega)
    omega
  · rw [lowV_no x h]; omega
theorem distV_low (n a b : Int) : distV n a b = lowV n (b - a) := rfl
theorem distV_bd (n a b : Int) : -1 ≤ distV n a b ∧ distV n a b ≤ 4294967295 := lowV_bd n (b - a)
/-- the distance of two numbers' low bits -/
theorem dist_low (a b : Int) (N : Nat) : (b % 2 ^ N - a % 2 ^ N) % 2 ^ N = (b - a) % 2 ^ N := by
  rw [← Int.sub_emod]
theorem low_wrap (n x : Int) : lowV n (wrap64 x) = lowV n x := by
  unfold lowV
  split
  · exact wrap_mod x n.toNat (by omega)
  · rfl
theorem sigV_bd (n a b : Int) : -2147483648 ≤ sigV n a b ∧ sigV n a b ≤ 2147483647 := by
  by_cases h : 1 ≤ n ∧ n ≤ 32
  · obtain ⟨N, rfl⟩ := Int.eq_ofNat_of_zero_le (show 0 ≤ n by omega)
    rw [sigV_nat N a b (by omega), distV_nat N a b (by omega)]
    have h1 := ipow_pos (N - 1)
    have h2 := ipow_le31 (N - 1) (by omega)
    have h5 := ipow_half N (by omega)
    have h3 := Int.emod_nonneg (b - a) (show (2 : Int) ^ N ≠ 0 by omega)
    have h4 := Int.emod_lt_of_pos (b - a) (show (0 : Int) < 2 ^ N by omega)
    generalize (b - a) % 2 ^ N = d at h3 h4
    generalize (2 : Int) ^ N = t at h5 h4
    generalize (2 : Int) ^ (N - 1) = s at h1 h2 h5
    split <;> omega
  · rw [sigV_no a b h]; omega

/-- what is in the half windows around 0 is its own nearest number -/
theorem near_self (d t s : Int) (ht : t = 2 * s) (h1 : -s ≤ d) (h2 : d < s) : (if d % t < s then d % t else d % t - t) = d := by
  by_cases h : 0 ≤ d
  · rw [Int.emod_eq_of_lt h (by omega), if_pos h2]
  · have e : d % t = d + t := by
      rw [← Int.add_emod_right (b := t)]; exact Int.emod_eq_of_lt (by omega) (by omega)
    rw [e, if_neg (by omega)]; omega
/-- the distances of two numbers, from one to the other and back -/
theorem dist_back (x t : Int) (ht : 1 ≤ t) : (x % t = 0 → (-x) % t = 0) ∧ (x % t ≠ 0 → (-x) % t = t - x % t) := by
  have h0 := Int.emod_nonneg x (show t ≠ 0 by omega)
  have h1 := Int.emod_lt_of_pos x (show 0 < t by omega)
  have e : (-x) % t = (-(x % t)) % t := by
    have := Int.emod_emod_of_dvd x (Int.dvd_refl t)
    rw [Int.neg_emod_eq_sub_emod, Int.neg_emod_eq_sub_emod, Int.sub_emod, Int.sub_emod t (x % t), this]
  constructor
  · intro h; rw [e, h]; simp
  · intro h
    rw [e, ← Int.add_emod_right (b := t)]
    rw [Int.emod_eq_of_lt (by omega) (by omega)]; omega
end Go.Proofs.Ytadiaphpafkedaa
