/-
  Numbers modulo a power of two, plainly: what the functions of layer 2 return.
-/
import Derived.Test.YtlpnpecohndpbaaPow
namespace Go.Proofs.Ytlpnpecohndpbaa
open Go Go.RowKit

def widB (n : Int) : Bool := decide (1 ≤ n ∧ n ≤ 32)
theorem widB_yes {n : Int} (h : 1 ≤ n ∧ n ≤ 32) : widB n = true := by unfold widB; exact decide_eq_true h
theorem widB_no {n : Int} (h : ¬ (1 ≤ n ∧ n ≤ 32)) : widB n = false := by unfold widB; exact decide_eq_false h

def lowV (n x : Int) : Int := if 1 ≤ n ∧ n ≤ 32 then x % 2 ^ n.toNat else -1
def distV (n a b : Int) : Int := if 1 ≤ n ∧ n ≤ 32 then (b - a) % 2 ^ n.toNat else -1
def insV (n a x : Int) : Bool := decide ((1 ≤ n ∧ n ≤ 32) ∧ distV n a x < 2 ^ (n.toNat - 1))
def sigV (n a b : Int) : Int := if 1 ≤ n ∧ n ≤ 32 then (if distV n a b < 2 ^ (n.toNat - 1) then distV n a b else distV n a b - 2 ^ n.toNat) else 0
def nearB (n c : Int) : Bool := decide ((1 ≤ n ∧ n ≤ 32) ∧ -1099511627776 ≤ c ∧ c ≤ 1099511627776)
def nearV (n c x : Int) : Int := if nearB n c then c + sigV n c x else 0

theorem lowV_nat (N : Nat) (x : Int) (h : 1 ≤ N ∧ N ≤ 32) : lowV N x = x % 2 ^ N := by unfold lowV; rw [if_pos (by omega)]; simp
theorem distV_nat (N : Nat) (a b : Int) (h : 1 ≤ N ∧ N ≤ 32) : distV N a b = (b - a) % 2 ^ N := by unfold distV; rw [if_pos (by omega)]; simp
theorem lowV_no {n : Int} (x : Int) (h : ¬ (1 ≤ n ∧ n ≤ 32)) : lowV n x = -1 := by unfold lowV; rw [if_neg h]
theorem distV_no {n : Int} (a b : Int) (h : ¬ (1 ≤ n ∧ n ≤ 32)) : distV n a b = -1 := by unfold distV; rw [if_neg h]
theorem sigV_no {n : Int} (a b : Int) (h : ¬ (1 ≤ n ∧ n ≤ 32)) : sigV n a b = 0 := by unfold sigV; rw [if_neg h]
theorem insV_no {n : Int} (a b : Int) (h : ¬ (1 ≤ n ∧ n ≤ 32)) : insV n a b = false := by unfold insV; exact decide_eq_false (fun h' => h h'.1)
theorem nearB_no {n c : Int} (h : ¬ (1 ≤ n ∧ n ≤ 32)) : nearB n c = false := by unfold nearB; exact decide_eq_false (fun h' => h h'.1)
theorem nearB_far {n c : Int} (h : ¬ (-1099511627776 ≤ c ∧ c ≤ 1099511627776)) : nearB n c = false := by unfold nearB; exact decide_eq_false (fun h' => h h'.2)
theorem nearB_yes {n c : Int} (h : 1 ≤ n ∧ n ≤ 32) (h2 : -1099511627776 ≤ c ∧ c ≤ 1099511627776) : nearB n c = true := by unfold nearB; exact decide_eq_true ⟨h, h2⟩
theorem nearV_no {n c : Int} (x : Int) (h : nearB n c = false) : nearV n c x = 0 := by unfold nearV; rw [h]; rfl
theorem nearV_yes {n c : Int} (x : Int) (h : nearB n c = true) : nearV n c x = c + sigV n c x := by unfold nearV; rw [h]; rfl
theorem sigV_nat (N : Nat) (a b : Int) (h : 1 ≤ N ∧ N ≤ 32) : sigV N a b = if distV N a b < 2 ^ (N - 1) then distV N a b else distV N a b - 2 ^ N := by
  unfold sigV; rw [if_pos (by omega)]; simp
theorem insV_nat (N : Nat) (a b : Int) (h : 1 ≤ N ∧ N ≤ 32) : insV N a b = decide (distV N a b < 2 ^ (N - 1)) := by
  have h2 : (1 : Int) ≤ N ∧ (N : Int) ≤ 32 := by omega
  unfold insV; simp [h2]

theorem lowV_bd (n x : Int) : -1 ≤ lowV n x ∧ lowV n x ≤ 4294967295 := by
  by_cases h : 1 ≤ n ∧ n ≤ 32
  · obtain ⟨N, rfl⟩ := Int.eq_ofNat_of_zero_le (show 0 ≤ n by omega)
    rw [lowV_nat N x (by omega)]
    have h1 := ipow_pos N
    have h2 := ipow_le32 N (by omega)
    have h3 := Int.emod_nonneg x (show (2 : Int) ^ N ≠ 0 by omega)
    have h4 := Int.emod_lt_of_pos x (show (0 : Int) < 2 ^ N by omega)
    omega
  · rw [lowV_no x h]; omega
theorem distV_low (n a b : Int) : distV n a b = lowV n (b - a) := rfl
theorem distV_bd (n a b : Int) : -1 ≤ distV n a b ∧ distV n a b ≤ 4294967295 := lowV_bd n (b - a)
/-- the distance of two numbers' low bits -/
theorem dist_low (a b : Int) (N : Nat) : (b % 2 ^ N - a % 2 ^ N) % 2 ^ N = (b - a) % 2 ^ N := by
  rw [← Int.sub_emod]
theorem low_wrap (n x : Int) : lowV n (wrap64 x) = lowV n x := by
  unfold lowV
  split
  · exact wrap_mod x n.toNat (by omega)
  · rfl
theorem sigV_bd (n a b : Int) : -2147483648 ≤ sigV n a b ∧ sigV n a b ≤ 2147483647 := by
  by_cases h : 1 ≤ n ∧ n ≤ 32
  · obtain ⟨N, rfl⟩ := Int.eq_ofNat_of_zero_le (show 0 ≤ n by omega)
    rw [sigV_nat N a b (by omega), distV_nat N a b (by omega)]
    have h1 := ipow_pos (N - 1)
    have h2 := ipow_le31 (N - 1) (by omega)
    have h5 := ipow_half N (by omega)
    have h3 := Int.emod_nonneg (b - a) (show (2 : Int) ^ N ≠ 0 by omega)
    have h4 := Int.emod_lt_of_pos (b - a) (show (0 : Int) < 2 ^ N by omega)
    generalize (b - a) % 2 ^ N = d at h3 h4
    generalize (2 : Int) ^ N = t at h5 h4
    generalize (2 : Int) ^ (N - 1) = s at h1 h2 h5
    split <;> omega
  · rw [sigV_no a b h]; omega

/-- what is in the half windows around 0 is its own nearest number -/
theorem near_self (d t s : Int) (ht : t = 2 * s) (h1 : -s ≤ d) (h2 : d < s) : (if d % t < s then d % t else d % t - t) = d := by
  by_cases h : 0 ≤ d
  · rw [Int.emod_eq_of_lt h (by omega), if_pos h2]
  · have e : d % t = d + t := by
      rw [← Int.add_emod_right (b := t)]; exact Int.emod_eq_of_lt (by omega) (by omega)
    rw [e, if_neg (by omega)]; omega
/-- the distances of two numbers, from one to the other and back -/
theorem dist_back (x t : Int) (ht : 1 ≤ t) : (x % t = 0 → (-x) % t = 0) ∧ (x % t ≠ 0 → (-x) % t = t - x % t) := by
  have h0 := Int.emod_nonneg x (show t ≠ 0 by omega)
  have h1 := Int.emod_lt_of_pos x (show 0 < t by omega)
  have e : (-x) % t = (-(x % t)) % t := by
    have := Int.emod_emod_of_dvd x (Int.dvd_refl t)
    rw [Int.neg_emod_eq_sub_emod, Int.neg_emod_eq_sub_emod, Int.sub_emod, Int.sub_emod t (x % t), this]
  constructor
  · intro h; rw [e, h]; simp
  · intro h
    rw [e, ← Int.add_emod_right (b := t)]
    rw [Int.emod_eq_of_lt (by omega) (by omega)]; omega
end Go.Proofs.Ytlpnpecohndpbaa
