/-
  Least significant bits that are understood, plainly: what the functions of layer 7 return.
-/
import Derived.Test.YtlpnpecohndpbaaSerPlain
namespace Go.Proofs.Ytlpnpecohndpbaa
open Go Go.RowKit

def offV (k : Int) : Int := if 3 ≤ k ∧ k ≤ 32 then 2 ^ (k.toNat - 3) - 1 else -1
def lsWide (w : Int) : Bool := decide (w = 8 ∨ w = 16 ∨ w = 32)
def lsBits (w k : Int) : Bool := decide (3 ≤ k ∧ k ≤ w)
def lsBelow (n x : Int) : Bool := decide (0 ≤ x ∧ x < 2 ^ n.toNat)
def lsDecB (w r k l : Int) : Bool := lsBits w k && lsBelow w r && lsBelow k l
def lsDecE (w r k l : Int) : Int := if lsWide w then (if lsDecB w r k l then 0 else 3) else 7
def lsMean (w r k l : Int) : Int := lowV w (r - offV k + distV k (r - offV k) l)
def lsDecV (w r k l : Int) : Int := if lsWide w && lsDecB w r k l then lsMean w r k l else 0
def lsFit (w k v r : Int) : Bool := decide (lsDecE w r k (lowV k v) = 0) && decide (lsDecV w r k (lowV k v) = v)
def lsFitsTo (w k v : Int) (rs : List Int) : Nat → Bool
  | 0 => true
  | i + 1 => lsFitsTo w k v rs i && lsFit w k v (rs.getD i 0)
def lsSay (w k v : Int) : Bool := lsWide w && lsBits w k && lsBelow w v
def lsFits (w : Int) (rs : List Int) (k v : Int) : Bool := lsSay w k v && lsFitsTo w k v rs rs.length
def lsFrom (w : Int) (rs : List Int) (v : Int) : Nat → Int → Int
  | 0, _ => 0
  | n + 1, k => if lsFits w rs k v then k else lsFrom w rs v n (k + 1)
def lsLeast (w : Int) (rs : List Int) (v : Int) : Int := lsFrom w rs v 30 3

theorem offV_nat (K : Nat) (h : 3 ≤ K ∧ K ≤ 32) : offV K = 2 ^ (K - 3) - 1 := by unfold offV; rw [if_pos (by omega)]; simp
theorem offV_no {k : Int} (h : ¬ (3 ≤ k ∧ k ≤ 32)) : offV k = -1 := by unfold offV; rw [if_neg h]
theorem offV_bd (k : Int) : -1 ≤ offV k ∧ offV k ≤ 536870911 := by
  by_cases h : 3 ≤ k ∧ k ≤ 32
  · obtain ⟨K, rfl⟩ := Int.eq_ofNat_of_zero_le (show 0 ≤ k by omega)
    rw [offV_nat K (by omega)]
    have h1 := ipow_pos (K - 3)
    have h2 : (2 : Int) ^ (K - 3) ≤ 536870912 := ipow_le (K - 3) 29 (by omega)
    omega
  · rw [offV_no h]; omega
theorem lsWide_yes {w : Int} (h : w = 8 ∨ w = 16 ∨ w = 32) : lsWide w = true := decide_eq_true h
theorem lsWide_no {w : Int} (h : ¬ (w = 8 ∨ w = 16 ∨ w = 32)) : lsWide w = false := decide_eq_false h
theorem lsWide_of {w : Int} (h : lsWide w = true) : w = 8 ∨ w = 16 ∨ w = 32 := of_decide_eq_true h
theorem lsBits_yes {w k : Int} (h : 3 ≤ k ∧ k ≤ w) : lsBits w k = true := decide_eq_true h
theorem lsBits_no {w k : Int} (h : ¬ (3 ≤ k ∧ k ≤ w)) : lsBits w k = false := decide_eq_false h
theorem lsBits_of {w k : Int} (h : lsBits w k = true) : 3 ≤ k ∧ k ≤ w := of_decide_eq_true h
theorem lsBelow_nat (N : Nat) (x : Int) : lsBelow N x = decide (0 ≤ x ∧ x < 2 ^ N) := rfl
theorem lsBelow_of {n x : Int} (h : lsBelow n x = true) : 0 ≤ x ∧ x < 2 ^ n.toNat := of_decide_eq_true h
theorem lsBelow_yes {n x : Int} (h : 0 ≤ x ∧ x < 2 ^ n.toNat) : lsBelow n x = true := decide_eq_true h
theorem lsBelow_no {n x : Int} (h : ¬ (0 ≤ x ∧ x < 2 ^ n.toNat)) : lsBelow n x = false := decide_eq_false h
theorem lsBelow_lt {w x : Int} (hw : lsWide w = true) (h : lsBelow w x = true) : 0 ≤ x ∧ x ≤ 4294967295 := by
  have := lsBelow_of h
  have h2 := ipow_le32 w.toNat (by rcases lsWide_of hw with h | h | h <;> omega)
  omega
theorem lsBelow_bits {w k x : Int} (hw : lsWide w = true) (hk : lsBits w k = true) (h : lsBelow k x = true) : 0 ≤ x ∧ x ≤ 4294967295 := by
  have := lsBelow_of h
  have h3 := lsBits_of hk
  have h2 := ipow_le32 k.toNat (by rcases lsWide_of hw with h | h | h <;> omega)
  omega

theorem lsDec_kind {w r k l : Int} (h : lsWide w = false) : lsDecV w r k l = 0 ∧ lsDecE w r k l = 7 := by unfold lsDecV lsDecE; rw [h]; exact ⟨rfl, rfl⟩
theorem lsDec_range {w r k l : Int} (h : lsWide w = true) (h2 : lsDecB w r k l = false) : lsDecV w r k l = 0 ∧ lsDecE w r k l = 3 := by unfold lsDecV lsDecE; rw [h, h2]; exact ⟨rfl, rfl⟩
theorem lsDec_ok {w r k l : Int} (h : lsWide w = true) (h2 : lsDecB w r k l = true) : lsDecV w r k l = lsMean w r k l ∧ lsDecE w r k l = 0 := by unfold lsDecV lsDecE; rw [h, h2]; exact ⟨rfl, rfl⟩
theorem lsDecB_bits {w r k l : Int} (h : lsBits w k = false) : lsDecB w r k l = false := by unfold lsDecB; rw [h]; rfl
theorem lsDecB_ref {w r k l : Int} (h : lsBelow w r = false) : lsDecB w r k l = false := by unfold lsDecB; rw [h]; simp
theorem lsDecB_low {w r k l : Int} (h : lsBelow k l = false) : lsDecB w r k l = false := by unfold lsDecB; rw [h]; simp
theorem lsDecB_all {w r k l : Int} (h1 : lsBits w k = true) (h2 : lsBelow w r = true) (h3 : lsBelow k l = true) : lsDecB w r k l = true := by unfold lsDecB; rw [h1, h2, h3]; rfl

theorem lsFitsTo_le {w k v : Int} {rs : List Int} : ∀ {i n : Nat}, i ≤ n → lsFitsTo w k v rs n = true → lsFitsTo w k v rs i = true
  | i, 0, h, h2 => by
    obtain rfl : i = 0 := by omega
    exact h2
  | i, n + 1, h, h2 => by
    by_cases e : i = n + 1
    · rw [e]; exact h2
    · exact lsFitsTo_le (n := n) (by omega) (by simp only [lsFitsTo, Bool.and_eq_true] at h2; exact h2.1)
theorem lsFitsTo_no {w k v : Int} {rs : List Int} {i n : Nat} (h : i < n) (h2 : lsFit w k v (rs.getD i 0) = false) : lsFitsTo w k v rs n = false := by
  cases h3 : lsFitsTo w k v rs n with
  | false => rfl
  | true =>
    have := lsFitsTo_le (i := i + 1) (by omega) h3
    simp only [lsFitsTo, Bool.and_eq_true] at this
    rw [this.2] at h2; cases h2
theorem lsFitsTo_iff {w k v : Int} {rs : List Int} : ∀ {n : Nat}, lsFitsTo w k v rs n = true ↔ ∀ i, i < n → lsFit w k v (rs.getD i 0) = true
  | 0 => by simp [lsFitsTo]
  | n + 1 => by
    simp only [lsFitsTo, Bool.and_eq_true, lsFitsTo_iff (n := n)]
    constructor
    · rintro ⟨h1, h2⟩ i hi
      by_cases e : i = n
      · rw [e]; exact h2
      · exact h1 i (by omega)
    · intro h; exact ⟨fun i hi => h i (by omega), h n (by omega)⟩
theorem lsFits_say {w k v : Int} {rs : List Int} (h : lsSay w k v = false) : lsFits w rs k v = false := by unfold lsFits; rw [h]; rfl
theorem lsFits_to {w k v : Int} {rs : List Int} (h : lsSay w k v = true) : lsFits w rs k v = lsFitsTo w k v rs rs.length := by unfold lsFits; rw [h]; rfl
theorem lsSay_wide {w k v : Int} (h : lsWide w = false) : lsSay w k v = false := by unfold lsSay; rw [h]; rfl
theorem lsSay_bits {w k v : Int} (h : lsBits w k = false) : lsSay w k v = false := by unfold lsSay; rw [h]; simp
theorem lsSay_below {w k v : Int} (h : lsBelow w v = false) : lsSay w k v = false := by unfold lsSay; rw [h]; simp
theorem lsSay_all {w k v : Int} (h1 : lsWide w = true) (h2 : lsBits w k = true) (h3 : lsBelow w v = true) : lsSay w k v = true := by unfold lsSay; rw [h1, h2, h3]; rfl

theorem lsFrom_past {w v : Int} {rs : List Int} : ∀ (n : Nat) (k : Int), w < k → lsFrom w rs v n k = 0
  | 0, _, _ => rfl
  | n + 1, k, h => by
    simp only [lsFrom]
    rw [if_neg (by rw [lsFits_say (lsSay_bits (lsBits_no (by omega)))]; simp)]
    exact lsFrom_past n (k + 1) (by omega)
theorem lsFrom_wide {w v : Int} {rs : List Int} (h : lsWide w = false) : ∀ (n : Nat) (k : Int), lsFrom w rs v n k = 0
  | 0, _ => rfl
  | n + 1, k => by
    simp only [lsFrom]
    rw [if_neg (by rw [lsFits_say (lsSay_wide h)]; simp)]
    exact lsFrom_wide h n (k + 1)
theorem lsFrom_bd {w v : Int} {rs : List Int} : ∀ (n : Nat) (k : Int), lsFrom w rs v n k = 0 ∨ (k ≤ lsFrom w rs v n k ∧ lsFits w rs (lsFrom w rs v n k) v = true)
  | 0, _ => .inl rfl
  | n + 1, k => by
    simp only [lsFrom]
    split
    · rename_i h; exact .inr ⟨by omega, h⟩
    · rcases lsFrom_bd n (k + 1) with h | ⟨h1, h2⟩
      · exact .inl h
      · exact .inr ⟨by omega, h2⟩
/-- the first one that fits -/
theorem lsFrom_first {w v : Int} {rs : List Int} : ∀ (n : Nat) (k m : Int), k ≤ m → m < k + n → lsFits w rs m v = true → k ≤ lsFrom w rs v n k ∧ lsFrom w rs v n k ≤ m ∧ lsFits w rs (lsFrom w rs v n k) v = true ∧ ∀ j, k ≤ j → j < lsFrom w rs v n k → lsFits w rs j v = false
  | 0, k, m, h1, h2, _ => by omega
  | n + 1, k, m, h1, h2, h3 => by
    simp only [lsFrom]
    split
    · rename_i h; exact ⟨by omega, h1, h, fun j a b => by omega⟩
    · rename_i h
      have h4 : m ≠ k := fun e => h (e ▸ h3)
      obtain ⟨a, b, c, d⟩ := lsFrom_first n (k + 1) m (by omega) (by omega) h3
      refine ⟨by omega, b, c, fun j p q => ?_⟩
      by_cases e : j = k
      · rw [e]; simpa using h
      · exact d j (by omega) q
theorem lsLeast_bd {w v : Int} {rs : List Int} : 0 ≤ lsLeast w rs v ∧ lsLeast w rs v ≤ 32 := by
  unfold lsLeast
  rcases lsFrom_bd (w := w) (v := v) (rs := rs) 30 3 with h | ⟨h1, h2⟩
  · omega
  · have hs : lsSay w (lsFrom w rs v 30 3) v = true := by
      unfold lsFits at h2; simp only [Bool.and_eq_true] at h2; exact h2.1
    unfold lsSay at hs
    simp only [Bool.and_eq_true] at hs
    have hk := lsBits_of hs.1.2
    rcases lsWide_of hs.1.1 with e | e | e <;> omega
end Go.Proofs.Ytlpnpecohndpbaa
