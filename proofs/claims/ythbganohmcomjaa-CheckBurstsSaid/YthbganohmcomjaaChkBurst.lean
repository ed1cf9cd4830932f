/-
  A change within the width, bit by bit, and what it does to the register.
-/
import Derived.Test.YthbganohmcomjaaChkFns
import Derived.Test.YthbganohmcomjaaPush
namespace Go.Proofs.Ythbganohmcomjaa
open Go Go.RowKit

/-- the byte with one bit turned, as the program counts it -/
def turned (y : Int) (p : Nat) : Int := bits .xor .u8 y (128 / 2 ^ (p % 8))
theorem pow_mask (s : Nat) (h : s < 8) : 128 / 2 ^ s = 2 ^ (7 - s) := by
  rcases (show s = 0 ∨ s = 1 ∨ s = 2 ∨ s = 3 ∨ s = 4 ∨ s = 5 ∨ s = 6 ∨ s = 7 by omega) with rfl | rfl | rfl | rfl | rfl | rfl | rfl | rfl <;> decide
theorem turned_nat (y : Int) (p : Nat) (h0 : 0 ≤ y) (h1 : y ≤ 255) : turned y p = ((y.toNat ^^^ 2 ^ (7 - p % 8) : Nat) : Int) := by
  obtain ⟨x, rfl⟩ := Int.eq_ofNat_of_zero_le h0
  have hp : 2 ^ (7 - p % 8) < 256 := Nat.pow_lt_pow_right (n := 8) (by omega) (by omega)
  unfold turned
  rw [show ((128 : Int) / 2 ^ (p % 8)) = ((128 / 2 ^ (p % 8) : Nat) : Int) by simp, pow_mask _ (by omega), u8_xor_nat _ _ (by omega) hp]
  rfl
theorem turned_byte (y : Int) (p : Nat) (h0 : 0 ≤ y) (h1 : y ≤ 255) : 0 ≤ turned y p ∧ turned y p ≤ 255 := by
  have hp : 2 ^ (7 - p % 8) < 256 := Nat.pow_lt_pow_right (n := 8) (by omega) (by omega)
  have := Nat.xor_lt_two_pow (n := 8) (x := y.toNat) (y := 2 ^ (7 - p % 8)) (by omega) hp
  rw [turned_nat y p h0 h1]
  omega

def flipTo (zs : List Int) (F U : Nat) : Nat → List Int
  | 0 => zs
  | i + 1 => if U.testBit i && decide (F + i < 8 * zs.length) then (flipTo zs F U i).set ((F + i) / 8) (turned ((flipTo zs F U i).getD ((F + i) / 8) 0) (F + i)) else flipTo zs F U i
def chgTo (n F U : Nat) : Nat → Bool
  | 0 => false
  | i + 1 => chgTo n F U i || (U.testBit i && decide (F + i < 8 * n))
theorem flipTo_len (zs : List Int) (F U i : Nat) : (flipTo zs F U i).length = zs.length := by
  induction i with
  | zero => rfl
  | succ i ih => unfold flipTo; split <;> simp [ih]
theorem chgTo_iff (n F U i : Nat) : chgTo n F U i = true ↔ ∃ j, j < i ∧ U.testBit j = true ∧ F + j < 8 * n := by
  induction i with
  | zero => simp [chgTo]
  | succ i ih =>
    simp only [chgTo, Bool.or_eq_true, ih, Bool.and_eq_true, decide_eq_true_eq]
    constructor
    · rintro (⟨j, h1, h2⟩ | h)
      · exact ⟨j, by omega, h2⟩
      · exact ⟨i, by omega, h⟩
    · rintro ⟨j, h1, h2⟩
      by_cases e : j = i
      · subst e; exact .inr h2
      · exact .inl ⟨j, by omega, h2⟩

theorem getD_set (l : List Int) (q i : Nat) (v : Int) (hq : q < l.length) : (l.set q v).getD i 0 = if q = i then v else l.getD i 0 := by
  rw [List.getD_eq_getElem?_getD, List.getElem?_set, List.getD_eq_getElem?_getD]
  split
  · rfl
  · rfl
theorem bytes_all {zs : List Int} (h : ∀ i, 0 ≤ zs.getD i 0 ∧ zs.getD i 0 ≤ 255) (F U i : Nat) : ∀ j, 0 ≤ (flipTo zs F U i).getD j 0 ∧ (flipTo zs F U i).getD j 0 ≤ 255 := by
  induction i with
  | zero => exact h
  | succ i ih =>
    intro j
    unfold flipTo
    split
    · rename_i hc
      have hc2 : F + i < 8 * zs.length := by simpa using (Bool.and_eq_true_iff.1 hc).2
      rw [getD_set _ _ _ _ (by rw [flipTo_len]; omega)]
      split
      · exact turned_byte _ _ (ih _).1 (ih _).2
      · exact ih j
    · exact ih j
theorem bit_flipTo {zs : List Int} (h : ∀ i, 0 ≤ zs.getD i 0 ∧ zs.getD i 0 ≤ 255) (F U i p : Nat) (hp : p < 8 * zs.length) : bitOf (flipTo zs F U i) p = Bool.xor (bitOf zs p) (decide (F ≤ p ∧ p < F + i) && U.testBit (p - F)) := by
  induction i with
  | zero =>
    have : decide (F ≤ p ∧ p < F + 0) = false := decide_eq_false (by omega)
    rw [this]; simp [flipTo]
  | succ i ih =>
    have old : ∀ (_ : ¬ (p = F + i ∧ U.testBit i = true)), bitOf (flipTo zs F U i) p = Bool.xor (bitOf zs p) (decide (F ≤ p ∧ p < F + (i + 1)) && U.testBit (p - F)) := by
      intro hne
      rw [ih]
      by_cases e : p = F + i
      · subst e
        have : U.testBit i = false := by cases hu : U.testBit i <;> simp_all
        simp [this]
      · have : decide (F ≤ p ∧ p < F + i) = decide (F ≤ p ∧ p < F + (i + 1)) := by rw [decide_eq_decide]; omega
        rw [this]
    unfold flipTo
    split
    · rename_i hc
      have hu := (Bool.and_eq_true_iff.1 hc).1
      have hb := bytes_all h F U i ((F + i) / 8)
      have hc2 : F + i < 8 * zs.length := by simpa using (Bool.and_eq_true_iff.1 hc).2
      unfold bitOf at old ih ⊢
      rw [getD_set _ _ _ _ (by rw [flipTo_len]; omega)]
      by_cases hq : (F + i) / 8 = p / 8
      · rw [if_pos hq, turned_nat _ _ hb.1 hb.2, Int.toNat_natCast, Nat.testBit_xor, hq]
        by_cases e : p = F + i
        · subst e
          rw [ih, Nat.testBit_two_pow_self]
          have h1 : decide (F ≤ F + i ∧ F + i < F + i) = false := decide_eq_false (by omega)
          have h2 : decide (F ≤ F + i ∧ F + i < F + (i + 1)) = true := decide_eq_true (by omega)
          rw [h1, h2, Nat.add_sub_cancel_left, hu]; simp
        · rw [Nat.testBit_two_pow_of_ne (by omega), Bool.xor_false]
          exact old (by omega)
      · rw [if_neg hq]
        exact old (by rintro ⟨e, _⟩; subst e; exact hq rfl)
    · rename_i hc
      refine old ?_
      rintro ⟨e, hu⟩
      subst e
      apply hc
      rw [hu]; simpa using hp

theorem xor_eq_zero (a b : Nat) : a ^^^ b = 0 ↔ a = b := by
  constructor
  · intro h
    have := congrArg (· ^^^ b) h
    simpa [Nat.xor_assoc] using this
  · rintro rfl; exact Nat.xor_self a

theorem burst_law {K P r : Nat} (hk : Kd K P) (zs : List Int) (h : ∀ i, 0 ≤ zs.getD i 0 ∧ zs.getD i 0 ≤ 255) (F U n : Nat) (hn : zs.length = n) (hF : F < 8 * n) :
    (regOf K P r zs = regOf K P r (flipTo zs F U K)) ↔ chgTo n F U K = false := by
  subst hn
  have e : regOf K P r zs ^^^ regOf K P r (flipTo zs F U K) = regs K P 0 (fun p => decide (F ≤ p ∧ p < F + K) && U.testBit (p - F)) (8 * zs.length) := by
    unfold regOf
    rw [flipTo_len, ← regs_xor, Nat.xor_self]
    refine regs_congr K P _ _ _ _ fun p hp => ?_
    rw [bit_flipTo h F U K p hp]
    cases bitOf zs p <;> simp
  rw [← xor_eq_zero, e]
  obtain ⟨m, q, hm, hmq, hq⟩ : ∃ m q, m ≤ K ∧ F + m + q = 8 * zs.length ∧ (m = K ∨ q = 0) := by
    rcases Nat.lt_or_ge (8 * zs.length) (F + K) with h1 | h1
    · exact ⟨8 * zs.length - F, 0, by omega, by omega, .inr rfl⟩
    · exact ⟨K, 8 * zs.length - F - K, by omega, by omega, .inl rfl⟩
  rw [← hmq, burst_ne hk.one hk.odd hk.lt _ F m q hm (fun i hi => by rw [decide_eq_false (by omega)]; rfl) (fun i hi => by rw [decide_eq_false (by omega)]; rfl)]
  rw [← Bool.not_eq_true, chgTo_iff]
  constructor
  · rintro h1 ⟨j, hj, hu, hl⟩
    have := h1 j (by omega)
    rw [decide_eq_true (by omega), Nat.add_sub_cancel_left, hu] at this
    cases this
  · intro h1 j hj
    rw [Nat.add_sub_cancel_left]
    cases hu : U.testBit j with
    | false => simp
    | true => exact (h1 ⟨j, by omega, hu, by omega⟩).elim
end Go.Proofs.Ythbganohmcomjaa
