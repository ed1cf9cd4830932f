/-
  Check values: the register as a natural number, bit by bit; what two strings, a change within the width, and a check value at the end do.
-/
import Derived.Test.YthbganohmcomjaaBase
namespace Go.Proofs.Ythbganohmcomjaa
open Go Go.RowKit

def ckStep (k P r : Nat) (b : Bool) : Nat := (2 * r % 2 ^ k) ^^^ (if Bool.xor (r.testBit (k - 1)) b then P else 0)
def regs (k P r : Nat) (f : Nat → Bool) : Nat → Nat
  | 0 => r
  | n + 1 => ckStep k P (regs k P r f n) (f n)
def zer : Nat → Bool := fun _ => false

theorem ckStep_lt {k P : Nat} (hP : P < 2 ^ k) (r : Nat) (b : Bool) : ckStep k P r b < 2 ^ k := by
  unfold ckStep
  refine Nat.xor_lt_two_pow (Nat.mod_lt _ (Nat.two_pow_pos k)) ?_
  split
  · exact hP
  · exact Nat.two_pow_pos k
theorem regs_lt {k P r : Nat} (hP : P < 2 ^ k) (hr : r < 2 ^ k) (f : Nat → Bool) (n : Nat) : regs k P r f n < 2 ^ k := by
  cases n with
  | zero => exact hr
  | succ n => exact ckStep_lt hP _ _

theorem ckStep_xor (k P r s : Nat) (b c : Bool) : ckStep k P (r ^^^ s) (Bool.xor b c) = ckStep k P r b ^^^ ckStep k P s c := by
  unfold ckStep
  have e1 : 2 * (r ^^^ s) % 2 ^ k = (2 * r % 2 ^ k) ^^^ (2 * s % 2 ^ k) := by
    have h (x : Nat) : 2 * x = x <<< 1 := by rw [Nat.shiftLeft_eq]; omega
    rw [h, h, h, Nat.shiftLeft_xor_distrib, Nat.xor_mod_two_pow]
  rw [e1, Nat.testBit_xor]
  generalize 2 * r % 2 ^ k = x
  generalize 2 * s % 2 ^ k = y
  have h2 : x ^^^ y = (x ^^^ P) ^^^ (y ^^^ P) := by
    rw [Nat.xor_assoc x P, ← Nat.xor_assoc P y P, Nat.xor_comm P y, Nat.xor_assoc y P P, Nat.xor_self, Nat.xor_zero]
  have h3 : x ^^^ (y ^^^ P) = x ^^^ (P ^^^ y) := by rw [Nat.xor_comm y P]
  have h4 : x ^^^ y = x ^^^ (P ^^^ (y ^^^ P)) := by rw [h2, Nat.xor_assoc]
  cases r.testBit (k - 1) <;> cases s.testBit (k - 1) <;> cases b <;> cases c <;> simp [Nat.xor_assoc] <;> first | exact h3 | exact h3.symm | exact h4 | skip

theorem regs_xor (k P r s : Nat) (f g : Nat → Bool) (n : Nat) : regs k P (r ^^^ s) (fun i => Bool.xor (f i) (g i)) n = regs k P r f n ^^^ regs k P s g n := by
  induction n with
  | zero => rfl
  | succ n ih => show ckStep k P (regs k P (r ^^^ s) _ n) (Bool.xor (f n) (g n)) = _; rw [ih, ckStep_xor]; rfl
theorem regs_congr (k P r : Nat) (f g : Nat → Bool) (n : Nat) (h : ∀ i, i < n → f i = g i) : regs k P r f n = regs k P r g n := by
  induction n with
  | zero => rfl
  | succ n ih => show ckStep k P (regs k P r f n) (f n) = ckStep k P (regs k P r g n) (g n); rw [ih (fun i hi => h i (by omega)), h n (by omega)]
theorem regs_add (k P r : Nat) (f : Nat → Bool) (n m : Nat) : regs k P r f (n + m) = regs k P (regs k P r f n) (fun i => f (n + i)) m := by
  induction m with
  | zero => rfl
  | succ m ih => show ckStep k P (regs k P r f (n + m)) (f (n + m)) = _; rw [ih]; rfl

theorem ckStep_zero (k P : Nat) : ckStep k P 0 false = 0 := by simp [ckStep]
theorem regs_zero (k P n : Nat) : regs k P 0 zer n = 0 := by
  induction n with
  | zero => rfl
  | succ n ih => show ckStep k P (regs k P 0 zer n) false = 0; rw [ih, ckStep_zero]
theorem regs_zero_of (k P : Nat) (f : Nat → Bool) (n : Nat) (h : ∀ i, i < n → f i = false) : regs k P 0 f n = 0 := by
  rw [regs_congr k P 0 f zer n h, regs_zero]

theorem ckStep_inj {k P r : Nat} (hk : 1 ≤ k) (hP : P % 2 = 1) (hr : r < 2 ^ k) (h : ckStep k P r false = 0) : r = 0 := by
  unfold ckStep at h
  obtain ⟨j, rfl⟩ : ∃ j, k = j + 1 := ⟨k - 1, by omega⟩
  rw [Nat.add_sub_cancel] at h
  have hm : 2 * r % 2 ^ (j + 1) % 2 = 0 := by
    rw [Nat.pow_succ, Nat.mul_comm (2 ^ j) 2, Nat.mul_mod_mul_left]; omega
  cases ht : r.testBit j with
  | true =>
    rw [ht] at h
    simp only [Bool.xor_false, if_true] at h
    have e : 2 * r % 2 ^ (j + 1) = P := by
      have := congrArg (· ^^^ P) h
      simpa [Nat.xor_assoc] using this
    omega
  | false =>
    rw [ht] at h
    simp only [Bool.xor_false, Bool.false_eq_true, if_false, Nat.xor_zero] at h
    have hlt : r < 2 ^ j := by
      refine Nat.lt_of_not_le fun hle => ?_
      have h1 : r.testBit j = true := by
        rw [Nat.testBit_eq_decide_div_mod_eq]
        have h2 : r / 2 ^ j = 1 := by
          have : r / 2 ^ j < 2 := Nat.div_lt_of_lt_mul (by rw [← Nat.pow_succ]; exact hr)
          have : 1 ≤ r / 2 ^ j := (Nat.le_div_iff_mul_le (Nat.two_pow_pos j)).2 (by omega)
          omega
        rw [h2]; rfl
      rw [h1] at ht; cases ht
    rw [Nat.mod_eq_of_lt (by rw [Nat.pow_succ]; omega)] at h
    omega
theorem regs_inj {k P r : Nat} (hk : 1 ≤ k) (hP : P % 2 = 1) (hP2 : P < 2 ^ k) (hr : r < 2 ^ k) (n : Nat) (h : regs k P r zer n = 0) : r = 0 := by
  induction n with
  | zero => exact h
  | succ n ih => exact ih (ckStep_inj hk hP (regs_lt hP2 hr zer n) h)

theorem regs_shl (k P j m : Nat) (h : j + m + 1 ≤ k) : regs k P (2 ^ j) zer m = 2 ^ (j + m) := by
  induction m with
  | zero => rfl
  | succ m ih =>
    show ckStep k P (regs k P (2 ^ j) zer m) false = _
    rw [ih (by omega)]
    unfold ckStep
    have h1 : (2 ^ (j + m)).testBit (k - 1) = false := Nat.testBit_two_pow_of_ne (by omega)
    have h2 : 2 * 2 ^ (j + m) = 2 ^ (j + (m + 1)) := by rw [← Nat.add_assoc, Nat.pow_succ]; omega
    rw [h1, h2, Nat.mod_eq_of_lt (Nat.pow_lt_pow_right (by omega) (by omega))]
    simp
theorem ckStep_top {k : Nat} (P : Nat) (hk : 1 ≤ k) : ckStep k P (2 ^ (k - 1)) false = ckStep k P 0 true := by
  unfold ckStep
  rw [Nat.testBit_two_pow_self]
  have : 2 * 2 ^ (k - 1) = 2 ^ k := by
    obtain ⟨j, rfl⟩ : ∃ j, k = j + 1 := ⟨k - 1, by omega⟩
    rw [Nat.add_sub_cancel, Nat.pow_succ]; omega
  rw [this, Nat.mod_self]
  simp

/-- the first m bits as they stand in a register -/
def ld (k : Nat) (f : Nat → Bool) : Nat → Nat
  | 0 => 0
  | m + 1 => ld k f m ^^^ (if f m then 2 ^ (k - 1 - m) else 0)
theorem testBit_ld (k : Nat) (f : Nat → Bool) (m j : Nat) (hm : m ≤ k) : (ld k f m).testBit j = (decide (j < k) && decide (k ≤ m + j) && f (k - 1 - j)) := by
  induction m with
  | zero =>
    show Nat.testBit 0 j = _
    rw [Nat.zero_testBit]
    by_cases h : j < k
    · simp; omega
    · simp [h]
  | succ m ih =>
    show (ld k f m ^^^ _).testBit j = _
    rw [Nat.testBit_xor, ih (by omega)]
    by_cases hj : j = k - 1 - m
    · subst hj
      have e : k - 1 - (k - 1 - m) = m := by omega
      rw [e]
      have h1 : decide (k ≤ m + (k - 1 - m)) = false := decide_eq_false (by omega)
      have h2 : decide (k ≤ m + 1 + (k - 1 - m)) = true := decide_eq_true (by omega)
      have h3 : decide (k - 1 - m < k) = true := decide_eq_true (by omega)
      rw [h1, h2, h3]
      cases f m
      · simp
      · simp [Nat.testBit_two_pow_self]
    · have h0 : (if f m = true then 2 ^ (k - 1 - m) else 0).testBit j = false := by
        split
        · exact Nat.testBit_two_pow_of_ne (by omega)
        · exact Nat.zero_testBit j
      rw [h0, Bool.xor_false]
      by_cases h : j < k
      · have : decide (k ≤ m + j) = decide (k ≤ m + 1 + j) := by
          rw [decide_eq_decide]; omega
        rw [this]
      · simp [h]
theorem ld_lt (k : Nat) (f : Nat → Bool) (m : Nat) (hm : m ≤ k) : ld k f m < 2 ^ k := by
  refine Nat.lt_pow_two_of_testBit _ fun j hj => ?_
  rw [testBit_ld k f m j hm]
  simp; omega
theorem regs_ld {k : Nat} (P r : Nat) (f : Nat → Bool) (m : Nat) (hm : m ≤ k) : regs k P r f m = regs k P (r ^^^ ld k f m) zer m := by
  induction m with
  | zero => show r = r ^^^ 0; simp
  | succ m ih =>
    show ckStep k P (regs k P r f m) (f m) = ckStep k P (regs k P (r ^^^ (ld k f m ^^^ _)) zer m) false
    rw [ih (by omega)]
    cases f m
    · simp
    · simp only [if_true]
      have e : regs k P (r ^^^ (ld k f m ^^^ 2 ^ (k - 1 - m))) zer m = regs k P (r ^^^ ld k f m) zer m ^^^ regs k P (2 ^ (k - 1 - m)) zer m := by
        rw [← Nat.xor_assoc]
        exact regs_xor k P (r ^^^ ld k f m) (2 ^ (k - 1 - m)) zer zer m
      rw [e, regs_shl k P _ m (by omega), show k - 1 - m + m = k - 1 by omega]
      generalize regs k P (r ^^^ ld k f m) zer m = A
      have h1 := ckStep_xor k P A (2 ^ (k - 1)) false false
      have h2 := ckStep_xor k P A 0 false true
      rw [ckStep_top P (by omega)] at h1
      rw [Nat.xor_zero] at h2
      exact h2.trans h1.symm

/-- A change of m bits, at most as many as the width, of which one is set, followed by any number of bits without change. -/
theorem burst_ne {k P : Nat} (hk : 1 ≤ k) (hP : P % 2 = 1) (hP2 : P < 2 ^ k) (f : Nat → Bool) (p m q : Nat) (hm : m ≤ k) (h1 : ∀ i, i < p → f i = false) (h3 : ∀ i, i < q → f (p + m + i) = false) :
    regs k P 0 f (p + m + q) = 0 ↔ ∀ i, i < m → f (p + i) = false := by
  rw [regs_add, regs_add, regs_zero_of k P f p h1, regs_ld P 0 _ m hm, Nat.zero_xor]
  rw [regs_congr k P _ _ zer q h3]
  constructor
  · intro h i hi
    have h4 := regs_inj hk hP hP2 (regs_lt hP2 (ld_lt k _ m hm) zer m) q h
    have h5 := regs_inj hk hP hP2 (ld_lt k _ m hm) m h4
    have h6 := testBit_ld k (fun i => f (p + i)) m (k - 1 - i) hm
    rw [h5, Nat.zero_testBit, show k - 1 - (k - 1 - i) = i by omega, decide_eq_true (by omega), decide_eq_true (by omega)] at h6
    simpa using h6.symm
  · intro h
    have h5 : ld k (fun i => f (p + i)) m = 0 := by
      refine Nat.eq_of_testBit_eq fun j => ?_
      rw [testBit_ld k _ m j hm, Nat.zero_testBit]
      by_cases hj : j < k ∧ k ≤ m + j
      · simp [h (k - 1 - j) (by omega)]
      · simp; omega
    rw [h5, regs_zero, regs_zero]

/-- k bits more: what leads to 0 is the register itself, and nothing else -/
theorem own_zero {k P r : Nat} (hk : 1 ≤ k) (hP : P % 2 = 1) (hP2 : P < 2 ^ k) (hr : r < 2 ^ k) (v : Nat) (hv : v < 2 ^ k) (f : Nat → Bool) (h : ∀ i, i < k → f i = v.testBit (k - 1 - i)) :
    regs k P r f k = 0 ↔ v = r := by
  have e : ld k f k = v := by
    refine Nat.eq_of_testBit_eq fun j => ?_
    rw [testBit_ld k f k j (Nat.le_refl _)]
    by_cases hj : j < k
    · rw [h _ (by omega), show k - 1 - (k - 1 - j) = j by omega, decide_eq_true hj, decide_eq_true (by omega)]; simp
    · rw [Nat.testBit_lt_two_pow (Nat.lt_of_lt_of_le hv (Nat.pow_le_pow_right (by omega) (by omega)))]
      simp [hj]
  rw [regs_ld P r f k (Nat.le_refl _), e]
  constructor
  · intro h
    have h4 := regs_inj hk hP hP2 (Nat.xor_lt_two_pow hr hv) k h
    have := congrArg (r ^^^ ·) h4
    simpa [← Nat.xor_assoc] using this
  · rintro rfl
    rw [Nat.xor_self, regs_zero]

/-! ### bytes -/
def bitOf (zs : List Int) (p : Nat) : Bool := (zs.getD (p / 8) 0).toNat.testBit (7 - p % 8)
def regOf (k P r : Nat) (zs : List Int) : Nat := regs k P r (bitOf zs) (8 * zs.length)

theorem regOf_lt {k P r : Nat} (hP : P < 2 ^ k) (hr : r < 2 ^ k) (zs : List Int) : regOf k P r zs < 2 ^ k := regs_lt hP hr _ _
theorem regOf_append (k P r : Nat) (xs ys : List Int) : regOf k P r (xs ++ ys) = regOf k P (regOf k P r xs) ys := by
  unfold regOf
  rw [List.length_append, Nat.mul_add, regs_add]
  have e1 : regs k P r (bitOf (xs ++ ys)) (8 * xs.length) = regs k P r (bitOf xs) (8 * xs.length) := regs_congr k P r _ _ _ fun i hi => by
    unfold bitOf
    rw [List.getD_eq_getElem?_getD, List.getElem?_append_left (by omega), ← List.getD_eq_getElem?_getD]
  rw [e1]
  refine regs_congr k P _ _ _ _ fun i hi => ?_
  unfold bitOf
  rw [List.getD_eq_getElem?_getD, List.getElem?_append_right (by omega), ← List.getD_eq_getElem?_getD]
  rw [show (8 * xs.length + i) / 8 - xs.length = i / 8 by omega, show (8 * xs.length + i) % 8 = i % 8 by omega]
theorem regOf_xor (k P r s : Nat) (xs ys cs : List Int) (n : Nat) (h1 : xs.length = n) (h2 : ys.length = n) (h3 : cs.length = n) (h : ∀ i, i < n → (cs.getD i 0).toNat = (xs.getD i 0).toNat ^^^ (ys.getD i 0).toNat) :
    regOf k P r xs ^^^ regOf k P s ys = regOf k P (r ^^^ s) cs := by
  unfold regOf
  rw [h1, h2, h3, ← regs_xor]
  refine regs_congr k P _ _ _ _ fun i hi => ?_
  unfold bitOf
  rw [h (i / 8) (by omega), Nat.testBit_xor]
end Go.Proofs.Ythbganohmcomjaa
