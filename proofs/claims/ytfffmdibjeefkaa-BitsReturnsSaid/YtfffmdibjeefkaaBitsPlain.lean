/-
  Numbers in bits, as plain functions on lists of byte values. No Go text is named here.
-/
import Derived.Test.YtfffmdibjeefkaaBase
namespace Go.Proofs.Ytfffmdibjeefkaa
open Go Go.RowKit

/-- bit k of some bytes -/
def bitAt (zs : List Int) (k : Nat) : Nat := (zs.getD (k / 8) 0).toNat / 2 ^ (7 - k % 8) % 2
/-- the number in n bits from bit p on -/
def numAt (zs : List Int) (p : Nat) : Nat → Nat
  | 0 => 0
  | n + 1 => 2 * numAt zs p n + bitAt zs (p + n)
/-- a byte with one of its bits set to v -/
def byteBit (z q v : Nat) : Nat := z - z / 2 ^ q % 2 * 2 ^ q + v * 2 ^ q
/-- bytes with bit k set to v -/
def setBit (zs : List Int) (k v : Nat) : List Int := zs.set (k / 8) (byteBit (zs.getD (k / 8) 0).toNat (7 - k % 8) v : Nat)
/-- the first i bits of the number v of n bits, written from bit p on -/
def putTo (zs : List Int) (p n v : Nat) : Nat → List Int
  | 0 => zs
  | i + 1 => setBit (putTo zs p n v i) (p + i) (v / 2 ^ (n - 1 - i) % 2)

theorem bitAt_lt (zs : List Int) (k : Nat) : bitAt zs k < 2 := Nat.mod_lt _ (by decide)
theorem numAt_lt (zs : List Int) (p n : Nat) : numAt zs p n < 2 ^ n := by
  induction n with
  | zero => simp [numAt]
  | succ n ih => have := bitAt_lt zs (p + n); simp only [numAt, Nat.pow_succ]; omega
theorem numAt_le32 (zs : List Int) (p n : Nat) (h : n ≤ 32) : numAt zs p n < 4294967296 :=
  Nat.lt_of_lt_of_le (numAt_lt zs p n) (Nat.le_trans (Nat.pow_le_pow_right (by decide) h) (by decide))

/-- the upper and the lower bits -/
theorem numAt_split (zs : List Int) (p k m : Nat) : numAt zs p (k + m) = numAt zs p k * 2 ^ m + numAt zs (p + k) m := by
  induction m with
  | zero => simp [numAt]
  | succ m ih =>
    rw [← Nat.add_assoc]
    simp only [numAt]
    rw [ih, Nat.pow_succ, Nat.add_assoc p k m]
    have : numAt zs p k * (2 ^ m * 2) = 2 * (numAt zs p k * 2 ^ m) := by rw [← Nat.mul_assoc]; omega
    omega

theorem byteBit_all : ∀ q, q < 8 → ∀ z, z < 256 → ∀ v, v < 2 → byteBit z q v < 256 ∧ (∀ r, r < 8 → byteBit z q v / 2 ^ r % 2 = if r = q then v else z / 2 ^ r % 2) := by
  decide +kernel
theorem byteBit_or : ∀ q, q < 8 → ∀ z, z < 256 → z ||| 2 ^ q = byteBit z q 1 := by decide +kernel
theorem byteBit_andNot : ∀ q, q < 8 → ∀ z, z < 256 → z &&& (255 - 2 ^ q) = byteBit z q 0 := by decide +kernel
theorem byteBit_two : ∀ q, q < 8 → ∀ z, z < 256 → byteBit (byteBit z q 0) q 1 = byteBit z q 1 := by decide +kernel

/-- all are bytes -/
def Bytes (zs : List Int) : Prop := ∀ i, 0 ≤ zs.getD i 0 ∧ zs.getD i 0 ≤ 255

theorem getD_set (zs : List Int) (i j : Nat) (x : Int) : (zs.set i x).getD j 0 = if i = j ∧ i < zs.length then x else zs.getD j 0 := by
  simp only [List.getD_eq_getElem?_getD, List.getElem?_set]
  by_cases h : i = j
  · subst h
    by_cases h2 : i < zs.length
    · simp [h2]
    · simp [h2]
  · simp [h]

theorem setBit_length (zs : List Int) (k v : Nat) : (setBit zs k v).length = zs.length := by simp [setBit]
theorem putTo_length (zs : List Int) (p n v i : Nat) : (putTo zs p n v i).length = zs.length := by
  induction i with
  | zero => rfl
  | succ i ih => simp only [putTo]; rw [setBit_length, ih]

theorem setBit_bytes {zs : List Int} (h : Bytes zs) (k v : Nat) (hv : v < 2) : Bytes (setBit zs k v) := by
  intro i
  unfold setBit
  rw [getD_set]
  have hz := h (k / 8)
  have := (byteBit_all (7 - k % 8) (by omega) (zs.getD (k / 8) 0).toNat (by omega) v hv).1
  split
  · omega
  · exact h i
theorem putTo_bytes {zs : List Int} (h : Bytes zs) (p n v i : Nat) : Bytes (putTo zs p n v i) := by
  induction i with
  | zero => exact h
  | succ i ih => exact setBit_bytes ih _ _ (Nat.mod_lt _ (by decide))

theorem bitAt_setBit {zs : List Int} (h : Bytes zs) (k v j : Nat) (hv : v < 2) (hk : k < 8 * zs.length) : bitAt (setBit zs k v) j = if j = k then v else bitAt zs j := by
  unfold bitAt setBit
  rw [getD_set]
  have hz := h (k / 8)
  have hb := (byteBit_all (7 - k % 8) (by omega) (zs.getD (k / 8) 0).toNat (by omega) v hv).2 (7 - j % 8) (by omega)
  by_cases e : k / 8 = j / 8
  · rw [if_pos ⟨e, by omega⟩, Int.toNat_natCast, hb, ← e]
    by_cases e2 : j = k
    · rw [if_pos (by omega), if_pos e2]
    · rw [if_neg (by omega), if_neg e2]
  · rw [if_neg (by omega), if_neg (by omega)]

theorem bitAt_putTo {zs : List Int} (h : Bytes zs) (p n v i j : Nat) (hi : p + i ≤ 8 * zs.length) : bitAt (putTo zs p n v i) j = if p ≤ j ∧ j < p + i then v / 2 ^ (n - 1 - (j - p)) % 2 else bitAt zs j := by
  induction i with
  | zero => rw [if_neg (by omega)]; rfl
  | succ i ih =>
    have ih := ih (by omega)
    simp only [putTo]
    rw [bitAt_setBit (putTo_bytes h p n v i) _ _ _ (Nat.mod_lt _ (by decide)) (by rw [putTo_length]; omega), ih]
    by_cases e : j = p + i
    · subst e
      rw [if_pos rfl, if_pos (by omega)]
      rw [show p + i - p = i from by omega]
    · rw [if_neg e]
      by_cases e2 : p ≤ j ∧ j < p + i
      · rw [if_pos e2, if_pos (by omega)]
      · rw [if_neg e2, if_neg (by omega)]

theorem numAt_congr (zs ys : List Int) (p n : Nat) (h : ∀ j, p ≤ j → j < p + n → bitAt zs j = bitAt ys j) : numAt zs p n = numAt ys p n := by
  induction n with
  | zero => rfl
  | succ n ih => simp only [numAt]; rw [ih (fun j h1 h2 => h j h1 (by omega)), h (p + n) (by omega) (by omega)]

/-- the first i bits of what was written -/
theorem numAt_putTo_part {zs : List Int} (h : Bytes zs) (p n v : Nat) (hi : p + n ≤ 8 * zs.length) : ∀ i, i ≤ n → numAt (putTo zs p n v n) p i = v / 2 ^ (n - i) % 2 ^ i := by
  intro i
  induction i with
  | zero => intro _; simp [numAt, Nat.mod_one]
  | succ i ih =>
    intro hi2
    simp only [numAt]
    rw [ih (by omega), bitAt_putTo h p n v n (p + i) hi, if_pos (by omega), show p + i - p = i from by omega]
    have e1 : n - i = (n - (i + 1)) + 1 := by omega
    have e2 : n - 1 - i = n - (i + 1) := by omega
    rw [e1, e2, Nat.pow_succ 2 (n - (i + 1)), ← Nat.div_div_eq_div_mul, Nat.pow_succ]
    generalize v / 2 ^ (n - (i + 1)) = x
    rw [Nat.mul_comm (2 ^ i) 2, Nat.mod_mul]
    omega
/-- WHAT WAS WRITTEN IS READ -/
theorem numAt_putTo {zs : List Int} (h : Bytes zs) (p n v : Nat) (hi : p + n ≤ 8 * zs.length) (hv : v < 2 ^ n) : numAt (putTo zs p n v n) p n = v := by
  rw [numAt_putTo_part h p n v hi n (Nat.le_refl _)]
  simp [Nat.mod_eq_of_lt hv]
end Go.Proofs.Ytfffmdibjeefkaa
