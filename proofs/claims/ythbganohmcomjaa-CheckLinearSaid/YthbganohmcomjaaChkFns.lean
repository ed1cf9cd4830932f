/-
  What the functions of layer 3 return.
-/
import Derived.Test.YthbganohmcomjaaChkPlain
import Derived.Test.YthbganohmcomjaaPow
import Derived.Test.YthbganohmcomjaaMk
import Derived.Test.YthbganohmcomjaaProg
import Derived.Maps.Own
import Derived.Maps.OwnOps
import Derived.Maps.OwnSet
namespace Go.Proofs.Ythbganohmcomjaa
open Go Go.RowKit Go.Maps

/-! ### the five widths -/
def polyN (k : Nat) : Nat := if k = 3 then 3 else if k = 7 then 9 else if k = 8 then 7 else if k = 16 then 4129 else if k = 24 then 8801531 else 0
structure Kd (k P : Nat) : Prop where
  one : 1 ≤ k
  most : k ≤ 24
  poly : polyN k = P
  odd : P % 2 = 1
  lt : P < 2 ^ k
theorem kd_of (k : Nat) (h : k = 3 ∨ k = 7 ∨ k = 8 ∨ k = 16 ∨ k = 24) : ∃ P, Kd k P := by
  rcases h with rfl | rfl | rfl | rfl | rfl
  · exact ⟨3, by omega, by omega, rfl, rfl, by omega⟩
  · exact ⟨9, by omega, by omega, rfl, rfl, by omega⟩
  · exact ⟨7, by omega, by omega, rfl, rfl, by omega⟩
  · exact ⟨4129, by omega, by omega, rfl, rfl, by omega⟩
  · exact ⟨8801531, by omega, by omega, rfl, rfl, by omega⟩
def kindB (k : Int) : Bool := decide (k = 3 ∨ k = 7 ∨ k = 8 ∨ k = 16 ∨ k = 24)
def polyI (k : Int) : Int := (polyN k.toNat : Nat)
theorem kindB_yes {k : Int} (h : kindB k = true) : ∃ K P : Nat, k = K ∧ Kd K P ∧ polyI k = P := by
  have h := of_decide_eq_true h
  obtain ⟨K, rfl⟩ := Int.eq_ofNat_of_zero_le (show 0 ≤ k by omega)
  obtain ⟨P, hP⟩ := kd_of K (by omega)
  exact ⟨K, P, rfl, hP, by unfold polyI; rw [Int.toNat_natCast, hP.poly]⟩
theorem kindB_kd {K P : Nat} (h : Kd K P) : kindB K = true ∧ polyI K = P := by
  have h1 := h.poly
  have h2 := h.odd
  refine ⟨decide_eq_true ?_, by unfold polyI; rw [Int.toNat_natCast, h.poly]⟩
  unfold polyN at h1
  refine Decidable.byContradiction fun hn => ?_
  rw [if_neg (by omega), if_neg (by omega), if_neg (by omega), if_neg (by omega), if_neg (by omega)] at h1
  omega
theorem polyI_no {k : Int} (h : kindB k = false) : polyI k = 0 := by
  have h := of_decide_eq_false h
  by_cases hk : 0 ≤ k
  · obtain ⟨K, rfl⟩ := Int.eq_ofNat_of_zero_le hk
    unfold polyI polyN
    rw [Int.toNat_natCast, if_neg (by omega), if_neg (by omega), if_neg (by omega), if_neg (by omega), if_neg (by omega)]
    rfl
  · unfold polyI polyN
    rw [show k.toNat = 0 by omega]
    rfl
theorem polyI_yes {k : Int} (h : kindB k = true) : polyI k ≠ 0 := by
  obtain ⟨K, P, rfl, hP, e⟩ := kindB_yes h
  have := hP.odd
  rw [e]; omega

/-! ### the table -/
def tab {H : Type} : DataW H := .map [(.int .i64 3, .lit (.int .i64 3)), (.int .i64 7, .lit (.int .i64 9)), (.int .i64 8, .lit (.int .i64 7)), (.int .i64 16, .lit (.int .i64 4129)), (.int .i64 24, .lit (.int .i64 8801531))]
theorem kMap : Keyed Try.prog 3 := int_keyed Try.underlying3
theorem zeroInt (w : World) : (zeroValue 3).run Try.prog w = .ok (.int .i64 0) w := by kernel_rfl

set_option maxRecDepth 100000 in
theorem polynomials_any {H : Type} (w : World) :
    Calls Try.prog 15 #[] w fun e w' => e = .returned (.map (some w.heap.size)) ∧ w'.ownsMap Try.prog 3 (plainElem (H := H) Try.prog 3) w.heap.size 5 tab ∧ Below w.heap.size w w' := by
  have hmm := @run_makeMap Try.prog
  have hk : ∀ z : Int, (Lit.int .i64 z).wf = true → keyOf Try.prog 3 (.int .i64 z) = some (.int .i64 z) := fun z h => keyOf_int_mk Try.underlying3 h
  have o0 := World.ownsMap_made w Try.prog 3 (plainElem (H := H) Try.prog 3)
  obtain ⟨w1, r1, o1, g1⟩ := o0.update kMap Try.underlying39 (by unfold maxLen; omega) (hk 3 rfl) (plainElem_int (a := 3) Try.underlying3 rfl)
  obtain ⟨w2, r2, o2, g2⟩ := o1.update kMap Try.underlying39 (by unfold maxLen; omega) (hk 7 rfl) (plainElem_int (a := 9) Try.underlying3 rfl)
  obtain ⟨w3, r3, o3, g3⟩ := o2.update kMap Try.underlying39 (by unfold maxLen; omega) (hk 8 rfl) (plainElem_int (a := 7) Try.underlying3 rfl)
  obtain ⟨w4, r4, o4, g4⟩ := o3.update kMap Try.underlying39 (by unfold maxLen; omega) (hk 16 rfl) (plainElem_int (a := 4129) Try.underlying3 rfl)
  obtain ⟨w5, r5, o5, g5⟩ := o4.update kMap Try.underlying39 (by unfold maxLen; omega) (hk 24 rfl) (plainElem_int (a := 8801531) Try.underlying3 rfl)
  have hb : Below w.heap.size w w5 := (((((((Below.refl _ _).alloc (Nat.le_refl _) _).grown g1 (by simp) fun _ h => by cases h; exact Nat.le_refl _).grown g2 (Nat.le_trans (by simp) g1.size) fun _ h => by cases h; exact Nat.le_refl _).grown g3 (Nat.le_trans (by simp) (Nat.le_trans g1.size g2.size)) fun _ h => by cases h; exact Nat.le_refl _).grown g4 (Nat.le_trans (by simp) (Nat.le_trans g1.size (Nat.le_trans g2.size g3.size))) fun _ h => by cases h; exact Nat.le_refl _).grown g5 (Nat.le_trans (by simp) (Nat.le_trans g1.size (Nat.le_trans g2.size (Nat.le_trans g3.size g4.size)))) fun _ h => by cases h; exact Nat.le_refl _)
  clear o0 o1 o2 o3 o4 g1 g2 g3 g4 g5 hk
  go_enter Try.func15, Try.ntmps15
  go_wp2
  go_ret
  exact ⟨rfl, o5, hb⟩

theorem tab_at {H : Type} (k : Int) : (tab (H := H)).atKey (.int .i64 k) (.lit (.int .i64 0)) = .lit (.int .i64 (polyI k)) := by
  by_cases h3 : k = 3
  · subst h3; rfl
  by_cases h7 : k = 7
  · subst h7; rfl
  by_cases h8 : k = 8
  · subst h8; rfl
  by_cases h16 : k = 16
  · subst h16; rfl
  by_cases h24 : k = 24
  · subst h24; rfl
  have : kindB k = false := decide_eq_false (by omega)
  rw [polyI_no this]
  have e : ∀ c : Int, c ≠ k → (Lit.int .i64 c).sameKey (.int .i64 k) = false := fun c h => by simp [Lit.sameKey, h]
  simp only [tab, DataW.atKey, List.find?_cons, List.find?_nil, e 3 (Ne.symm h3), e 7 (Ne.symm h7), e 8 (Ne.symm h8), e 16 (Ne.symm h16), e 24 (Ne.symm h24)]
theorem tab_has {H : Type} (k : Int) : Maps.has (tab (H := H)) (.int .i64 k) = kindB k := by
  simp [tab, Maps.has, Lit.sameKey, kindB, eq_comm]

theorem ones_any (K : Nat) (w : World) (hK : K ≤ 24) : Calls Try.prog 17 #[.int .i64 K] w fun e w' => e = .returned (.int .i64 (2 ^ K - 1)) ∧ w = w' := by
  go_enter Try.func17, Try.ntmps17
  go_wp2
  go_ret
  exact ⟨ret_int (wrap_imask K (by omega)), rfl⟩

/-! ### a bit and a step, as the program counts them -/
theorem pw24 (k : Nat) (h : k ≤ 24) : 2 ^ k ≤ 16777216 := Nat.pow_le_pow_right (n := 2) (by decide) h
theorem div_pow_nat (x s : Nat) : (x : Int) / 2 ^ s = ((x / 2 ^ s : Nat) : Int) := by simp
theorem bit_of_div (x s : Nat) : x / 2 ^ s % 2 = if x.testBit s then 1 else 0 := by
  rw [Nat.testBit_eq_decide_div_mod_eq]
  rcases Nat.mod_two_eq_zero_or_one (x / 2 ^ s) with h | h <;> simp [h]
theorem ck_bit (z : Int) (s : Nat) (h0 : 0 ≤ z) (h1 : z ≤ 255) : bits .and .i64 (wrap64 (z / 2 ^ s)) 1 = if z.toNat.testBit s then 1 else 0 := by
  obtain ⟨x, rfl⟩ := Int.eq_ofNat_of_zero_le h0
  have hd : x / 2 ^ s ≤ x := Nat.div_le_self _ _
  have e := bit_of_div x s
  rw [Int.toNat_natCast, div_pow_nat]
  generalize x / 2 ^ s = q at hd e
  rw [IntWalk.wrap64_in (q : Int) ⟨by omega, by omega⟩, i64_and_one _ (by omega) (by omega)]
  split at e <;> rename_i ht <;> simp [ht] <;> omega
theorem ck_bit8 (z : Int) (s : Nat) (h0 : 0 ≤ z) (h1 : z ≤ 255) : z / 2 ^ s % 2 = if z.toNat.testBit s then 1 else 0 := by
  obtain ⟨x, rfl⟩ := Int.eq_ofNat_of_zero_le h0
  have e := bit_of_div x s
  rw [Int.toNat_natCast, div_pow_nat]
  generalize x / 2 ^ s = q at e
  split at e <;> rename_i ht <;> simp [ht] <;> omega
theorem ck_top (k R : Nat) (hk : 1 ≤ k) (hR : R < 2 ^ k) : (R : Int) / 2 ^ (k - 1) = if R.testBit (k - 1) then 1 else 0 := by
  have e := bit_of_div R (k - 1)
  have hlt : R / 2 ^ (k - 1) < 2 := Nat.div_lt_of_lt_mul (by rw [← Nat.pow_succ, show (k - 1).succ = k by omega]; exact hR)
  rw [div_pow_nat]
  generalize R / 2 ^ (k - 1) = q at e hlt
  split at e <;> rename_i ht <;> simp [ht] <;> omega
theorem ck_shl (k R : Nat) (hk : k ≤ 24) : bits .and .i64 (wrap64 ((R : Int) * 2)) (2 ^ k - 1) = ((2 * R % 2 ^ k : Nat) : Int) := by
  rw [i64_mask _ k (by omega), wrap_mod _ k (by omega), ipow_nat, Int.natCast_emod, Int.natCast_mul, Int.mul_comm]
  rfl
theorem ck_same {k P R : Nat} (b : Bool) (hk : 1 ≤ k) (hk2 : k ≤ 24) (hR : R < 2 ^ k) (h : (R : Int) / 2 ^ (k - 1) = if b then 1 else 0) : bits .and .i64 (wrap64 ((R : Int) * 2)) (2 ^ k - 1) = (ckStep k P R b : Nat) := by
  rw [ck_shl k R hk2]
  rw [ck_top k R hk hR] at h
  unfold ckStep
  cases hb : R.testBit (k - 1) <;> cases b <;> simp [hb] at h ⊢
theorem ck_other {k P R : Nat} (b : Bool) (hk : 1 ≤ k) (hk2 : k ≤ 24) (hR : R < 2 ^ k) (hP : P < 2 ^ k) (h : (R : Int) / 2 ^ (k - 1) ≠ if b then 1 else 0) : bits .xor .i64 (bits .and .i64 (wrap64 ((R : Int) * 2)) (2 ^ k - 1)) P = (ckStep k P R b : Nat) := by
  have h24 := pw24 k hk2
  have := Nat.mod_lt (2 * R) (Nat.two_pow_pos k)
  rw [ck_shl k R hk2, i64_xor_nat _ P (by omega) (by omega)]
  rw [ck_top k R hk hR] at h
  unfold ckStep
  cases hb : R.testBit (k - 1) <;> cases b <;> simp [hb] at h ⊢

set_option maxHeartbeats 1000000 in
theorem behind_any (k P r : Nat) (a : Option Addr) (n cap : Nat) (zs : List Int) (w : World) (hk : Kd k P) (hr : r < 2 ^ k) (hs : Sl .u8 w a n zs) :
    Calls Try.prog 16 #[.int .i64 k, .int .i64 P, .int .i64 r, .slice a n cap] w fun e w' => e = .returned (.int .i64 (regOf k P r zs : Nat)) ∧ w = w' := by
  have hl := hs.reach
  have hk1 := hk.one
  have hk2 := hk.most
  have hP := hk.lt
  have hz := Lib.hid hs.len
  have Hs := Lib.hid hs
  have Hk := Lib.hid hk
  have Hr := Lib.hid hr
  clear hs hk hr
  go_enter Try.func16, Try.ntmps16
  go_wp2_with (go_at_call 17; refine (ones_any _ _ (by omega)).mono ?_; rintro e w' ⟨rfl, rfl⟩)
  go_loop [2, 19] (fun v i => ∃ m : Nat, m ≤ n ∧ i = .int .i64 m ∧ v = .int .i64 (regs k P r (bitOf zs) (8 * m) : Nat)) (fun _ i => n - (intOf i).toNat)
  case atStart => exact ⟨0, by omega, by simp, rfl⟩
  case round =>
    obtain ⟨m, hm, rfl, rfl⟩ := hrel
    by_cases hlt : m < n
    · obtain ⟨b, off, rfl⟩ := Hs.out.head (by omega)
      have hc := Hs.out.at hlt
      have hzz := Hs.out.u8 m
      have HB : Hid (∀ j, j < 8 → bitOf zs (8 * m + j) = (zs.getD m 0).toNat.testBit (7 - j)) := fun j hj => by
        unfold bitOf; rw [show (8 * m + j) / 8 = m by omega, show (8 * m + j) % 8 = j by omega]
      generalize zs.getD m 0 = z at hc hzz HB
      go_wp2
      go_loop [2, 23] (fun v i => ∃ j : Nat, j ≤ 8 ∧ i = .int .i64 j ∧ v = .int .i64 (regs k P r (bitOf zs) (8 * m + j) : Nat)) (fun _ i => 8 - (intOf i).toNat)
      case atStart => exact ⟨0, by omega, by simp, rfl⟩
      case round =>
        obtain ⟨j, hj, rfl, rfl⟩ := hrel
        have hR := regs_lt Hk.out.lt Hr.out (bitOf zs) (8 * m + j)
        by_cases hj8 : j < 8
        · have HS : Hid (regs k P r (bitOf zs) (8 * m + (j + 1)) = ckStep k P (regs k P r (bitOf zs) (8 * m + j)) (z.toNat.testBit (7 - j))) := by
            rw [← HB.out j hj8]; rfl
          generalize regs k P r (bitOf zs) (8 * m + j) = R at hR HS
          go_wp2
          all_goals
            rename_i htest
            rw [ck_bit z (7 - j) hzz.1 hzz.2] at htest
            go_round
            case rel =>
              refine ⟨j + 1, by omega, by go_num, int_eq ?_⟩
              rw [HS.out]
              first | exact ck_same _ hk1 hk2 hR (by simpa using htest) | exact ck_other _ hk1 hk2 hR hP (by simpa using htest)
            case measure => simp [intOf]; omega
        · obtain rfl : j = 8 := by omega
          go_wp2
          go_round
          case rel => exact ⟨m + 1, by omega, by go_num, rfl⟩
          case measure => simp [intOf]; omega
    · obtain rfl : m = n := by omega
      go_wp2
      go_ret
      exact ⟨ret_int (by unfold regOf; rw [hz.out]), rfl⟩
end Go.Proofs.Ythbganohmcomjaa
