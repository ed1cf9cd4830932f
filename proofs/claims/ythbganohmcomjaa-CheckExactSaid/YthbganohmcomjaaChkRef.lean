/-
  What the document's own functions of layer 3 return.
-/
import Derived.Test.YthbganohmcomjaaChkSum
namespace Go.Proofs.Ythbganohmcomjaa
open Go Go.RowKit Go.Maps

theorem ck_bitu (z : Int) (s : Nat) (h0 : 0 ≤ z) (h1 : z ≤ 255) : wrap64 (bits .and .u8 (z / 2 ^ s) 1) = if z.toNat.testBit s then 1 else 0 := by
  obtain ⟨x, rfl⟩ := Int.eq_ofNat_of_zero_le h0
  have hd : x / 2 ^ s ≤ x := Nat.div_le_self _ _
  have e := bit_of_div x s
  rw [Int.toNat_natCast, div_pow_nat]
  generalize x / 2 ^ s = q at hd e
  rw [show (1 : Int) = ((1 : Nat) : Int) from rfl, u8_and_nat q 1 (by omega) (by omega), nat_mask1]
  rw [IntWalk.wrap64_in _ ⟨by omega, by omega⟩]
  split at e <;> rename_i ht <;> simp [ht] <;> omega
theorem ck_topm (k R : Nat) (hk : 1 ≤ k) (hR : R < 2 ^ k) : bits .and .i64 ((R : Int) / 2 ^ (k - 1)) 1 = (R : Int) / 2 ^ (k - 1) := by
  have e := ck_top k R hk hR
  rw [e]
  split <;> decide

set_option maxHeartbeats 1000000 in
theorem refPolynomial_any (k : Int) (w : World) : Calls Try.prog 18 #[.int .i64 k] w fun e w' => e = .returned (.int .i64 (polyI k)) ∧ w = w' := by
  by_cases h3 : k = 3
  · subst h3
    go_enter Try.func18, Try.ntmps18
    go_wp2
    go_ret
    exact ⟨rfl, rfl⟩
  by_cases h7 : k = 7
  · subst h7
    go_enter Try.func18, Try.ntmps18
    go_wp2
    go_ret
    exact ⟨rfl, rfl⟩
  by_cases h8 : k = 8
  · subst h8
    go_enter Try.func18, Try.ntmps18
    go_wp2
    go_ret
    exact ⟨rfl, rfl⟩
  by_cases h16 : k = 16
  · subst h16
    go_enter Try.func18, Try.ntmps18
    go_wp2
    go_ret
    exact ⟨rfl, rfl⟩
  by_cases h24 : k = 24
  · subst h24
    go_enter Try.func18, Try.ntmps18
    go_wp2
    go_ret
    exact ⟨rfl, rfl⟩
  have hn : kindB k = false := decide_eq_false (by omega)
  rw [polyI_no hn]
  clear hn
  have e3 : (k == 3) = false := by simpa using h3
  have e7 : (k == 7) = false := by simpa using h7
  have e8 : (k == 8) = false := by simpa using h8
  have e16 : (k == 16) = false := by simpa using h16
  have e24 : (k == 24) = false := by simpa using h24
  clear h3 h7 h8 h16 h24
  go_enter Try.func18, Try.ntmps18
  go_wp2
  go_ret
  exact ⟨rfl, rfl⟩

set_option maxRecDepth 100000 in
set_option maxHeartbeats 2000000 in
theorem refNext_any (k r : Int) (a : Option Addr) (n cap : Nat) (zs : List Int) (w : World) (hs : Sl .u8 w a n zs) :
    Calls Try.prog 13 #[.int .i64 k, .int .i64 r, .slice a n cap] w fun e w' => e = .returned (.tuple #[.int .i64 (nextV k r zs), .int .i64 (nextE k r)]) ∧ w = w' := by
  have Hs := Lib.hid hs
  have hl := hs.reach
  clear hs
  by_cases hb : kindB k = true
  · obtain ⟨K, P, rfl, hP, hpo⟩ := kindB_yes hb
    have hk1 := hP.one
    have hk2 := hP.most
    have hPlt := hP.lt
    have hodd := hP.odd
    have hP0 : ((P : Int) == 0) = false := by simp; omega
    have hw := ipow_le 24 24 (by omega)
    have hw1 := ipow_pos K
    have hw2 := ipow_le K 24 hk2
    have hw3 : (2 : Int) ^ 24 = 16777216 := by decide
    have hW : Hid (wrap64 (2 ^ K) = 2 ^ K) := wrap_ipow K (by omega)
    have C1 : Hid (∀ W, Calls Try.prog 18 #[.int .i64 K] W fun e w' => e = .returned (.int .i64 P) ∧ W = w') := fun W => by
      have := refPolynomial_any K W; rwa [hpo] at this
    by_cases hr : 0 ≤ r ∧ r < 2 ^ K
    · obtain ⟨R0, rfl⟩ := Int.eq_ofNat_of_zero_le hr.1
      have hR : R0 < 2 ^ K := by have := hr.2; rw [ipow_nat] at this; omega
      obtain ⟨hv, he⟩ := next_kd hP hR zs
      rw [hv, he]
      have HP := Lib.hid hP
      have HR := Lib.hid hR
      have hr2 : decide ((R0 : Int) ≥ wrap64 (2 ^ K)) = false := by rw [hW.out]; simp; omega
      have hz := Lib.hid Hs.out.len
      have hr3 : decide ((R0 : Int) < 0) = false := by simp
      have hK : wrap64 (wrap64 (2 ^ K) - 1) = 2 ^ K - 1 := wrap_imask K (by omega)
      have HK := Lib.hid hK
      clear hv he hpo hP hR hr hodd hw hw1 hw2 hw3 hPlt hK
      go_enter Try.func13, Try.ntmps13
      go_wp2_with (go_at_call 18; refine (C1.out _).mono ?_; rintro e w' ⟨rfl, rfl⟩)
      go_loop [1, 9] (fun v i => ∃ m : Nat, m ≤ n ∧ i = .int .i64 m ∧ v = .int .i64 (regs K P R0 (bitOf zs) (8 * m) : Nat)) (fun _ i => n - (intOf i).toNat)
      case atStart => exact ⟨0, by omega, by simp, rfl⟩
      case round =>
        obtain ⟨m, hm, rfl, rfl⟩ := hrel
        by_cases hlt : m < n
        · obtain ⟨b, off, rfl⟩ := Hs.out.head (by omega)
          have hc := Hs.out.at hlt
          have hzz := Hs.out.u8 m
          have HB : Hid (∀ j, j < 8 → bitOf zs (8 * m + j) = (zs.getD m 0).toNat.testBit (7 - j)) := fun j hj => by
            unfold bitOf; rw [show (8 * m + j) / 8 = m by omega, show (8 * m + j) % 8 = j by omega]
          generalize zs.getD m 0 = z at hc hzz HB
          go_wp2
          go_loop [1, 10] (fun v i => ∃ j : Nat, j ≤ 8 ∧ i = .int .i64 (7 - (j : Int)) ∧ v = .int .i64 (regs K P R0 (bitOf zs) (8 * m + j) : Nat)) (fun _ i => (intOf i + 1).toNat)
          case atStart => exact ⟨0, by omega, by simp, rfl⟩
          case round =>
            obtain ⟨j, hj, rfl, rfl⟩ := hrel
            have hR := regs_lt HP.out.lt HR.out (bitOf zs) (8 * m + j)
            by_cases hj8 : j < 8
            · have HS : Hid (regs K P R0 (bitOf zs) (8 * m + (j + 1)) = ckStep K P (regs K P R0 (bitOf zs) (8 * m + j)) (z.toNat.testBit (7 - j))) := by
                rw [← HB.out j hj8]; rfl
              generalize regs K P R0 (bitOf zs) (8 * m + j) = R at hR HS
              have h7 : (0 : Int) ≤ 7 - (j : Int) := by omega
              have h7b : decide ((7 : Int) - (j : Int) ≥ 0) = true := by simpa using h7
              go_wp2
              all_goals
                rename_i htest
                rw [ck_bitu z (7 - j) hzz.1 hzz.2, ck_topm K R hk1 hR] at htest
                go_round
                case rel =>
                  refine ⟨j + 1, by omega, int_eq (by omega), int_eq ?_⟩
                  rw [HS.out, HK.out]
                  first | exact ck_same _ hk1 hk2 hR (by simpa using htest) | exact ck_other _ hk1 hk2 hR HP.out.lt (by simpa using htest)
                case measure => simp [intOf]; omega
            · obtain rfl : j = 8 := by omega
              have h7b : decide ((7 : Int) - ((8 : Nat) : Int) ≥ 0) = false := by simp
              go_wp2
              go_round
              case rel => exact ⟨m + 1, by omega, by go_num, rfl⟩
              case measure => simp [intOf]; omega
        · obtain rfl : m = n := by omega
          go_wp2
          go_ret2
          have e : regOf K P R0 zs = regs K P R0 (bitOf zs) (8 * m) := by unfold regOf; rw [hz.out]
          exact ⟨by rw [e]; rfl, rfl⟩
    · have hrb : regB K r = false := decide_eq_false (by simpa using hr)
      obtain ⟨hv, he⟩ := next_out hP hrb zs
      rw [hv, he]
      by_cases h0 : r < 0
      · clear hv he hpo hP hr hrb hw hw1 hw2 hw3
        go_enter Try.func13, Try.ntmps13
        go_wp2_with (go_at_call 18; refine (C1.out _).mono ?_; rintro e w' ⟨rfl, rfl⟩)
        go_ret2
        exact ⟨rfl, rfl⟩
      · have hr2 : decide (r ≥ wrap64 (2 ^ K)) = true := by rw [hW.out]; simp; omega
        have h0' : 0 ≤ r := by omega
        clear hv he hpo hP hr hrb hw hw1 hw2 hw3 h0
        go_enter Try.func13, Try.ntmps13
        go_wp2_with (go_at_call 18; refine (C1.out _).mono ?_; rintro e w' ⟨rfl, rfl⟩)
        go_ret2
        exact ⟨rfl, rfl⟩
  · have hb : kindB k = false := by simpa using hb
    have hv : nextV k r zs = 0 := by unfold nextV; rw [hb]; rfl
    have he : nextE k r = 7 := by unfold nextE; rw [hb]; rfl
    rw [hv, he]
    have C1 : Hid (∀ W, Calls Try.prog 18 #[.int .i64 k] W fun e w' => e = .returned (.int .i64 0) ∧ W = w') := fun W => by
      have := refPolynomial_any k W; rwa [polyI_no hb] at this
    clear hv he
    go_enter Try.func13, Try.ntmps13
    go_wp2_with (go_at_call 18; refine (C1.out _).mono ?_; rintro e w' ⟨rfl, rfl⟩)
    go_ret2
    exact ⟨rfl, rfl⟩

set_option maxHeartbeats 1000000 in
theorem refSum_any (k : Int) (a : Option Addr) (n cap : Nat) (zs : List Int) (w : World) (hs : Sl .u8 w a n zs) :
    Calls Try.prog 11 #[.int .i64 k, .slice a n cap] w fun e w' => e = .returned (.tuple #[.int .i64 (sumV k zs), .int .i64 (sumE k)]) ∧ w = w' := by
  have Hs := Lib.hid hs
  have hl := hs.reach
  clear hs
  by_cases hb : kindB k = true
  · obtain ⟨K, P, rfl, hP, hpo⟩ := kindB_yes hb
    obtain ⟨hv, he⟩ := sum_kd hP zs
    have hk2 := hP.most
    have hlt := Nat.two_pow_pos K
    obtain ⟨nv, ne⟩ := next_kd (r := 2 ^ K - 1) hP (by omega) zs
    rw [hv, he]
    have hodd := hP.odd
    have hP0 : ((P : Int) == 0) = false := by simp; omega
    have C1 : Hid (∀ W, Calls Try.prog 18 #[.int .i64 K] W fun e w' => e = .returned (.int .i64 P) ∧ W = w') := fun W => by
      have := refPolynomial_any K W; rwa [hpo] at this
    have C2 : Hid (Calls Try.prog 13 #[.int .i64 K, .int .i64 (wrap64 (wrap64 (2 ^ K) - 1)), .slice a n cap] w fun e w' => e = .returned (.tuple #[.int .i64 (regOf K P (2 ^ K - 1) zs : Nat), .int .i64 0]) ∧ w = w') := by
      have h := refNext_any K ((2 ^ K - 1 : Nat) : Int) a n cap zs w Hs.out
      rw [nv, ne] at h
      rw [wrap_imask K (by omega), ipow_nat, show ((2 ^ K : Nat) : Int) - 1 = ((2 ^ K - 1 : Nat) : Int) by omega]
      exact h
    clear hv he hpo hP hodd hlt nv ne
    go_enter Try.func11, Try.ntmps11
    go_wp2_with (first
      | (go_at_call 18; refine (C1.out _).mono ?_; rintro e w' ⟨rfl, rfl⟩)
      | (go_at_call 13; refine C2.out.mono ?_; rintro e w' ⟨rfl, rfl⟩))
    go_ret2
    exact ⟨rfl, rfl⟩
  · have hb : kindB k = false := by simpa using hb
    have hv : sumV k zs = 0 := by unfold sumV; rw [hb]; rfl
    have he : sumE k = 7 := by unfold sumE; rw [hb]; rfl
    rw [hv, he]
    have C1 : Hid (∀ W, Calls Try.prog 18 #[.int .i64 k] W fun e w' => e = .returned (.int .i64 0) ∧ W = w') := fun W => by
      have := refPolynomial_any k W; rwa [polyI_no hb] at this
    clear hv he
    go_enter Try.func11, Try.ntmps11
    go_wp2_with (go_at_call 18; refine (C1.out _).mono ?_; rintro e w' ⟨rfl, rfl⟩)
    go_ret2
    exact ⟨rfl, rfl⟩
end Go.Proofs.Ythbganohmcomjaa
