/-
  What Mod, Read and what they call return.
-/
import Derived.Test.YtfffmdibjeefkaaBitsPlain
import Derived.Test.YtfffmdibjeefkaaProg
namespace Go.Proofs.Ytfffmdibjeefkaa
open Go Go.RowKit

set_option maxHeartbeats 400000 in
theorem mod_any (n m : Int) (w : World) (hm : 1 ≤ m) (hm2 : m ≤ 9223372036854775807) (_hn1 : -9223372036854775808 ≤ n) (_hn2 : n ≤ 9223372036854775807) :
    Calls Try.prog 8 #[.int .i64 n, .int .i64 m] w fun e w' => e = .returned (.int .i64 (n % m)) ∧ w = w' := by
  have t1 : -m < n.tmod m := Int.lt_tmod_of_pos _ (by omega)
  have t2 : n.tmod m < m := Int.tmod_lt_of_pos _ (by omega)
  go_enter Try.func8, Try.ntmps8
  go_wp2
  · go_ret
    exact ⟨ret_int (mod_neg n m hm (by assumption)), rfl⟩
  · go_ret
    exact ⟨ret_int (mod_pos n m hm (by assumption)), rfl⟩

theorem isWidth_any (n : Int) (w : World) :
    Calls Try.prog 23 #[.int .i64 n] w fun e w' => e = .returned (.bool (decide (0 ≤ n ∧ n ≤ 32))) ∧ w = w' := by
  by_cases h0 : 0 ≤ n
  · by_cases h1 : n ≤ 32
    all_goals
      go_enter Try.func23, Try.ntmps23
      go_wp2
      go_ret
      exact ⟨ret_bool (by simp; omega), rfl⟩
  · go_enter Try.func23, Try.ntmps23
    go_wp2
    go_ret
    exact ⟨ret_bool (by simp; omega), rfl⟩

theorem hasBits_any (a : Option Addr) (len cap : Nat) (p n : Int) (w : World) (hl : len ≤ 140737488351232) (h0 : 0 ≤ p) (h1 : p ≤ 9223372036854775807) :
    Calls Try.prog 24 #[.slice a len cap, .int .i64 p, .int .i64 n] w fun e w' => e = .returned (.bool (decide (n ≤ 8 * (len : Int) - p))) ∧ w = w' := by
  go_enter Try.func24, Try.ntmps24
  go_wp2
  go_ret
  exact ⟨rfl, rfl⟩

set_option maxHeartbeats 400000 in
theorem number_any (a : Option Addr) (len cap : Nat) (p n : Nat) (zs : List Int) (w : World) (hs : Sl .u8 w a len zs) (hb : p + n ≤ 8 * len) (hn : n ≤ 32) :
    Calls Try.prog 25 #[.slice a len cap, .int .i64 p, .int .i64 n] w fun e w' => e = .returned (.int .i64 (numAt zs p n : Nat)) ∧ w = w' := by
  have hl := hs.reach
  have Hs := Lib.hid hs
  clear hs
  go_enter Try.func25, Try.ntmps25
  go_wp2
  go_loop [7, 8, 10] (fun v i k => ∃ (j : Nat) (y : Value), j ≤ n ∧ k = .int .i64 j ∧ v = .int .i64 (numAt zs p j : Nat) ∧ i = y) (fun _ _ k => n - (intOf k).toNat)
  case atStart => exact ⟨0, _, by omega, by simp, by simp [numAt], rfl⟩
  case round =>
    obtain ⟨j, y, hj, rfl, rfl, rfl⟩ := hrel
    by_cases hlt : j < n
    · obtain ⟨b, off, rfl⟩ := Hs.out.head (by omega)
      have hc := Hs.out.at (i := (p + j) / 8) (by omega)
      have hz := Hs.out.u8 ((p + j) / 8)
      have hx := numAt_le32 zs p j (by omega)
      have HS : Hid (numAt zs p (j + 1) = 2 * numAt zs p j + bitAt zs (p + j)) := rfl
      have HB : Hid (bitAt zs (p + j) = (zs.getD ((p + j) / 8) 0).toNat / 2 ^ (7 - (p + j) % 8) % 2) := rfl
      generalize zs.getD ((p + j) / 8) 0 = z at hc hz HB
      generalize numAt zs p j = x at hx HS
      go_wp2
      go_round
      case rel =>
        go_light
        refine ⟨j + 1, _, by omega, by go_num, int_eq ?_, rfl⟩
        have h1 := HS.out
        have h2 := HB.out
        have hd : z / 2 ^ (7 - (p + j) % 8) = ((z.toNat / 2 ^ (7 - (p + j) % 8) : Nat) : Int) := by
          obtain ⟨m, rfl⟩ := Int.eq_ofNat_of_zero_le hz.1
          simp
        have hd2 : z.toNat / 2 ^ (7 - (p + j) % 8) ≤ z.toNat := Nat.div_le_self _ _
        rw [hd]
        generalize z.toNat / 2 ^ (7 - (p + j) % 8) = q at h2 hd2
        rw [IntWalk.wrap64_in q ⟨by omega, by omega⟩, i64_and_one q (by omega) (by omega), i64_or_bit x _ (by omega) (by omega) (by omega) (by omega)]
        omega
      case measure => simp [intOf]; omega
    · obtain rfl : j = n := by omega
      go_wp2
      go_ret
      exact ⟨rfl, rfl⟩

/-- what Read answers -/
def readV (zs : List Int) (p n : Int) : Int := if n < 0 ∨ 32 < n ∨ p < 0 then 0 else if 8 * (zs.length : Int) < p + n then 0 else (numAt zs p.toNat n.toNat : Nat)
def readE (zs : List Int) (p n : Int) : Int := if n < 0 ∨ 32 < n ∨ p < 0 then 3 else if 8 * (zs.length : Int) < p + n then 5 else 0

set_option maxHeartbeats 400000 in
theorem Read_any (a : Option Addr) (len cap : Nat) (p n : Int) (zs : List Int) (w : World) (hs : Sl .u8 w a len zs) (h1 : p ≤ 9223372036854775807) :
    Calls Try.prog 9 #[.slice a len cap, .int .i64 p, .int .i64 n] w fun e w' => e = .returned (.tuple #[.int .i64 (readV zs p n), .int .i64 (readE zs p n)]) ∧ w = w' := by
  have hl := hs.reach
  have hz := hs.len
  by_cases hn : n < 0 ∨ 32 < n
  · have hv : readV zs p n = 0 := by unfold readV; rw [if_pos (by omega)]
    have he : readE zs p n = 3 := by unfold readE; rw [if_pos (by omega)]
    rw [hv, he]
    have hd : decide (0 ≤ n ∧ n ≤ 32) = false := by simp; omega
    clear hv he hz
    go_enter Try.func9, Try.ntmps9
    go_wp2_with (go_at_call 23; refine (isWidth_any _ _).mono ?_; rintro e w' ⟨rfl, rfl⟩)
    go_ret2
    exact ⟨rfl, rfl⟩
  · have hd : decide (0 ≤ n ∧ n ≤ 32) = true := by simp; omega
    by_cases hp : p < 0
    · have hv : readV zs p n = 0 := by unfold readV; rw [if_pos (by omega)]
      have he : readE zs p n = 3 := by unfold readE; rw [if_pos (by omega)]
      rw [hv, he]
      clear hv he hz
      go_enter Try.func9, Try.ntmps9
      go_wp2_with (go_at_call 23; refine (isWidth_any _ _).mono ?_; rintro e w' ⟨rfl, rfl⟩)
      go_ret2
      exact ⟨rfl, rfl⟩
    · by_cases hb : 8 * (len : Int) < p + n
      · have hv : readV zs p n = 0 := by unfold readV; rw [if_neg (by omega), if_pos (by omega)]
        have he : readE zs p n = 5 := by unfold readE; rw [if_neg (by omega), if_pos (by omega)]
        rw [hv, he]
        have hd2 : decide (n ≤ 8 * (len : Int) - p) = false := by simp; omega
        clear hv he hz
        go_enter Try.func9, Try.ntmps9
        go_wp2_with (first | (go_at_call 23; refine (isWidth_any _ _).mono ?_; rintro e w' ⟨rfl, rfl⟩) | (go_at_call 24; refine (hasBits_any _ _ _ _ _ _ (by omega) (by omega) (by omega)).mono ?_; rintro e w' ⟨rfl, rfl⟩))
        go_ret2
        exact ⟨rfl, rfl⟩
      · have hd2 : decide (n ≤ 8 * (len : Int) - p) = true := by simp; omega
        obtain ⟨P, rfl⟩ := Int.eq_ofNat_of_zero_le (show 0 ≤ p by omega)
        obtain ⟨N, rfl⟩ := Int.eq_ofNat_of_zero_le (show 0 ≤ n by omega)
        have hv : readV zs P N = (numAt zs P N : Nat) := by unfold readV; rw [if_neg (by omega), if_neg (by omega)]; simp
        have he : readE zs P N = 0 := by unfold readE; rw [if_neg (by omega), if_neg (by omega)]
        rw [hv, he]
        clear hv he hz
        have Hs := Lib.hid hs
        clear hs
        go_enter Try.func9, Try.ntmps9
        go_wp2_with (first | (go_at_call 23; refine (isWidth_any _ _).mono ?_; rintro e w' ⟨rfl, rfl⟩) | (go_at_call 24; refine (hasBits_any _ _ _ _ _ _ (by omega) (by omega) (by omega)).mono ?_; rintro e w' ⟨rfl, rfl⟩) | (go_at_call 25; refine (number_any _ _ _ _ _ zs _ Hs.out (by omega) (by omega)).mono ?_; rintro e w' ⟨rfl, rfl⟩))
        go_ret2
        exact ⟨rfl, rfl⟩
end Go.Proofs.Ytfffmdibjeefkaa
