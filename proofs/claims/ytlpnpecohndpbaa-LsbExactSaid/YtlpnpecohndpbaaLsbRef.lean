/-
  What the document's own functions of layer 7 return.
-/
import Derived.Test.YtlpnpecohndpbaaLsbPlain
import Derived.Test.YtlpnpecohndpbaaSerRefLow
namespace Go.Proofs.Ytlpnpecohndpbaa
open Go Go.RowKit

theorem refWide_any (x : Int) (w : World) :
    Calls Try.prog 24 #[.int .i64 x] w fun e w' => e = .returned (.bool (lsWide x)) ∧ w = w' := by
  by_cases h8 : x = 8
  · subst h8
    go_enter Try.func24, Try.ntmps24
    go_wp2
    go_ret
    exact ⟨rfl, rfl⟩
  · by_cases h16 : x = 16
    · subst h16
      go_enter Try.func24, Try.ntmps24
      go_wp2
      go_ret
      exact ⟨rfl, rfl⟩
    · have e8 : (x == 8) = false := by simpa using h8
      have e16 : (x == 16) = false := by simpa using h16
      have e32 : Hid (lsWide x = (x == 32)) := by show decide _ = _; simp [h8, h16, Bool.beq_eq_decide_eq]
      go_enter Try.func24, Try.ntmps24
      go_wp2
      go_ret
      exact ⟨ret_bool e32.out.symm, rfl⟩

theorem refOffset_any (k : Int) (w : World) :
    Calls Try.prog 13 #[.int .i64 k] w fun e w' => e = .returned (.int .i64 (offV k)) ∧ w = w' := by
  by_cases h : 3 ≤ k ∧ k ≤ 32
  · obtain ⟨K, rfl⟩ := Int.eq_ofNat_of_zero_le (show 0 ≤ k by omega)
    obtain ⟨J, rfl⟩ : ∃ J, K = J + 3 := ⟨K - 3, by omega⟩
    have H := Lib.hid (offV_nat (J + 3) (by omega))
    go_enter Try.func13, Try.ntmps13
    go_wp2
    go_ret
    refine ⟨ret_int ?_, rfl⟩
    rw [H.out]
    exact wrap_imask J (by omega)
  · rw [offV_no h]
    by_cases h2 : 3 ≤ k
    all_goals
      go_enter Try.func13, Try.ntmps13
      go_wp2
      go_ret
      exact ⟨rfl, rfl⟩

theorem ret_pair {a b c d : Int} (h : a = c) (h2 : b = d) : Ending.returned (.tuple #[.int .i64 a, .int .i64 b]) = .returned (.tuple #[.int .i64 c, .int .i64 d]) := by rw [h, h2]
theorem refMean_wrap (w r k l : Int) : lowV w (wrap64 (r - offV k + distV k (r - offV k) l)) = lsMean w r k l := by
  rw [low_wrap]; rfl

set_option maxHeartbeats 1600000 in
theorem refDecode_any (n r k l : Int) (w : World) :
    Calls Try.prog 11 #[.int .i64 n, .int .i64 r, .int .i64 k, .int .i64 l] w fun e w' => e = .returned (.tuple #[.int .i64 (lsDecV n r k l), .int .i64 (lsDecE n r k l)]) ∧ w = w' := by
  by_cases hw : lsWide n = true
  · have hn := lsWide_of hw
    obtain ⟨W, rfl⟩ := Int.eq_ofNat_of_zero_le (show 0 ≤ n by omega)
    have HW := Lib.hid (wrap_ipow W (by omega))
    by_cases c1 : k < 3
    · clear HW
      rw [(lsDec_range hw (lsDecB_bits (lsBits_no (by omega)))).1, (lsDec_range hw (lsDecB_bits (lsBits_no (by omega)))).2]
      go_enter Try.func11, Try.ntmps11
      go_wp2_with (first
        | (go_at_call 24; refine (refWide_any _ _).mono ?_; rintro e w' ⟨rfl, rfl⟩)
        | fail)
      go_ret2
      exact ⟨rfl, rfl⟩
    · obtain ⟨K, rfl⟩ := Int.eq_ofNat_of_zero_le (show 0 ≤ k by omega)
      by_cases c2 : (W : Int) < K
      · clear HW
        rw [(lsDec_range hw (lsDecB_bits (lsBits_no (by omega)))).1, (lsDec_range hw (lsDecB_bits (lsBits_no (by omega)))).2]
        go_enter Try.func11, Try.ntmps11
        go_wp2_with (first
          | (go_at_call 24; refine (refWide_any _ _).mono ?_; rintro e w' ⟨rfl, rfl⟩)
          | fail)
        go_ret2
        exact ⟨rfl, rfl⟩
      · have HK := Lib.hid (wrap_ipow K (by omega))
        by_cases c3 : r < 0
        · clear HW HK
          rw [(lsDec_range hw (lsDecB_ref (lsBelow_no (fun h => by omega)))).1, (lsDec_range hw (lsDecB_ref (lsBelow_no (fun h => by omega)))).2]
          go_enter Try.func11, Try.ntmps11
          go_wp2_with (first
            | (go_at_call 24; refine (refWide_any _ _).mono ?_; rintro e w' ⟨rfl, rfl⟩)
            | fail)
          go_ret2
          exact ⟨rfl, rfl⟩
        · by_cases c4 : wrap64 (2 ^ W) ≤ r
          · have X : lsBelow W r = false := lsBelow_no (fun h => by rw [HW.out] at c4; have := h.2; rw [Int.toNat_natCast] at this; exact absurd this (by exact Int.not_lt.2 c4))
            clear HW HK
            rw [(lsDec_range hw (lsDecB_ref X)).1, (lsDec_range hw (lsDecB_ref X)).2]
            go_enter Try.func11, Try.ntmps11
            go_wp2_with (first
              | (go_at_call 24; refine (refWide_any _ _).mono ?_; rintro e w' ⟨rfl, rfl⟩)
              | fail)
            go_ret2
            exact ⟨rfl, rfl⟩
          · by_cases c5 : l < 0
            · clear HW HK
              rw [(lsDec_range hw (lsDecB_low (lsBelow_no (fun h => by omega)))).1, (lsDec_range hw (lsDecB_low (lsBelow_no (fun h => by omega)))).2]
              go_enter Try.func11, Try.ntmps11
              go_wp2_with (first
                | (go_at_call 24; refine (refWide_any _ _).mono ?_; rintro e w' ⟨rfl, rfl⟩)
                | fail)
              go_ret2
              exact ⟨rfl, rfl⟩
            · by_cases c6 : wrap64 (2 ^ K) ≤ l
              · have X : lsBelow K l = false := lsBelow_no (fun h => by rw [HK.out] at c6; have := h.2; rw [Int.toNat_natCast] at this; exact absurd this (by exact Int.not_lt.2 c6))
                clear HW HK
                rw [(lsDec_range hw (lsDecB_low X)).1, (lsDec_range hw (lsDecB_low X)).2]
                go_enter Try.func11, Try.ntmps11
                go_wp2_with (first
                  | (go_at_call 24; refine (refWide_any _ _).mono ?_; rintro e w' ⟨rfl, rfl⟩)
                  | fail)
                go_ret2
                exact ⟨rfl, rfl⟩
              · have hk : lsBits W K = true := lsBits_yes (by omega)
                have hr : lsBelow W r = true := lsBelow_yes (by rw [Int.toNat_natCast]; rw [HW.out] at c4; exact ⟨Int.not_lt.1 c3, Int.not_le.1 c4⟩)
                have hl : lsBelow K l = true := lsBelow_yes (by rw [Int.toNat_natCast]; rw [HK.out] at c6; exact ⟨Int.not_lt.1 c5, Int.not_le.1 c6⟩)
                have hr2 := lsBelow_lt hw hr
                have ho := offV_bd K
                rw [(lsDec_ok hw (lsDecB_all hk hr hl)).1, (lsDec_ok hw (lsDecB_all hk hr hl)).2]
                have H := Lib.hid (refMean_wrap W r K l)
                clear hk hr hl HW HK
                go_enter Try.func11, Try.ntmps11
                go_wp2_with (first
                  | (go_at_call 24; refine (refWide_any _ _).mono ?_; rintro e w' ⟨rfl, rfl⟩)
                  | (go_at_call 13; refine (refOffset_any _ _).mono ?_; rintro e w' ⟨rfl, rfl⟩)
                  | (go_at_call 25; refine (refDistance_any _ _ _ _).mono ?_; rintro e w' ⟨rfl, rfl⟩)
                  | (go_at_call 9; refine (refLow_any _ _ _).mono ?_; rintro e w' ⟨rfl, rfl⟩)
                  | fail)
                go_ret2
                exact ⟨ret_pair H.out rfl, rfl⟩
  · have hw2 : lsWide n = false := by simpa using hw
    clear hw
    rw [(lsDec_kind hw2).1, (lsDec_kind hw2).2]
    go_enter Try.func11, Try.ntmps11
    go_wp2_with (first
      | (go_at_call 24; refine (refWide_any _ _).mono ?_; rintro e w' ⟨rfl, rfl⟩)
      | fail)
    go_ret2
    exact ⟨rfl, rfl⟩
end Go.Proofs.Ytlpnpecohndpbaa
