/-
  What the functions of layer 7 return.
-/
import Derived.Test.YtlpnpecohndpbaaLsbPlain
import Derived.Test.YtlpnpecohndpbaaSerLow
namespace Go.Proofs.Ytlpnpecohndpbaa
open Go Go.RowKit

theorem lsWide_any (x : Int) (w : World) :
    Calls Try.prog 19 #[.int .i64 x] w fun e w' => e = .returned (.bool (lsWide x)) ∧ w = w' := by
  by_cases h8 : x = 8
  · subst h8
    go_enter Try.func19, Try.ntmps19
    go_wp2
    go_ret
    exact ⟨rfl, rfl⟩
  · by_cases h16 : x = 16
    · subst h16
      go_enter Try.func19, Try.ntmps19
      go_wp2
      go_ret
      exact ⟨rfl, rfl⟩
    · have e8 : (x == 8) = false := by simpa using h8
      have e16 : (x == 16) = false := by simpa using h16
      have e32 : Hid (lsWide x = (x == 32)) := by show decide _ = _; simp [h8, h16, Bool.beq_eq_decide_eq]
      go_enter Try.func19, Try.ntmps19
      go_wp2
      go_ret
      exact ⟨ret_bool e32.out.symm, rfl⟩

theorem lsBits_any (n k : Int) (w : World) :
    Calls Try.prog 20 #[.int .i64 n, .int .i64 k] w fun e w' => e = .returned (.bool (lsBits n k)) ∧ w = w' := by
  by_cases h : 3 ≤ k
  · go_enter Try.func20, Try.ntmps20
    go_wp2
    go_ret
    exact ⟨ret_bool (by unfold lsBits; simp [h]), rfl⟩
  · go_enter Try.func20, Try.ntmps20
    go_wp2
    go_ret
    exact ⟨ret_bool (by unfold lsBits; simp; omega), rfl⟩

theorem lsBelow_any (n x : Int) (w : World) (hn : 0 ≤ n ∧ n ≤ 32) :
    Calls Try.prog 21 #[.int .i64 n, .int .i64 x] w fun e w' => e = .returned (.bool (lsBelow n x)) ∧ w = w' := by
  obtain ⟨N, rfl⟩ := Int.eq_ofNat_of_zero_le hn.1
  have hN : N ≤ 32 := by omega
  have H := Lib.hid (wrap_ipow N hN)
  by_cases h : 0 ≤ x
  · go_enter Try.func21, Try.ntmps21
    go_wp2
    go_ret
    refine ⟨ret_bool ?_, rfl⟩
    show decide (x < wrap64 (2 ^ N)) = _
    rw [H.out, lsBelow_nat]; simp [h]
  · rw [lsBelow_no (fun h2 => h h2.1)]
    go_enter Try.func21, Try.ntmps21
    go_wp2
    go_ret
    exact ⟨rfl, rfl⟩

theorem Offset_any (k : Int) (w : World) :
    Calls Try.prog 12 #[.int .i64 k] w fun e w' => e = .returned (.int .i64 (offV k)) ∧ w = w' := by
  by_cases h : 3 ≤ k ∧ k ≤ 32
  · obtain ⟨K, rfl⟩ := Int.eq_ofNat_of_zero_le (show 0 ≤ k by omega)
    obtain ⟨J, rfl⟩ : ∃ J, K = J + 3 := ⟨K - 3, by omega⟩
    have H := Lib.hid (offV_nat (J + 3) (by omega))
    go_enter Try.func12, Try.ntmps12
    go_wp2
    go_ret
    refine ⟨ret_int ?_, rfl⟩
    rw [H.out]
    exact wrap_imask J (by omega)
  · rw [offV_no h]
    by_cases h2 : 3 ≤ k
    all_goals
      go_enter Try.func12, Try.ntmps12
      go_wp2
      go_ret
      exact ⟨rfl, rfl⟩

theorem ret_ints {a b c d : Int} (h : a = c) (h2 : b = d) : Ending.returned (.tuple #[.int .i64 a, .int .i64 b]) = .returned (.tuple #[.int .i64 c, .int .i64 d]) := by rw [h, h2]
theorem lsMean_wrap (w r k l : Int) : lowV w (wrap64 (r - offV k + distV k (r - offV k) l)) = lsMean w r k l := by
  rw [low_wrap]; rfl

set_option maxHeartbeats 800000 in
theorem lsDecode_any (n r k l : Int) (w : World) :
    Calls Try.prog 10 #[.int .i64 n, .int .i64 r, .int .i64 k, .int .i64 l] w fun e w' => e = .returned (.tuple #[.int .i64 (lsDecV n r k l), .int .i64 (lsDecE n r k l)]) ∧ w = w' := by
  by_cases hw : lsWide n = true
  · have hn := lsWide_of hw
    by_cases hk : lsBits n k = true
    · have hk2 := lsBits_of hk
      by_cases hr : lsBelow n r = true
      · by_cases hl : lsBelow k l = true
        · have hr2 := lsBelow_lt hw hr
          have ho := offV_bd k
          rw [(lsDec_ok hw (lsDecB_all hk hr hl)).1, (lsDec_ok hw (lsDecB_all hk hr hl)).2]
          have H := Lib.hid (lsMean_wrap n r k l)
          go_enter Try.func10, Try.ntmps10
          go_wp2_with (first
            | (go_at_call 19; refine (lsWide_any _ _).mono ?_; rintro e w' ⟨rfl, rfl⟩)
            | (go_at_call 20; refine (lsBits_any _ _ _).mono ?_; rintro e w' ⟨rfl, rfl⟩)
            | (go_at_call 21; refine (lsBelow_any _ _ _ (by omega)).mono ?_; rintro e w' ⟨rfl, rfl⟩)
            | (go_at_call 12; refine (Offset_any _ _).mono ?_; rintro e w' ⟨rfl, rfl⟩)
            | (go_at_call 23; refine (Distance_any _ _ _ _).mono ?_; rintro e w' ⟨rfl, rfl⟩)
            | (go_at_call 22; refine (Low_any _ _ _).mono ?_; rintro e w' ⟨rfl, rfl⟩)
            | fail)
          go_ret2
          exact ⟨ret_ints H.out rfl, rfl⟩
        · have hl2 : lsBelow k l = false := by simpa using hl
          clear hl
          rw [(lsDec_range hw (lsDecB_low hl2)).1, (lsDec_range hw (lsDecB_low hl2)).2]
          go_enter Try.func10, Try.ntmps10
          go_wp2_with (first
            | (go_at_call 19; refine (lsWide_any _ _).mono ?_; rintro e w' ⟨rfl, rfl⟩)
            | (go_at_call 20; refine (lsBits_any _ _ _).mono ?_; rintro e w' ⟨rfl, rfl⟩)
            | (go_at_call 21; refine (lsBelow_any _ _ _ (by omega)).mono ?_; rintro e w' ⟨rfl, rfl⟩)
            | fail)
          go_ret2
          exact ⟨rfl, rfl⟩
      · have hr2 : lsBelow n r = false := by simpa using hr
        clear hr
        rw [(lsDec_range hw (lsDecB_ref hr2)).1, (lsDec_range hw (lsDecB_ref hr2)).2]
        go_enter Try.func10, Try.ntmps10
        go_wp2_with (first
          | (go_at_call 19; refine (lsWide_any _ _).mono ?_; rintro e w' ⟨rfl, rfl⟩)
          | (go_at_call 20; refine (lsBits_any _ _ _).mono ?_; rintro e w' ⟨rfl, rfl⟩)
          | (go_at_call 21; refine (lsBelow_any _ _ _ (by omega)).mono ?_; rintro e w' ⟨rfl, rfl⟩)
          | fail)
        go_ret2
        exact ⟨rfl, rfl⟩
    · have hk2 : lsBits n k = false := by simpa using hk
      clear hk
      rw [(lsDec_range hw (lsDecB_bits hk2)).1, (lsDec_range hw (lsDecB_bits hk2)).2]
      go_enter Try.func10, Try.ntmps10
      go_wp2_with (first
        | (go_at_call 19; refine (lsWide_any _ _).mono ?_; rintro e w' ⟨rfl, rfl⟩)
        | (go_at_call 20; refine (lsBits_any _ _ _).mono ?_; rintro e w' ⟨rfl, rfl⟩)
        | (go_at_call 21; refine (lsBelow_any _ _ _ (by omega)).mono ?_; rintro e w' ⟨rfl, rfl⟩)
        | fail)
      go_ret2
      exact ⟨rfl, rfl⟩
  · have hw2 : lsWide n = false := by simpa using hw
    clear hw
    rw [(lsDec_kind hw2).1, (lsDec_kind hw2).2]
    go_enter Try.func10, Try.ntmps10
    go_wp2_with (first
      | (go_at_call 19; refine (lsWide_any _ _).mono ?_; rintro e w' ⟨rfl, rfl⟩)
      | (go_at_call 20; refine (lsBits_any _ _ _).mono ?_; rintro e w' ⟨rfl, rfl⟩)
      | (go_at_call 21; refine (lsBelow_any _ _ _ (by omega)).mono ?_; rintro e w' ⟨rfl, rfl⟩)
      | fail)
    go_ret2
    exact ⟨rfl, rfl⟩

set_option maxHeartbeats 1600000 in
theorem lsFits_any (n k v : Int) (a : Option Addr) (m cap : Nat) (rs : List Int) (w : World) (hs : Sl .i64 w a m rs) :
    Calls Try.prog 14 #[.int .i64 n, .slice a m cap, .int .i64 k, .int .i64 v] w fun e w' => e = .returned (.bool (lsFits n rs k v)) ∧ w = w' := by
  by_cases hw : lsWide n = true
  · have hn := lsWide_of hw
    by_cases hk : lsBits n k = true
    · have hk2 := lsBits_of hk
      by_cases hv : lsBelow n v = true
      · rw [lsFits_to (lsSay_all hw hk hv), hs.len]
        have hr := hs.reach
        have Hs := Lib.hid hs
        clear hs
        go_enter Try.func14, Try.ntmps14
        go_wp2_with (first
          | (go_at_call 19; refine (lsWide_any _ _).mono ?_; rintro e w' ⟨rfl, rfl⟩)
          | (go_at_call 20; refine (lsBits_any _ _ _).mono ?_; rintro e w' ⟨rfl, rfl⟩)
          | (go_at_call 21; refine (lsBelow_any _ _ _ (by omega)).mono ?_; rintro e w' ⟨rfl, rfl⟩)
          | (go_at_call 22; refine (Low_any _ _ _).mono ?_; rintro e w' ⟨rfl, rfl⟩)
          | fail)
        go_loop [34] (fun x => ∃ j : Nat, j ≤ m ∧ x = .int .i64 j ∧ lsFitsTo n k v rs j = true) (fun x => m - (intOf x).toNat)
        case atStart => exact ⟨0, by omega, by simp, rfl⟩
        case round =>
          obtain ⟨j, hj, rfl, hf⟩ := hrel
          have Hf := Lib.hid hf
          clear hf
          by_cases hlt : j < m
          · obtain ⟨b, off, rfl⟩ := Hs.out.head (by omega)
            have hc := Hs.out.at hlt
            have D := Lib.hid (fun W => lsDecode_any n (rs.getD j 0) k (lowV k v) W)
            have HF : Hid (lsFitsTo n k v rs (j + 1) = (lsFitsTo n k v rs j && lsFit n k v (rs.getD j 0))) := rfl
            have HN := Lib.hid (fun h => lsFitsTo_no (w := n) (k := k) (v := v) (rs := rs) hlt h)
            have HD : Hid (lsFit n k v (rs.getD j 0) = (decide (lsDecE n (rs.getD j 0) k (lowV k v) = 0) && decide (lsDecV n (rs.getD j 0) k (lowV k v) = v))) := rfl
            generalize lsFit n k v (rs.getD j 0) = F at HF HN HD
            generalize lsDecE n (rs.getD j 0) k (lowV k v) = E at D HD
            generalize lsDecV n (rs.getD j 0) k (lowV k v) = V at D HD
            generalize rs.getD j 0 = x at hc D
            by_cases hE : E = 0
            · subst hE
              by_cases hV : v = V
              · subst hV
                go_wp2_with (first | (go_at_call 10; refine (D.out _).mono ?_; rintro e w' ⟨rfl, rfl⟩) | fail)
                go_round
                case rel => exact ⟨j + 1, by omega, by go_num, by rw [HF.out, Hf.out, HD.out]; simp⟩
                case measure => simp [intOf]; omega
              · have HX := Lib.hid (HN.out (by rw [HD.out]; simp; omega))
                have e1 : (V == v) = false := by simp; omega
                have e2 : (V != v) = true := by simp; omega
                clear hV
                go_wp2_with (first | (go_at_call 10; refine (D.out _).mono ?_; rintro e w' ⟨rfl, rfl⟩) | fail)
                go_ret
                exact ⟨ret_bool HX.out.symm, rfl⟩
            · have HX := Lib.hid (HN.out (by rw [HD.out]; simp [hE]))
              have e1 : (E == 0) = false := by simp; omega
              have e2 : (E != 0) = true := by simp; omega
              clear hE
              go_wp2_with (first | (go_at_call 10; refine (D.out _).mono ?_; rintro e w' ⟨rfl, rfl⟩) | fail)
              go_ret
              exact ⟨ret_bool HX.out.symm, rfl⟩
          · obtain rfl : j = m := by omega
            go_wp2
            go_ret
            exact ⟨ret_bool Hf.out.symm, rfl⟩
      · have hv2 : lsBelow n v = false := by simpa using hv
        clear hv
        rw [lsFits_say (lsSay_below hv2)]
        clear hs
        go_enter Try.func14, Try.ntmps14
        go_wp2_with (first
          | (go_at_call 19; refine (lsWide_any _ _).mono ?_; rintro e w' ⟨rfl, rfl⟩)
          | (go_at_call 20; refine (lsBits_any _ _ _).mono ?_; rintro e w' ⟨rfl, rfl⟩)
          | (go_at_call 21; refine (lsBelow_any _ _ _ (by omega)).mono ?_; rintro e w' ⟨rfl, rfl⟩)
          | fail)
        go_ret
        exact ⟨ret_bool rfl, rfl⟩
    · have hk2 : lsBits n k = false := by simpa using hk
      clear hk
      rw [lsFits_say (lsSay_bits hk2)]
      clear hs
      go_enter Try.func14, Try.ntmps14
      go_wp2_with (first
        | (go_at_call 19; refine (lsWide_any _ _).mono ?_; rintro e w' ⟨rfl, rfl⟩)
        | (go_at_call 20; refine (lsBits_any _ _ _).mono ?_; rintro e w' ⟨rfl, rfl⟩)
        | fail)
      go_ret
      exact ⟨ret_bool rfl, rfl⟩
  · have hw2 : lsWide n = false := by simpa using hw
    clear hw
    rw [lsFits_say (lsSay_wide hw2)]
    clear hs
    go_enter Try.func14, Try.ntmps14
    go_wp2_with (first
      | (go_at_call 19; refine (lsWide_any _ _).mono ?_; rintro e w' ⟨rfl, rfl⟩)
      | fail)
    go_ret
    exact ⟨ret_bool rfl, rfl⟩

set_option maxHeartbeats 800000 in
theorem lsLeast_any (n v : Int) (a : Option Addr) (m cap : Nat) (rs : List Int) (w : World) (hs : Sl .i64 w a m rs) :
    Calls Try.prog 16 #[.int .i64 n, .slice a m cap, .int .i64 v] w fun e w' => e = .returned (.int .i64 (lsLeast n rs v)) ∧ w = w' := by
  have F := Lib.hid (fun k => lsFits_any n k v a m cap rs w hs)
  clear hs
  have HL : Hid (lsLeast n rs v = lsFrom n rs v 30 3) := rfl
  generalize lsLeast n rs v = L at HL
  go_enter Try.func16, Try.ntmps16
  go_wp2
  go_loop [7] (fun x => ∃ j : Nat, j ≤ 30 ∧ x = .int .i64 ((3 + j : Nat) : Int) ∧ L = lsFrom n rs v (30 - j) ((3 + j : Nat) : Int)) (fun x => 33 - (intOf x).toNat)
  case atStart => exact ⟨0, by omega, by simp, HL.out⟩
  case round =>
    obtain ⟨j, hj, rfl, hl⟩ := hrel
    have Hl := Lib.hid hl
    clear hl
    by_cases hlt : j < 30
    · obtain ⟨i, hi⟩ : ∃ i, 30 - j = i + 1 := ⟨29 - j, by omega⟩
      have HS : Hid (lsFrom n rs v (30 - j) ((3 + j : Nat) : Int) = if lsFits n rs ((3 + j : Nat) : Int) v then ((3 + j : Nat) : Int) else lsFrom n rs v i (((3 + j : Nat) : Int) + 1)) := by rw [hi]; rfl
      have C := Lib.hid (F.out ((3 + j : Nat) : Int))
      generalize lsFits n rs ((3 + j : Nat) : Int) v = B at HS C
      cases B
      · have HS2 := Lib.hid (HS.out.trans (if_neg (by simp)))
        clear HS
        go_wp2_with (first | (go_at_call 14; refine C.out.mono ?_; rintro e w' ⟨rfl, rfl⟩) | fail)
        go_round
        case rel => exact ⟨j + 1, by omega, by go_num, by rw [Hl.out, HS2.out, show 30 - (j + 1) = i by omega]; congr 1⟩
        case measure => simp [intOf]; omega
      · have HS2 := Lib.hid (HS.out.trans (if_pos rfl))
        clear HS
        go_wp2_with (first | (go_at_call 14; refine C.out.mono ?_; rintro e w' ⟨rfl, rfl⟩) | fail)
        go_ret
        exact ⟨ret_int (by rw [Hl.out, HS2.out]; omega), rfl⟩
    · obtain rfl : j = 30 := by omega
      go_wp2
      go_ret
      exact ⟨ret_int Hl.out.symm, rfl⟩
end Go.Proofs.Ytlpnpecohndpbaa
