/-
  What Fits and Least of the document's own layer 7 return.
-/
import Derived.Test.YtlpnpecohndpbaaLsbRef
import Derived.WalkSmall
import Derived.Deep.QuietTactic
import Derived.BigQuiet
namespace Go.Proofs.Ytlpnpecohndpbaa
open Go Go.RowKit

set_option maxHeartbeats 3200000 in
theorem refFits_any (n k v : Int) (a : Option Addr) (m cap : Nat) (rs : List Int) (w : World) (hs : Sl .i64 w a m rs) :
    Calls Try.prog 15 #[.int .i64 n, .slice a m cap, .int .i64 k, .int .i64 v] w fun e w' => e = .returned (.bool (lsFits n rs k v)) ∧ Below w.heap.size w w' := by
  by_cases hw : lsWide n = true
  · have hn := lsWide_of hw
    obtain ⟨W, rfl⟩ := Int.eq_ofNat_of_zero_le (show 0 ≤ n by omega)
    have HW := Lib.hid (wrap_ipow W (by omega))
    by_cases c1 : k < 3
    · clear HW
      rw [lsFits_say (lsSay_bits (lsBits_no (by omega)))]
      clear hs
      go_enter Try.func15, Try.ntmps15
      go_wp2_with (first | (go_at_call 24; refine (refWide_any _ _).mono ?_; rintro e w' ⟨rfl, rfl⟩) | fail)
      go_ret
      exact ⟨rfl, Below.refl _ _⟩
    · by_cases c2 : (W : Int) < k
      · clear HW
        rw [lsFits_say (lsSay_bits (lsBits_no (by omega)))]
        clear hs
        go_enter Try.func15, Try.ntmps15
        go_wp2_with (first | (go_at_call 24; refine (refWide_any _ _).mono ?_; rintro e w' ⟨rfl, rfl⟩) | fail)
        go_ret
        exact ⟨rfl, Below.refl _ _⟩
      · by_cases c3 : v < 0
        · clear HW
          rw [lsFits_say (lsSay_below (lsBelow_no (fun h => by omega)))]
          clear hs
          go_enter Try.func15, Try.ntmps15
          go_wp2_with (first | (go_at_call 24; refine (refWide_any _ _).mono ?_; rintro e w' ⟨rfl, rfl⟩) | fail)
          go_ret
          exact ⟨rfl, Below.refl _ _⟩
        · by_cases c4 : wrap64 (2 ^ W) ≤ v
          · have X : lsBelow W v = false := lsBelow_no (fun h => by rw [HW.out] at c4; have := h.2; rw [Int.toNat_natCast] at this; exact absurd this (by exact Int.not_lt.2 c4))
            clear HW
            rw [lsFits_say (lsSay_below X)]
            clear hs
            go_enter Try.func15, Try.ntmps15
            go_wp2_with (first | (go_at_call 24; refine (refWide_any _ _).mono ?_; rintro e w' ⟨rfl, rfl⟩) | fail)
            go_ret
            exact ⟨rfl, Below.refl _ _⟩
          · have hk : lsBits W k = true := lsBits_yes (by omega)
            have hv : lsBelow W v = true := lsBelow_yes (by rw [Int.toNat_natCast]; rw [HW.out] at c4; exact ⟨Int.not_lt.1 c3, Int.not_le.1 c4⟩)
            rw [lsFits_to (lsSay_all hw hk hv), hs.len]
            have hr := hs.reach
            have Hs := Lib.hid hs
            clear hs hk hv HW
            go_enter Try.func15, Try.ntmps15
            go_wp2_with (first | (go_at_call 24; refine (refWide_any _ _).mono ?_; rintro e w' ⟨rfl, rfl⟩) | fail)
            go_loopw [9] (fun x wr => ∃ j : Nat, j ≤ m ∧ x = .int .i64 j ∧ lsFitsTo W k v rs j = true ∧ Below w.heap.size w wr) (fun x _ => m - (intOf x).toNat)
            case atStart => exact ⟨0, by omega, by simp, rfl, Below.refl _ _⟩
            case round =>
              obtain ⟨j, hj, rfl, hf, hb⟩ := hrel
              have Hf := Lib.hid hf
              have Hb := Lib.hid hb
              clear hf hb
              by_cases hlt : j < m
              · have Hs1 := Lib.hid (Hs.out.keep Hb.out)
                obtain ⟨b, off, rfl⟩ := Hs.out.head (by omega)
                have hc := Hs1.out.at hlt
                have h0j : (0 : Int) ≤ (j : Int) := by omega
                have hjm : (j : Int) < (m : Int) := by omega
                have D := Lib.hid (fun X => refDecode_any W (rs.getD j 0) k (lowV k v) X)
                have HF : Hid (lsFitsTo W k v rs (j + 1) = (lsFitsTo W k v rs j && lsFit W k v (rs.getD j 0))) := rfl
                have HN := Lib.hid (fun h => lsFitsTo_no (w := W) (k := k) (v := v) (rs := rs) hlt h)
                have HD : Hid (lsFit W k v (rs.getD j 0) = (decide (lsDecE W (rs.getD j 0) k (lowV k v) = 0) && decide (lsDecV W (rs.getD j 0) k (lowV k v) = v))) := rfl
                generalize lsFit W k v (rs.getD j 0) = F at HF HN HD
                generalize lsDecE W (rs.getD j 0) k (lowV k v) = E at D HD
                generalize lsDecV W (rs.getD j 0) k (lowV k v) = V at D HD
                generalize rs.getD j 0 = x at hc D
                by_cases hE : E = 0
                · subst hE
                  by_cases hV : v = V
                  · subst hV
                    go_wp2_with fail
                    go_quiet ((first | (go_at_call 9; exact Calls.quiet_of_same ((refLow_any _ _ _).mono (fun e w' h => ⟨h.1, h.2.symm⟩))) | (go_at_call 11; exact Calls.quiet_of_same ((D.out _).mono (fun e w' h => ⟨h.1, h.2.symm⟩))) | fail))
                    go_wp2
                    go_roundw
                    case rel => exact ⟨j + 1, by omega, by go_num, by rw [HF.out, Hf.out, HD.out]; simp, below_drewN Hb.out _⟩
                    case measure => simp [intOf]; omega
                  · have HX := Lib.hid (HN.out (by rw [HD.out]; simp; omega))
                    have e1 : (V == v) = false := by simp; omega
                    have e2 : (V != v) = true := by simp; omega
                    clear hV
                    go_wp2_with fail
                    go_quiet ((first | (go_at_call 9; exact Calls.quiet_of_same ((refLow_any _ _ _).mono (fun e w' h => ⟨h.1, h.2.symm⟩))) | (go_at_call 11; exact Calls.quiet_of_same ((D.out _).mono (fun e w' h => ⟨h.1, h.2.symm⟩))) | fail))
                    go_wp2
                    go_ret
                    exact ⟨ret_bool HX.out.symm, below_drewN Hb.out _⟩
                · have HX := Lib.hid (HN.out (by rw [HD.out]; simp [hE]))
                  have e1 : (E == 0) = false := by simp; omega
                  have e2 : (E != 0) = true := by simp; omega
                  clear hE
                  go_wp2_with fail
                  go_quiet ((first | (go_at_call 9; exact Calls.quiet_of_same ((refLow_any _ _ _).mono (fun e w' h => ⟨h.1, h.2.symm⟩))) | (go_at_call 11; exact Calls.quiet_of_same ((D.out _).mono (fun e w' h => ⟨h.1, h.2.symm⟩))) | fail))
                  go_wp2
                  go_ret
                  exact ⟨ret_bool HX.out.symm, below_drewN Hb.out _⟩
              · obtain rfl : j = m := by omega
                go_wp2
                go_ret
                exact ⟨ret_bool Hf.out.symm, Hb.out⟩
  · have hw2 : lsWide n = false := by simpa using hw
    clear hw
    rw [lsFits_say (lsSay_wide hw2)]
    clear hs
    go_enter Try.func15, Try.ntmps15
    go_wp2_with (first | (go_at_call 24; refine (refWide_any _ _).mono ?_; rintro e w' ⟨rfl, rfl⟩) | fail)
    go_ret
    exact ⟨rfl, Below.refl _ _⟩

set_option maxHeartbeats 1600000 in
theorem refLeast_any (n v : Int) (a : Option Addr) (m cap : Nat) (rs : List Int) (w : World) (hs : Sl .i64 w a m rs) :
    Calls Try.prog 17 #[.int .i64 n, .slice a m cap, .int .i64 v] w fun e w' => e = .returned (.int .i64 (lsLeast n rs v)) ∧ Below w.heap.size w w' := by
  have F := Lib.hid (fun k X hb => refFits_any n k v a m cap rs X (hs.keep (w' := X) hb))
  clear hs
  by_cases hw : lsWide n = true
  · have hn := lsWide_of hw
    have HL : Hid (lsLeast n rs v = lsFrom n rs v 30 3) := rfl
    have HP := Lib.hid (fun j h => lsFrom_past (w := n) (rs := rs) (v := v) j h)
    generalize lsLeast n rs v = L at HL
    go_enter Try.func17, Try.ntmps17
    go_wp2_with (first | (go_at_call 24; refine (refWide_any _ _).mono ?_; rintro e w' ⟨rfl, rfl⟩) | fail)
    go_loopw [7] (fun x wr => ∃ j : Nat, j ≤ 30 ∧ x = .int .i64 ((3 + j : Nat) : Int) ∧ L = lsFrom n rs v (30 - j) ((3 + j : Nat) : Int) ∧ Below w.heap.size w wr) (fun x _ => 33 - (intOf x).toNat)
    case atStart => exact ⟨0, by omega, by simp, HL.out, Below.refl _ _⟩
    case round =>
      obtain ⟨j, hj, rfl, hl, hb⟩ := hrel
      have Hl := Lib.hid hl
      have Hb := Lib.hid hb
      clear hl hb
      by_cases hlt : ((3 + j : Nat) : Int) ≤ n
      · obtain ⟨i, hi⟩ : ∃ i, 30 - j = i + 1 := ⟨29 - j, by omega⟩
        have HS : Hid (lsFrom n rs v (30 - j) ((3 + j : Nat) : Int) = if lsFits n rs ((3 + j : Nat) : Int) v then ((3 + j : Nat) : Int) else lsFrom n rs v i (((3 + j : Nat) : Int) + 1)) := by rw [hi]; rfl
        have C := Lib.hid (F.out ((3 + j : Nat) : Int) _ Hb.out)
        generalize lsFits n rs ((3 + j : Nat) : Int) v = B at HS C
        cases B
        · have HS2 := Lib.hid (HS.out.trans (if_neg (by simp)))
          clear HS
          go_wp2_with (first | (go_at_call 15; refine C.out.mono ?_; rintro e w2 ⟨rfl, hb2⟩) | fail)
          go_roundw
          case rel => exact ⟨j + 1, by omega, by go_num, (by rw [Hl.out, HS2.out, show 30 - (j + 1) = i by omega]; congr 1), Hb.out.trans (hb2.mono Hb.out.size)⟩
          case measure => simp [intOf]; omega
        · have HS2 := Lib.hid (HS.out.trans (if_pos rfl))
          clear HS
          go_wp2_with (first | (go_at_call 15; refine C.out.mono ?_; rintro e w2 ⟨rfl, hb2⟩) | fail)
          go_ret
          exact ⟨ret_int (by rw [Hl.out, HS2.out]; omega), Hb.out.trans (hb2.mono Hb.out.size)⟩
      · have HZ := Lib.hid (Hl.out.trans (HP.out (30 - j) ((3 + j : Nat) : Int) (by omega)))
        go_wp2
        go_ret
        exact ⟨ret_int HZ.out.symm, Hb.out⟩
  · have hw2 : lsWide n = false := by simpa using hw
    clear hw F
    have HZ : lsLeast n rs v = 0 := lsFrom_wide hw2 30 3
    rw [HZ]
    clear HZ
    go_enter Try.func17, Try.ntmps17
    go_wp2_with (first | (go_at_call 24; refine (refWide_any _ _).mono ?_; rintro e w' ⟨rfl, rfl⟩) | fail)
    go_ret
    exact ⟨rfl, Below.refl _ _⟩
end Go.Proofs.Ytlpnpecohndpbaa
