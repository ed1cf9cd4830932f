/-
  What Sum and Next of layer 3 return, and the document's own.
-/
import Derived.Test.YthbganohmcomjaaChkFns
namespace Go.Proofs.Ythbganohmcomjaa
open Go Go.RowKit Go.Maps

def sumV (k : Int) (zs : List Int) : Int := if kindB k then (regOf k.toNat (polyN k.toNat) (2 ^ k.toNat - 1) zs : Nat) else 0
def sumE (k : Int) : Int := if kindB k then 0 else 7
def regB (k r : Int) : Bool := decide (0 ≤ r ∧ r < 2 ^ k.toNat)
def nextV (k r : Int) (zs : List Int) : Int := if kindB k then (if regB k r then (regOf k.toNat (polyN k.toNat) r.toNat zs : Nat) else 0) else 0
def nextE (k r : Int) : Int := if kindB k then (if regB k r then 0 else 3) else 7

theorem lit_int_eq {H : Type} {a b : Int} (h : (DataW.lit (.int .i64 a) : DataW H) = .lit (.int .i64 b)) : b = a := by cases h; rfl
theorem sum_kd {k P : Nat} (h : Kd k P) (zs : List Int) : sumV k zs = (regOf k P (2 ^ k - 1) zs : Nat) ∧ sumE k = 0 := by
  unfold sumV sumE
  rw [(kindB_kd h).1, if_pos rfl, if_pos rfl, Int.toNat_natCast, h.poly]
  exact ⟨rfl, rfl⟩
theorem next_kd {k P r : Nat} (h : Kd k P) (hr : r < 2 ^ k) (zs : List Int) : nextV k r zs = (regOf k P r zs : Nat) ∧ nextE k r = 0 := by
  have hb : regB k r = true := decide_eq_true (by rw [Int.toNat_natCast, ipow_nat]; omega)
  unfold nextV nextE
  rw [(kindB_kd h).1, hb, if_pos rfl, if_pos rfl, if_pos rfl, if_pos rfl, Int.toNat_natCast, Int.toNat_natCast, h.poly]
  exact ⟨rfl, rfl⟩
theorem next_out {k P : Nat} {r : Int} (h : Kd k P) (hr : regB k r = false) (zs : List Int) : nextV k r zs = 0 ∧ nextE k r = 3 := by
  unfold nextV nextE
  rw [(kindB_kd h).1, hr]
  exact ⟨rfl, rfl⟩

set_option maxRecDepth 100000 in
set_option maxHeartbeats 1000000 in
theorem Sum_any (k : Int) (a : Option Addr) (n cap : Nat) (zs : List Int) (w : World) (hs : Sl .u8 w a n zs) (hk : -9223372036854775808 ≤ k ∧ k ≤ 9223372036854775807) :
    Calls Try.prog 10 #[.int .i64 k, .slice a n cap] w fun e w' => e = .returned (.tuple #[.int .i64 (sumV k zs), .int .i64 (sumE k)]) ∧ Below w.heap.size w w' := by
  have hwf : (Lit.int .i64 k).wf = true := by simpa [Lit.wf, IntKind.min, IntKind.max, IntKind.signed, IntKind.bits] using hk
  have Hs := Lib.hid hs
  have T := Lib.hid (tab_at (H := Unit) k)
  have T2 := Lib.hid (tab_has (H := Unit) k)
  clear hs
  by_cases hb : kindB k = true
  · obtain ⟨K, P, rfl, hP, hpo⟩ := kindB_yes hb
    obtain ⟨hv, he⟩ := sum_kd hP zs
    have h1 := hP.one
    have h2 := hP.most
    have hlt := Nat.two_pow_pos K
    rw [hv, he]
    have HP := Lib.hid hP
    rw [hpo] at T
    have e1 : ((2 : Int) ^ K - 1) = ((2 ^ K - 1 : Nat) : Int) := by rw [ipow_nat]; omega
    have E1 := Lib.hid e1
    clear hv he hpo hP e1
    go_enter Try.func10, Try.ntmps10
    go_wp2_with (first
      | (go_at_call 15; refine (polynomials_any (H := Unit) _).mono ?_; rintro e w1 ⟨rfl, ho, hbl⟩)
      | (at_lookup; refine wpList_lookup_own_ok_int _ rfl _ _ 39 rfl 3 3 .i64 kMap Try.underlying39 Try.underlying3 (zeroInt _) w.heap.size 5 _ rfl ho _ _ rfl (keyOf_int_mk Try.underlying3 hwf) ?_; intro c hat hwc; obtain rfl := lit_int_eq (T.out.symm.trans hat); rw [T2.out]; clear hat hwc)
      | (go_at_call 17; refine (ones_any _ _ (by omega)).mono ?_; rintro e w' ⟨rfl, rfl⟩; rw [E1.out])
      | (go_at_call 16; refine (behind_any K P _ _ _ _ zs _ HP.out (by omega) (Hs.out.keep hbl)).mono ?_; rintro e w' ⟨rfl, rfl⟩))
    go_ret2
    exact ⟨rfl, hbl⟩
  · have hb : kindB k = false := by simpa using hb
    have hv : sumV k zs = 0 := by unfold sumV; rw [hb]; rfl
    have he : sumE k = 7 := by unfold sumE; rw [hb]; rfl
    rw [hv, he]
    rw [polyI_no hb] at T
    clear hv he
    go_enter Try.func10, Try.ntmps10
    go_wp2_with (first
      | (go_at_call 15; refine (polynomials_any (H := Unit) _).mono ?_; rintro e w1 ⟨rfl, ho, hbl⟩)
      | (at_lookup; refine wpList_lookup_own_ok_int _ rfl _ _ 39 rfl 3 3 .i64 kMap Try.underlying39 Try.underlying3 (zeroInt _) w.heap.size 5 _ rfl ho _ _ rfl (keyOf_int_mk Try.underlying3 hwf) ?_; intro c hat hwc; obtain rfl := lit_int_eq (T.out.symm.trans hat); rw [T2.out]; clear hat hwc))
    go_ret2
    exact ⟨rfl, hbl⟩

set_option maxRecDepth 100000 in
set_option maxHeartbeats 1000000 in
theorem Next_any (k r : Int) (a : Option Addr) (n cap : Nat) (zs : List Int) (w : World) (hs : Sl .u8 w a n zs) (hk : -9223372036854775808 ≤ k ∧ k ≤ 9223372036854775807) :
    Calls Try.prog 12 #[.int .i64 k, .int .i64 r, .slice a n cap] w fun e w' => e = .returned (.tuple #[.int .i64 (nextV k r zs), .int .i64 (nextE k r)]) ∧ Below w.heap.size w w' := by
  have hwf : (Lit.int .i64 k).wf = true := by simpa [Lit.wf, IntKind.min, IntKind.max, IntKind.signed, IntKind.bits] using hk
  have Hs := Lib.hid hs
  have T := Lib.hid (tab_at (H := Unit) k)
  have T2 := Lib.hid (tab_has (H := Unit) k)
  clear hs
  by_cases hb : kindB k = true
  · obtain ⟨K, P, rfl, hP, hpo⟩ := kindB_yes hb
    have h1 := hP.one
    have h2 := hP.most
    rw [hpo] at T
    by_cases hr : 0 ≤ r ∧ r < 2 ^ K
    · obtain ⟨R, rfl⟩ := Int.eq_ofNat_of_zero_le hr.1
      have hR : R < 2 ^ K := by have := hr.2; rw [ipow_nat] at this; omega
      obtain ⟨hv, he⟩ := next_kd hP hR zs
      rw [hv, he]
      have HP := Lib.hid hP
      have HR := Lib.hid hR
      have hr2 : (R : Int) ≤ 2 ^ K - 1 := by omega
      have hr3 : decide ((R : Int) > 2 ^ K - 1) = false := by simpa using hr2
      clear hv he hpo hP hR hr hr2
      go_enter Try.func12, Try.ntmps12
      go_wp2_with (first
      | (go_at_call 15; refine (polynomials_any (H := Unit) _).mono ?_; rintro e w1 ⟨rfl, ho, hbl⟩)
      | (at_lookup; refine wpList_lookup_own_ok_int _ rfl _ _ 39 rfl 3 3 .i64 kMap Try.underlying39 Try.underlying3 (zeroInt _) w.heap.size 5 _ rfl ho _ _ rfl (keyOf_int_mk Try.underlying3 hwf) ?_; intro c hat hwc; obtain rfl := lit_int_eq (T.out.symm.trans hat); rw [T2.out]; clear hat hwc)
      | (go_at_call 17; refine (ones_any _ _ (by omega)).mono ?_; rintro e w' ⟨rfl, rfl⟩)
      | (go_at_call 16; refine (behind_any K P _ _ _ _ zs _ HP.out HR.out (Hs.out.keep hbl)).mono ?_; rintro e w' ⟨rfl, rfl⟩))
      go_ret2
      exact ⟨rfl, hbl⟩
    · have hrb : regB K r = false := decide_eq_false (by simpa using hr)
      obtain ⟨hv, he⟩ := next_out hP hrb zs
      rw [hv, he]
      by_cases h0 : r < 0
      · clear hv he hpo hP hr hrb
        go_enter Try.func12, Try.ntmps12
        go_wp2_with (first
      | (go_at_call 15; refine (polynomials_any (H := Unit) _).mono ?_; rintro e w1 ⟨rfl, ho, hbl⟩)
      | (at_lookup; refine wpList_lookup_own_ok_int _ rfl _ _ 39 rfl 3 3 .i64 kMap Try.underlying39 Try.underlying3 (zeroInt _) w.heap.size 5 _ rfl ho _ _ rfl (keyOf_int_mk Try.underlying3 hwf) ?_; intro c hat hwc; obtain rfl := lit_int_eq (T.out.symm.trans hat); rw [T2.out]; clear hat hwc))
        go_ret2
        exact ⟨rfl, hbl⟩
      · have hr3 : (2 : Int) ^ K - 1 < r := by omega
        clear hv he hpo hP hr hrb
        go_enter Try.func12, Try.ntmps12
        go_wp2_with (first
      | (go_at_call 15; refine (polynomials_any (H := Unit) _).mono ?_; rintro e w1 ⟨rfl, ho, hbl⟩)
      | (at_lookup; refine wpList_lookup_own_ok_int _ rfl _ _ 39 rfl 3 3 .i64 kMap Try.underlying39 Try.underlying3 (zeroInt _) w.heap.size 5 _ rfl ho _ _ rfl (keyOf_int_mk Try.underlying3 hwf) ?_; intro c hat hwc; obtain rfl := lit_int_eq (T.out.symm.trans hat); rw [T2.out]; clear hat hwc)
      | (go_at_call 17; refine (ones_any _ _ (by omega)).mono ?_; rintro e w' ⟨rfl, rfl⟩))
        go_ret2
        exact ⟨rfl, hbl⟩
  · have hb : kindB k = false := by simpa using hb
    have hv : nextV k r zs = 0 := by unfold nextV; rw [hb]; rfl
    have he : nextE k r = 7 := by unfold nextE; rw [hb]; rfl
    rw [hv, he]
    rw [polyI_no hb] at T
    clear hv he
    go_enter Try.func12, Try.ntmps12
    go_wp2_with (first
      | (go_at_call 15; refine (polynomials_any (H := Unit) _).mono ?_; rintro e w1 ⟨rfl, ho, hbl⟩)
      | (at_lookup; refine wpList_lookup_own_ok_int _ rfl _ _ 39 rfl 3 3 .i64 kMap Try.underlying39 Try.underlying3 (zeroInt _) w.heap.size 5 _ rfl ho _ _ rfl (keyOf_int_mk Try.underlying3 hwf) ?_; intro c hat hwc; obtain rfl := lit_int_eq (T.out.symm.trans hat); rw [T2.out]; clear hat hwc))
    go_ret2
    exact ⟨rfl, hbl⟩
end Go.Proofs.Ythbganohmcomjaa
