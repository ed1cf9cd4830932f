/-
  Which values are understood with how many bits: an interval; more bits and fewer references are never worse.
-/
import Derived.Test.YtlpnpecohndpbaaLsbPlain
namespace Go.Proofs.Ytlpnpecohndpbaa
open Go Go.RowKit

theorem mod_small {y c T : Int} (h : 0 ≤ y % T + c) (h2 : y % T + c < T) : (y + c) % T = y % T + c := by
  rw [← Int.emod_add_emod]; exact Int.emod_eq_of_lt h h2
theorem fit_num (f v K T : Int) (hK : 0 < K) (hd : K ∣ T) (hT : 0 < T) (hv : 0 ≤ v ∧ v < T) : (f + (v - f) % K) % T = v ↔ (v - f) % T < K := by
  have hle := Int.le_of_dvd hT hd
  have d0 := Int.emod_nonneg (v - f) (show K ≠ 0 by omega)
  have d1 := Int.emod_lt_of_pos (v - f) hK
  have t0 := Int.emod_nonneg (v - f) (show T ≠ 0 by omega)
  have e := Int.emod_emod_of_dvd (v - f) hd
  constructor
  · intro h
    have h1 : (v - f) % T = (v - f) % K := by
      rw [← h, Int.emod_sub_emod, show f + (v - f) % K - f = (v - f) % K by omega, h]
      exact Int.emod_eq_of_lt d0 (by omega)
    omega
  · intro h
    have h1 : (v - f) % K = (v - f) % T := by rw [← e]; exact Int.emod_eq_of_lt t0 h
    rw [h1, Int.add_emod_emod, show f + (v - f) = v by omega]
    exact Int.emod_eq_of_lt hv.1 hv.2

theorem ipow_dvd (k n : Nat) (h : k ≤ n) : (2 : Int) ^ k ∣ 2 ^ n := by
  have := Nat.pow_dvd_pow 2 h
  rw [ipow_nat, ipow_nat]; exact Int.ofNat_dvd.2 this

/-- WHAT IS UNDERSTOOD -/
theorem lsFit_num (W K : Nat) (v r : Int) (hW : lsWide W = true) (hk : 3 ≤ K ∧ K ≤ W) (hv : 0 ≤ v ∧ v < 2 ^ W) (hr : 0 ≤ r ∧ r < 2 ^ W) :
    lsDecE W r K (lowV K v) = 0 ∧ (lsDecV W r K (lowV K v) = v ↔ (v - (r - offV K)) % 2 ^ W < 2 ^ K) := by
  have hw2 : W ≤ 32 := by rcases lsWide_of hW with h | h | h <;> omega
  have hl : lowV K v = v % 2 ^ K := lowV_nat K v (by omega)
  have pK := ipow_pos K
  have pW := ipow_pos W
  have l0 := Int.emod_nonneg v (show (2 : Int) ^ K ≠ 0 by omega)
  have l1 := Int.emod_lt_of_pos v (show (0 : Int) < 2 ^ K by omega)
  have hb : lsDecB W r K (lowV K v) = true := lsDecB_all (lsBits_yes (by omega)) (lsBelow_yes (by simpa using hr)) (lsBelow_yes (by rw [hl]; simpa using And.intro l0 l1))
  have e := lsDec_ok hW hb
  refine ⟨e.2, ?_⟩
  rw [e.1]
  unfold lsMean
  rw [lowV_nat W _ (by omega), distV_nat K _ _ (by omega), hl, Int.emod_sub_emod]
  exact fit_num _ _ _ _ (by omega) (ipow_dvd K W hk.2) (by omega) hv
theorem lsFit_iff (W K : Nat) (v r : Int) (hW : lsWide W = true) (hk : 3 ≤ K ∧ K ≤ W) (hv : 0 ≤ v ∧ v < 2 ^ W) (hr : 0 ≤ r ∧ r < 2 ^ W) :
    lsFit W K v r = true ↔ (v - (r - offV K)) % 2 ^ W < 2 ^ K := by
  obtain ⟨h1, h2⟩ := lsFit_num W K v r hW hk hv hr
  unfold lsFit
  rw [h1, Bool.and_eq_true, decide_eq_true_iff, decide_eq_true_iff]
  exact ⟨fun h => h2.1 h.2, fun h => ⟨rfl, h2.2 h⟩⟩
theorem lsFit_below {w k v r : Int} (hw : lsWide w = true) (h : lsFit w k v r = true) : lsBelow w r = true := by
  unfold lsFit lsDecE at h
  rw [hw, if_pos rfl, Bool.and_eq_true, decide_eq_true_iff] at h
  cases hb : lsDecB w r k (lowV k v) with
  | false => rw [hb] at h; simp at h
  | true => unfold lsDecB at hb; simp only [Bool.and_eq_true] at hb; exact hb.1.2

/-- one bit more -/
theorem lsFit_up (W K : Nat) (v r : Int) (hW : lsWide W = true) (hk : 3 ≤ K ∧ K + 1 ≤ W) (hv : 0 ≤ v ∧ v < 2 ^ W) (h : lsFit W K v r = true) : lsFit W (K + 1 : Nat) v r = true := by
  have hw2 : W ≤ 32 := by rcases lsWide_of hW with h | h | h <;> omega
  have hr := lsBelow_of (lsFit_below hW h)
  rw [Int.toNat_natCast] at hr
  rw [lsFit_iff W K v r hW (by omega) hv hr] at h
  rw [lsFit_iff W (K + 1) v r hW (by omega) hv hr, offV_nat (K + 1) (by omega)]
  rw [offV_nat K (by omega)] at h
  obtain ⟨J, rfl⟩ : ∃ J, K = J + 3 := ⟨K - 3, by omega⟩
  rw [show J + 3 - 3 = J by omega] at h
  rw [show J + 3 + 1 - 3 = J + 1 by omega]
  have p1 := ipow_pos J
  have p2 : (2 : Int) ^ (J + 1) = 2 * 2 ^ J := by rw [Int.pow_succ]; omega
  have p3 : (2 : Int) ^ (J + 3) = 8 * 2 ^ J := by rw [Int.pow_succ, Int.pow_succ, Int.pow_succ]; omega
  have p4 : (2 : Int) ^ (J + 3 + 1) = 16 * 2 ^ J := by rw [Int.pow_succ, p3]; omega
  have p5 : (2 : Int) ^ (J + 3 + 1) ≤ 2 ^ W := ipow_le _ _ hk.2
  rw [p3] at h
  rw [p4] at p5 ⊢
  rw [p2]
  generalize (2 : Int) ^ J = s at *
  generalize (2 : Int) ^ W = T at *
  have y0 := Int.emod_nonneg (v - (r - (s - 1))) (show T ≠ 0 by omega)
  rw [show v - (r - (2 * s - 1)) = v - (r - (s - 1)) + s by omega, mod_small (by omega) (by omega)]
  omega
theorem lsFit_all (W : Nat) (v r : Int) (hW : lsWide W = true) (hv : 0 ≤ v ∧ v < 2 ^ W) (hr : 0 ≤ r ∧ r < 2 ^ W) : lsFit W W v r = true := by
  rw [lsFit_iff W W v r hW (by rcases lsWide_of hW with h | h | h <;> omega) hv hr]
  exact Int.emod_lt_of_pos _ (by have := ipow_pos W; omega)

theorem lsFits_iff {w k v : Int} {rs : List Int} : lsFits w rs k v = true ↔ lsSay w k v = true ∧ ∀ r ∈ rs, lsFit w k v r = true := by
  unfold lsFits
  rw [Bool.and_eq_true, lsFitsTo_iff]
  constructor
  · rintro ⟨h1, h2⟩
    refine ⟨h1, fun r hr => ?_⟩
    obtain ⟨i, hi, rfl⟩ := List.mem_iff_getElem.1 hr
    have := h2 i hi
    rwa [List.getD_eq_getElem?_getD, List.getElem?_eq_getElem hi] at this
  · rintro ⟨h1, h2⟩
    refine ⟨h1, fun i hi => ?_⟩
    rw [List.getD_eq_getElem?_getD, List.getElem?_eq_getElem hi]
    exact h2 _ (List.getElem_mem hi)
theorem lsSay_nat {W K : Nat} {v : Int} (hW : lsWide W = true) (hk : 3 ≤ K ∧ K ≤ W) (hv : 0 ≤ v ∧ v < 2 ^ W) : lsSay W K v = true := lsSay_all hW (lsBits_yes (by omega)) (lsBelow_yes (by simpa using hv))
theorem lsFits_up {W K : Nat} {v : Int} {rs : List Int} (hW : lsWide W = true) (hk : 3 ≤ K) (hv : 0 ≤ v ∧ v < 2 ^ W) (h : lsFits W rs K v = true) : ∀ J : Nat, K ≤ J → J ≤ W → lsFits W rs J v = true
  | 0, h1, _ => by omega
  | J + 1, h1, h2 => by
    by_cases e : K = J + 1
    · rw [← e]; exact h
    · have h3 := lsFits_iff.1 (lsFits_up hW hk hv h J (by omega) (by omega))
      exact lsFits_iff.2 ⟨lsSay_nat hW (by omega) hv, fun r hr => lsFit_up W J v r hW (by omega) hv (h3.2 r hr)⟩
theorem lsFits_sub {w k v : Int} {rs qs : List Int} (h : lsFits w rs k v = true) (hs : ∀ r ∈ qs, r ∈ rs) : lsFits w qs k v = true :=
  lsFits_iff.2 ⟨(lsFits_iff.1 h).1, fun r hr => (lsFits_iff.1 h).2 r (hs r hr)⟩
theorem lsFits_all {W : Nat} {v : Int} {rs : List Int} (hW : lsWide W = true) (hv : 0 ≤ v ∧ v < 2 ^ W) (hr : ∀ r ∈ rs, 0 ≤ r ∧ r < 2 ^ W) : lsFits W rs W v = true :=
  lsFits_iff.2 ⟨lsSay_nat hW (by rcases lsWide_of hW with h | h | h <;> omega) hv, fun r h => lsFit_all W v r hW hv (hr r h)⟩
theorem lsLeast_le {w v m : Int} {rs : List Int} (h3 : 3 ≤ m) (h4 : m ≤ 32) (h : lsFits w rs m v = true) : 3 ≤ lsLeast w rs v ∧ lsLeast w rs v ≤ m ∧ lsFits w rs (lsLeast w rs v) v = true ∧ ∀ j, 3 ≤ j → j < lsLeast w rs v → lsFits w rs j v = false :=
  lsFrom_first 30 3 m h3 (by omega) h
end Go.Proofs.Ytlpnpecohndpbaa
