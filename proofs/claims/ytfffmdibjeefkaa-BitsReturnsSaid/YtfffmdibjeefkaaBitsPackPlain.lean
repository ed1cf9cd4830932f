/-
  Packing, as plain functions.
-/
import Derived.Test.YtfffmdibjeefkaaBitsWrite2
namespace Go.Proofs.Ytfffmdibjeefkaa
open Go Go.RowKit

/-- the width at a place -/
def wid (ws : List Int) (i : Nat) : Nat := (ws.getD i 0).toNat
/-- the first i widths together -/
def sumTo (ws : List Int) : Nat → Nat
  | 0 => 0
  | i + 1 => sumTo ws i + wid ws i
/-- the first i numbers written one after the other -/
def packTo (ws vs zs : List Int) : Nat → List Int
  | 0 => zs
  | i + 1 => putTo (packTo ws vs zs i) (sumTo ws i) (wid ws i) (wid vs i) (wid ws i)
def fitsAt (ws vs : List Int) (i : Nat) : Bool := fitsB (ws.getD i 0) (vs.getD i 0)
/-- the first n numbers fit -/
def fitsTo (ws vs : List Int) : Nat → Bool
  | 0 => true
  | i + 1 => fitsTo ws vs i && fitsAt ws vs i
def widthAt (ws : List Int) (i : Nat) : Bool := decide (0 ≤ ws.getD i 0 ∧ ws.getD i 0 ≤ 32)
def widthTo (ws : List Int) : Nat → Bool
  | 0 => true
  | i + 1 => widthTo ws i && widthAt ws i

theorem fitsTo_all {ws vs : List Int} : ∀ {n : Nat}, fitsTo ws vs n = true → ∀ i, i < n → fitsAt ws vs i = true
  | n + 1, h, i, hi => by
    simp only [fitsTo, Bool.and_eq_true] at h
    by_cases e : i = n
    · subst e; exact h.2
    · exact fitsTo_all h.1 i (by omega)
theorem fitsTo_no {ws vs : List Int} : ∀ {n i : Nat}, i < n → fitsAt ws vs i = false → fitsTo ws vs n = false
  | n + 1, i, hi, h => by
    simp only [fitsTo, Bool.and_eq_false_iff]
    by_cases e : i = n
    · subst e; exact .inr h
    · exact .inl (fitsTo_no (by omega) h)
theorem widthTo_all {ws : List Int} : ∀ {n : Nat}, widthTo ws n = true → ∀ i, i < n → widthAt ws i = true
  | n + 1, h, i, hi => by
    simp only [widthTo, Bool.and_eq_true] at h
    by_cases e : i = n
    · subst e; exact h.2
    · exact widthTo_all h.1 i (by omega)
theorem widthTo_no {ws : List Int} : ∀ {n i : Nat}, i < n → widthAt ws i = false → widthTo ws n = false
  | n + 1, i, hi, h => by
    simp only [widthTo, Bool.and_eq_false_iff]
    by_cases e : i = n
    · subst e; exact .inr h
    · exact .inl (widthTo_no (by omega) h)
theorem widthAt_yes {ws : List Int} {i : Nat} (h : widthAt ws i = true) : 0 ≤ ws.getD i 0 ∧ ws.getD i 0 ≤ 32 ∧ ws.getD i 0 = (wid ws i : Nat) ∧ wid ws i ≤ 32 := by
  unfold widthAt at h; unfold wid; simp only [decide_eq_true_eq] at h; omega
theorem fitsAt_yes {ws vs : List Int} {i : Nat} (h : fitsAt ws vs i = true) :
    widthAt ws i = true ∧ 0 ≤ vs.getD i 0 ∧ vs.getD i 0 = (wid vs i : Nat) ∧ wid vs i < 2 ^ wid ws i := by
  unfold fitsAt fitsB at h; simp only [decide_eq_true_eq] at h
  refine ⟨by unfold widthAt; simp only [decide_eq_true_eq]; omega, h.2.2.1, by unfold wid; omega, ?_⟩
  unfold wid
  have h3 := h.2.2.2
  have e : ((2 : Int) ^ (ws.getD i 0).toNat) = ((2 ^ (ws.getD i 0).toNat : Nat) : Int) := by simp
  rw [e] at h3
  omega
theorem fitsTo_width {ws vs : List Int} : ∀ {n : Nat}, fitsTo ws vs n = true → widthTo ws n = true
  | 0, _ => rfl
  | n + 1, h => by
    simp only [fitsTo, Bool.and_eq_true] at h
    simp only [widthTo, Bool.and_eq_true]
    exact ⟨fitsTo_width h.1, (fitsAt_yes h.2).1⟩
theorem sumTo_le {ws : List Int} : ∀ {n : Nat}, widthTo ws n = true → sumTo ws n ≤ 32 * n
  | 0, _ => by simp [sumTo]
  | n + 1, h => by
    simp only [widthTo, Bool.and_eq_true] at h
    have a := sumTo_le h.1
    have b := (widthAt_yes h.2).2.2.2
    simp only [sumTo]; omega
theorem sumTo_mono (ws : List Int) : ∀ {i n : Nat}, i ≤ n → sumTo ws i ≤ sumTo ws n
  | i, 0, h => by obtain rfl : i = 0 := by omega
                  exact Nat.le_refl _
  | i, n + 1, h => by
    by_cases e : i = n + 1
    · subst e; exact Nat.le_refl _
    · have := sumTo_mono ws (show i ≤ n by omega)
      simp only [sumTo]; omega
theorem packTo_length (ws vs zs : List Int) : ∀ n, (packTo ws vs zs n).length = zs.length
  | 0 => rfl
  | n + 1 => by simp only [packTo]; rw [putTo_length, packTo_length ws vs zs n]
theorem packTo_bytes {ws vs zs : List Int} (h : Bytes zs) : ∀ n, Bytes (packTo ws vs zs n)
  | 0 => h
  | n + 1 => by simp only [packTo]; exact putTo_bytes (packTo_bytes h n) _ _ _ _

/-- what Pack answers -/
def packE (ws vs : List Int) : Int := if ws.length ≠ vs.length ∨ 256 < ws.length then 2 else if fitsTo ws vs ws.length = true then 0 else 3
def packV (ws vs : List Int) : List Int :=
  if ws.length ≠ vs.length ∨ 256 < ws.length then [] else if fitsTo ws vs ws.length = true then packTo ws vs (List.replicate ((sumTo ws ws.length + 7) / 8) 0) ws.length else []
theorem pack_size {ws vs : List Int} (h : ws.length ≠ vs.length ∨ 256 < ws.length) : packV ws vs = [] ∧ packE ws vs = 2 := by
  unfold packV packE; exact ⟨if_pos h, if_pos h⟩
theorem pack_fits {ws vs : List Int} {n : Nat} (h1 : ws.length = n) (h2 : vs.length = n) (h3 : n ≤ 256) (h : fitsTo ws vs n = true) :
    packV ws vs = packTo ws vs (List.replicate ((sumTo ws n + 7) / 8) 0) n ∧ packE ws vs = 0 := by
  subst h1
  unfold packV packE
  have hc : ¬ (ws.length ≠ vs.length ∨ 256 < ws.length) := by omega
  exact ⟨(if_neg hc).trans (if_pos h), (if_neg hc).trans (if_pos h)⟩
theorem pack_range {ws vs : List Int} {n : Nat} (h1 : ws.length = n) (h2 : vs.length = n) (h3 : n ≤ 256) (h : fitsTo ws vs n = false) : packV ws vs = [] ∧ packE ws vs = 3 := by
  subst h1
  unfold packV packE
  have hc : ¬ (ws.length ≠ vs.length ∨ 256 < ws.length) := by omega
  have hf : ¬ fitsTo ws vs ws.length = true := by simp [h]
  exact ⟨(if_neg hc).trans (if_neg hf), (if_neg hc).trans (if_neg hf)⟩
end Go.Proofs.Ytfffmdibjeefkaa
