/-
  Plain numbers of layer 4: a folded sum, the words of bytes added up, and what a change of bytes makes of them.
-/
import Derived.Test.YtfeeifemfhhijaaBase
namespace Go.Proofs.Ytfeeifemfhhijaa
open Go Go.RowKit

/-- a sum as a word -/
def foldI (x : Int) : Int := if x ≤ 0 then 0 else (x - 1) % 65535 + 1

theorem fold_low (x : Int) (h : x ≤ 0) : foldI x = 0 := by unfold foldI; rw [if_pos h]
theorem fold_range (x : Int) : 0 ≤ foldI x ∧ foldI x ≤ 65535 := by unfold foldI; split <;> omega
theorem fold_self (x : Int) (h0 : 0 ≤ x) (h1 : x ≤ 65535) : foldI x = x := by unfold foldI; split <;> omega
theorem fold_step (x : Int) (h : 65535 < x) : foldI (x % 65536 + x / 65536) = foldI x := by unfold foldI; split <;> split <;> omega
theorem fold_less (x : Int) (h : 65535 < x) : 0 ≤ x % 65536 + x / 65536 ∧ x % 65536 + x / 65536 < x := by omega
theorem fold_fold (x : Int) : foldI (foldI x) = foldI x := fold_self _ (fold_range x).1 (fold_range x).2
theorem fold_add (x y : Int) (hx : 0 ≤ x) (hy : 0 ≤ y) : foldI (foldI x + y) = foldI (x + y) := by
  unfold foldI
  by_cases h : x ≤ 0
  · rw [if_pos h, show 0 + y = x + y by omega]
  · rw [if_neg h, if_neg (by omega), if_neg (by omega)]; omega
theorem fold_zero (x : Int) (hx : 0 ≤ x) : foldI x = 0 ↔ x = 0 := by unfold foldI; split <;> omega
/-- a sum and what is missing to 65535 of its word -/
theorem fold_own (x : Int) (hx : 0 ≤ x) : foldI (x + (65535 - foldI x)) = 65535 := by
  unfold foldI
  by_cases h : x ≤ 0
  · rw [if_pos h, if_neg (by omega)]; omega
  · rw [if_neg h, if_neg (by omega)]; omega
theorem fold_change (t u v : Int) (ht : 1 ≤ t) (hu0 : 0 ≤ u) (hu : u ≤ 65535) (hv : 0 ≤ v) : foldI (65535 - (65535 - foldI (t + u)) + 65535 - u + v) = foldI (t + v) := by
  unfold foldI
  rw [if_neg (show ¬ t + u ≤ 0 by omega), if_neg (show ¬ t + v ≤ 0 by omega), if_neg (by omega)]
  omega

/-- the word at the place 2 * t -/
def wordAt (zs : List Int) (t : Nat) : Int := 256 * zs.getD (2 * t) 0 + zs.getD (2 * t + 1) 0
/-- the first t numbers added up -/
def upTo (W : Nat → Int) : Nat → Int
  | 0 => 0
  | t + 1 => upTo W t + W t
def total (zs : List Int) : Int := upTo (wordAt zs) ((zs.length + 1) / 2)
def addV (s : Int) (zs : List Int) : Int := foldI (foldI s + total zs)
def csV (zs : List Int) : Int := 65535 - addV 0 zs

theorem upTo_eq (V W : Nat → Int) (n : Nat) (h : ∀ t, t < n → V t = W t) : upTo V n = upTo W n := by
  induction n with
  | zero => rfl
  | succ n ih => rw [upTo, upTo, ih (fun t ht => h t (by omega)), h n (by omega)]
theorem upTo_range (W : Nat → Int) (n : Nat) (h : ∀ t, t < n → 0 ≤ W t ∧ W t ≤ 65535) : 0 ≤ upTo W n ∧ upTo W n ≤ 65535 * n := by
  induction n with
  | zero => simp [upTo]
  | succ n ih =>
    have a := ih fun t ht => h t (by omega)
    have b := h n (by omega)
    rw [upTo]; omega
theorem upTo_set (W : Nat → Int) (n i : Nat) (v : Int) (hi : i < n) : upTo (fun t => if t = i then v else W t) n = upTo W n + (v - W i) := by
  induction n with
  | zero => omega
  | succ n ih =>
    rw [upTo, upTo]
    by_cases h : i < n
    · rw [ih h, if_neg (by omega)]; omega
    · obtain rfl : i = n := by omega
      rw [if_pos rfl, upTo_eq _ W i fun t ht => if_neg (by omega)]; omega
theorem upTo_two (V W : Nat → Int) (n i k : Nat) (hi : i < n) (hk : k < n) (h : ∀ t, t < n → V t = if t = k then W i else if t = i then W k else W t) : upTo V n = upTo W n := by
  rw [upTo_eq V _ n h, upTo_set (fun t => if t = i then W k else W t) n k (W i) hk, upTo_set W n i (W k) hi]
  by_cases e : k = i
  · subst e; rw [if_pos rfl]; omega
  · rw [if_neg e]; omega

theorem getD_nil_after (zs : List Int) (i : Nat) (h : zs.length ≤ i) : zs.getD i 0 = 0 := by
  rw [List.getD_eq_getElem?_getD, List.getElem?_eq_none h]; rfl
theorem getD_set_int (zs : List Int) (i j : Nat) (v : Int) (h : i < zs.length) : (zs.set i v).getD j 0 = if j = i then v else zs.getD j 0 := by
  rw [List.getD_eq_getElem?_getD, List.getD_eq_getElem?_getD, List.getElem?_set]
  by_cases e : j = i
  · subst e; simp [h]
  · rw [if_neg e, if_neg (by omega)]
theorem getD_app (xs ys : List Int) (j : Nat) : (xs ++ ys).getD j 0 = if j < xs.length then xs.getD j 0 else ys.getD (j - xs.length) 0 := by
  rw [List.getD_eq_getElem?_getD, List.getD_eq_getElem?_getD, List.getD_eq_getElem?_getD]
  split
  · rw [List.getElem?_append_left (by assumption)]
  · rw [List.getElem?_append_right (by omega)]

def Bytes (zs : List Int) : Prop := ∀ i, 0 ≤ zs.getD i 0 ∧ zs.getD i 0 ≤ 255
theorem Sl.bytes {w : World} {a : Option Addr} {n : Nat} {zs : List Int} (h : Sl .u8 w a n zs) : Bytes zs := fun i => h.u8 i
theorem word_range {zs : List Int} (h : Bytes zs) (t : Nat) : 0 ≤ wordAt zs t ∧ wordAt zs t ≤ 65535 := by
  have a := h (2 * t); have b := h (2 * t + 1)
  unfold wordAt; omega
theorem upTo_bytes {zs : List Int} (h : Bytes zs) (n : Nat) : 0 ≤ upTo (wordAt zs) n ∧ upTo (wordAt zs) n ≤ 65535 * n := upTo_range _ n fun t _ => word_range h t
theorem total_range {zs : List Int} (h : Bytes zs) : 0 ≤ total zs ∧ total zs ≤ 65535 * (((zs.length + 1) / 2 : Nat) : Int) := upTo_bytes h _

theorem upTo_app (xs ys : List Int) (m n : Nat) (hx : xs.length = 2 * m) : upTo (wordAt (xs ++ ys)) (m + n) = upTo (wordAt xs) m + upTo (wordAt ys) n := by
  induction n with
  | zero =>
    rw [Nat.add_zero, upTo_eq _ (wordAt xs) m]
    · simp [upTo]
    · intro t ht
      unfold wordAt
      rw [getD_app, getD_app, if_pos (by omega), if_pos (by omega)]
  | succ n ih =>
    rw [show m + (n + 1) = m + n + 1 by omega, upTo, upTo, ih]
    unfold wordAt
    rw [getD_app, getD_app, if_neg (by omega), if_neg (by omega), hx, show 2 * (m + n) - 2 * m = 2 * n by omega, show 2 * (m + n) + 1 - 2 * m = 2 * n + 1 by omega]
    omega
theorem total_app (xs ys : List Int) (m : Nat) (hx : xs.length = 2 * m) : total (xs ++ ys) = total xs + total ys := by
  unfold total
  rw [List.length_append, hx, show (2 * m + ys.length + 1) / 2 = m + (ys.length + 1) / 2 by omega, upTo_app xs ys m _ hx, show (2 * m + 1) / 2 = m by omega]
/-- a last byte of 0 changes nothing behind an odd number of them -/
theorem total_pad (xs : List Int) (m : Nat) (hx : xs.length = 2 * m + 1) : total (xs ++ [0]) = total xs := by
  unfold total
  rw [List.length_append, hx, show ([0] : List Int).length = 1 from rfl, show (2 * m + 1 + 1 + 1) / 2 = m + 1 by omega, show (2 * m + 1 + 1) / 2 = m + 1 by omega]
  refine upTo_eq _ _ _ fun t ht => ?_
  unfold wordAt
  rw [getD_app, getD_app, if_pos (show 2 * t < xs.length by omega)]
  by_cases h : 2 * t + 1 < xs.length
  · rw [if_pos h]
  · have e : 2 * t + 1 - xs.length = 0 := by omega
    rw [if_neg h, getD_nil_after xs (2 * t + 1) (by omega), e]; rfl
theorem total_pair (x y : Int) : total [x, y] = 256 * x + y := by simp [total, upTo, wordAt]

theorem addV_range (s : Int) (zs : List Int) : 0 ≤ addV s zs ∧ addV s zs ≤ 65535 := fold_range _
theorem csV_range (zs : List Int) : 0 ≤ csV zs ∧ csV zs ≤ 65535 := by have := addV_range 0 zs; unfold csV; omega
theorem addV_zero (zs : List Int) : addV 0 zs = foldI (total zs) := by unfold addV; rw [fold_low 0 (by omega), Int.zero_add]
theorem addV_app (s : Int) (xs ys : List Int) (m : Nat) (hx : xs.length = 2 * m) (bx : Bytes xs) (by' : Bytes ys) : addV (addV s xs) ys = addV s (xs ++ ys) := by
  have h1 := fold_range s
  have h2 := total_range bx
  have h3 := total_range by'
  unfold addV
  rw [total_app xs ys m hx, fold_fold, fold_add _ _ (by omega) (by omega), Int.add_assoc]
/-- bytes and their checksum behind them -/
theorem csV_own (xs : List Int) (m : Nat) (hx : xs.length = 2 * m) (bx : Bytes xs) : csV (xs ++ [csV xs / 256 % 256, csV xs % 256]) = 0 := by
  have h1 := csV_range xs
  have h2 := total_range bx
  have h3 : csV xs = 65535 - foldI (total xs) := by unfold csV; rw [addV_zero]
  have h4 := fold_own (total xs) h2.1
  rw [csV, addV_zero, total_app xs _ m hx, total_pair, show 256 * (csV xs / 256 % 256) + csV xs % 256 = csV xs by omega, h3, h4]; rfl

/-- a word is put -/
theorem word_put (zs : List Int) (i : Nat) (x y : Int) (hi : 2 * i + 1 < zs.length) (t : Nat) : wordAt ((zs.set (2 * i) x).set (2 * i + 1) y) t = if t = i then 256 * x + y else wordAt zs t := by
  unfold wordAt
  rw [getD_set_int _ _ (2 * t) _ (by rw [List.length_set]; omega), getD_set_int _ _ (2 * t + 1) _ (by rw [List.length_set]; omega), getD_set_int _ _ (2 * t) _ (by omega), getD_set_int _ _ (2 * t + 1) _ (by omega)]
  by_cases h : t = i
  · subst h; rw [if_neg (by omega), if_pos rfl, if_pos rfl, if_pos rfl]
  · rw [if_neg (by omega), if_neg (by omega), if_neg (by omega), if_neg (by omega), if_neg h]
/-- two words in each other's place -/
theorem total_swap (zs : List Int) (i k : Nat) (hi : 2 * i + 1 < zs.length) (hk : 2 * k + 1 < zs.length) :
    total ((((zs.set (2 * i) (zs.getD (2 * k) 0)).set (2 * i + 1) (zs.getD (2 * k + 1) 0)).set (2 * k) (zs.getD (2 * i) 0)).set (2 * k + 1) (zs.getD (2 * i + 1) 0)) = total zs := by
  unfold total
  rw [List.length_set, List.length_set, List.length_set, List.length_set]
  refine upTo_two _ _ _ i k (by omega) (by omega) fun t ht => ?_
  rw [word_put _ _ _ _ (by rw [List.length_set, List.length_set]; omega), word_put _ _ _ _ (by omega)]
  rfl
theorem total_put (zs : List Int) (i : Nat) (x y : Int) (hi : 2 * i + 1 < zs.length) : total ((zs.set (2 * i) x).set (2 * i + 1) y) = total zs + (256 * x + y - wordAt zs i) := by
  unfold total
  rw [List.length_set, List.length_set, ← upTo_set (wordAt zs) _ i _ (by omega)]
  exact upTo_eq _ _ _ fun t ht => word_put _ _ _ _ hi t

/-- what the change of a word returns -/
def wordB (x : Int) : Bool := decide (0 ≤ x ∧ x ≤ 65535)
def updV (s u v : Int) : Int := if wordB s && wordB u && wordB v then 65535 - foldI (65535 - s + 65535 - u + v) else 0
def updE (s u v : Int) : Int := if wordB s && wordB u && wordB v then 0 else 3
theorem upd_word (s u v : Int) (hs : wordB s = true) (hu : wordB u = true) (hv : wordB v = true) : updV s u v = 65535 - foldI (65535 - s + 65535 - u + v) ∧ updE s u v = 0 := by
  unfold updV updE; rw [hs, hu, hv]; exact ⟨rfl, rfl⟩
theorem upd_not (s u v : Int) (h : wordB s = false ∨ wordB u = false ∨ wordB v = false) : updV s u v = 0 ∧ updE s u v = 3 := by
  unfold updV updE
  cases h1 : wordB s <;> cases h2 : wordB u <;> cases h3 : wordB v <;> simp_all
theorem word_yes {x : Int} (h0 : 0 ≤ x) (h1 : x ≤ 65535) : wordB x = true := decide_eq_true ⟨h0, h1⟩
end Go.Proofs.Ytfeeifemfhhijaa
