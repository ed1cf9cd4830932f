/-
  What Write, and the document's own Write, return.
-/
import Derived.Test.YtfffmdibjeefkaaBitsWrite
namespace Go.Proofs.Ytfffmdibjeefkaa
open Go Go.RowKit

theorem Mk.empty (k : IntKind) (E B : Nat) (w : World) (hB : B ≤ w.heap.size) : Mk k E B (w.alloc (.cells #[] E)) (.slice (some ⟨w.heap.size, 0, none⟩) 0 0) 0 [] := by
  refine ⟨?_, by omega, by simp⟩
  have := World.ownsRow_lit (base := B) (e := E) (size := 1) w #[] 0 hB (by unfold maxLen; omega) (by simp)
  simpa using this

set_option maxHeartbeats 400000 in
theorem clone_any (B : Nat) (a : Option Addr) (n cap : Nat) (zs : List Int) (w : World) (hs : Sl .u8 w a n zs) (hc : a = none → cap = 0) (hB : B ≤ w.heap.size) :
    Calls Try.prog 27 #[.slice a n cap] w fun e w' => ∃ a' cap', e = .returned (.slice a' n cap') ∧ (a' = none → cap' = 0) ∧ Mk .u8 5 B w' (.slice a' n cap') n zs ∧ Below B w w' := by
  have hr := hs.reach
  have hlen := hs.len
  cases a with
  | none =>
    obtain rfl := hc rfl
    have hn : n = 0 := by
      rcases Nat.eq_zero_or_pos n with h0 | h0
      · exact h0
      · obtain ⟨b, off, e⟩ := hs.head h0; cases e
    subst hn
    obtain rfl : zs = [] := List.eq_nil_of_length_eq_zero hlen
    have he := Lib.run_eql_slice_nil (P := Try.prog)
    go_enter Try.func27, Try.ntmps27
    go_wp2
    go_ret
    exact ⟨none, 0, rfl, fun _ => rfl, Mk.nil _ _ _ _, Below.refl _ _⟩
  | some x =>
    have he := Lib.run_eql_slice_nil (P := Try.prog)
    have Hs := Lib.hid hs
    clear hs hc hlen
    go_enter Try.func27, Try.ntmps27
    go_wp2_with (at_builtin; refine wpList_append_mk rfl _ _ 22 rfl .u8 5 B 1 Try.underlying22 info5 (.slice (some ⟨w.heap.size, 0, none⟩) 0 0) 0 [] rfl (Mk.empty .u8 5 B w hB) (some x) n cap zs rfl (Hs.out.alloc _) (fun h => by cases h) (by omega) (by omega) (by simp; omega) ?_; intro ao cap' w' hmk hbe hn)
    go_ret
    rw [Nat.zero_add] at hmk
    exact ⟨ao, cap', rfl, fun h => (hn h).2, hmk, ((Below.refl _ _).alloc hB _).trans hbe⟩

/-- what Write answers -/
def writeE (m p n v : Int) : Int := if n < 0 ∨ 32 < n ∨ v < 0 ∨ 2 ^ n.toNat ≤ v ∨ p < 0 then 3 else if 8 * m < p + n then 5 else 0
def writeV (zs : List Int) (p n v : Int) : List Int := if n < 0 ∨ 32 < n ∨ v < 0 ∨ 2 ^ n.toNat ≤ v ∨ p < 0 then [] else if 8 * (zs.length : Int) < p + n then [] else putTo zs p.toNat n.toNat v.toNat n.toNat

/-- the answer of a function that returns bytes and an error -/
def RetBytes (B : Nat) (zs : List Int) (err : Int) (w : World) (e : Ending) (w' : World) : Prop :=
  ∃ a n cap, e = .returned (.tuple #[.slice a n cap, .int .i64 err]) ∧ (a = none → cap = 0) ∧ Mk .u8 5 B w' (.slice a n cap) n zs ∧ Below B w w'

set_option maxHeartbeats 800000 in
theorem Write_any (B : Nat) (a : Option Addr) (len cap : Nat) (p n v : Int) (zs : List Int) (w : World) (hs : Sl .u8 w a len zs) (hc : a = none → cap = 0) (hB : B ≤ w.heap.size) (h1 : p ≤ 9223372036854775807) :
    Calls Try.prog 11 #[.slice a len cap, .int .i64 p, .int .i64 n, .int .i64 v] w (RetBytes B (writeV zs p n v) (writeE zs.length p n v) w) := by
  have hl := hs.reach
  have hz := hs.len
  by_cases hr : n < 0 ∨ 32 < n ∨ v < 0 ∨ 2 ^ n.toNat ≤ v ∨ p < 0
  · have hv : writeV zs p n v = [] := by unfold writeV; rw [if_pos hr]
    have he : writeE zs.length p n v = 3 := by unfold writeE; rw [if_pos hr]
    rw [hv, he]
    by_cases hd : 0 ≤ n ∧ n ≤ 32 ∧ 0 ≤ v ∧ v < 2 ^ n.toNat
    · have hd2 := fitsB_yes hd
      have hp : p < 0 := by omega
      clear hr hd hv he hz
      go_enter Try.func11, Try.ntmps11
      go_wp2_with (go_at_call 26; refine (fits_any _ _ _).mono ?_; rintro e w' ⟨rfl, rfl⟩)
      go_ret2
      exact ⟨none, 0, 0, rfl, fun _ => rfl, Mk.nil _ _ _ _, Below.refl _ _⟩
    · have hd2 := fitsB_no hd
      clear hr hd hv he hz
      go_enter Try.func11, Try.ntmps11
      go_wp2_with (go_at_call 26; refine (fits_any _ _ _).mono ?_; rintro e w' ⟨rfl, rfl⟩)
      go_ret2
      exact ⟨none, 0, 0, rfl, fun _ => rfl, Mk.nil _ _ _ _, Below.refl _ _⟩
  · have hd2 := fitsB_yes (n := n) (v := v) (by omega)
    have hp : 0 ≤ p := by omega
    by_cases hb : 8 * (len : Int) < p + n
    · have hv : writeV zs p n v = [] := by unfold writeV; rw [if_neg hr, if_pos (by omega)]
      have he : writeE zs.length p n v = 5 := by unfold writeE; rw [if_neg hr, if_pos (by omega)]
      rw [hv, he]
      have hd3 : decide (n ≤ 8 * (len : Int) - p) = false := by simp; omega
      clear hr hv he hz
      go_enter Try.func11, Try.ntmps11
      go_wp2_with (first | (go_at_call 26; refine (fits_any _ _ _).mono ?_; rintro e w' ⟨rfl, rfl⟩) | (go_at_call 24; refine (hasBits_any _ _ _ _ _ _ (by omega) (by omega) (by omega)).mono ?_; rintro e w' ⟨rfl, rfl⟩))
      go_ret2
      exact ⟨none, 0, 0, rfl, fun _ => rfl, Mk.nil _ _ _ _, Below.refl _ _⟩
    · have hd3 : decide (n ≤ 8 * (len : Int) - p) = true := by simp; omega
      obtain ⟨P, rfl⟩ := Int.eq_ofNat_of_zero_le hp
      obtain ⟨N, rfl⟩ := Int.eq_ofNat_of_zero_le (show 0 ≤ n by omega)
      obtain ⟨V, rfl⟩ := Int.eq_ofNat_of_zero_le (show 0 ≤ v by omega)
      have hv : writeV zs P N V = putTo zs P N V N := by unfold writeV; rw [if_neg hr, if_neg (by omega)]; simp
      have he : writeE zs.length P N V = 0 := by unfold writeE; rw [if_neg hr, if_neg (by omega)]
      have hV : V < 2 ^ N := by
        have : ¬ (2 : Int) ^ N ≤ (V : Int) := fun h => hr (.inr (.inr (.inr (.inl h))))
        have e : ((2 : Int) ^ N) = ((2 ^ N : Nat) : Int) := by simp
        rw [e] at this; omega
      have hN : N ≤ 32 := by omega
      have HV := Lib.hid hV
      rw [hv, he]
      clear hr hv he hz hV
      have Hs := Lib.hid hs
      clear hs
      go_enter Try.func11, Try.ntmps11
      go_wp2_with (first | (go_at_call 26; refine (fits_any _ _ _).mono ?_; rintro e w' ⟨rfl, rfl⟩) | (go_at_call 24; refine (hasBits_any _ _ _ _ _ _ (by omega) (by omega) (by omega)).mono ?_; rintro e w' ⟨rfl, rfl⟩) | (go_at_call 27; refine (clone_any B _ _ _ zs _ Hs.out hc hB).mono ?_; rintro e w1 ⟨a1, cap1, rfl, hn1, hm1, hb1⟩; have Hm1 := Lib.hid hm1; have Hb1 := Lib.hid hb1; clear hm1 hb1) | (go_at_call 28; refine (put_any B _ _ _ _ _ _ zs _ Hm1.out (by omega) hN HV.out).mono ?_; rintro e w2 ⟨rfl, hm2, hb2⟩))
      go_ret2
      exact ⟨a1, len, cap1, rfl, hn1, hm2, Hb1.out.trans hb2⟩
end Go.Proofs.Ytfffmdibjeefkaa
