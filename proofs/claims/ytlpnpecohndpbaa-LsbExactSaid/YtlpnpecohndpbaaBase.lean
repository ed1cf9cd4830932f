/-
  General facts, of no one layer: bit operations on int as natural numbers; what a slice that came in, or that the call made, reads as.
-/
import Derived.WalkKit
import Derived.WalkSpells
import Derived.WalkLawsBesides
import Derived.Lib.Hide
import Derived.Deep.Light
import Derived.Handy
namespace Go.Proofs.Ytlpnpecohndpbaa
open Go Go.RowKit

/-! ### bit operations on int -/
theorem ofInt_i64 (a : Nat) (ha : a < 9223372036854775808) : (BitVec.ofInt 64 (a : Int)).toNat = a := by
  rw [BitVec.ofInt_natCast, BitVec.toNat_ofNat]; exact Nat.mod_eq_of_lt (by omega)
theorem i64_and_nat (a b : Nat) (ha : a < 9223372036854775808) (hb : b < 9223372036854775808) : bits .and .i64 (a : Int) (b : Int) = ((a &&& b : Nat) : Int) := by
  have hx : a &&& b < 2 ^ 63 := Nat.and_lt_two_pow _ (by omega)
  show IntKind.i64.wrap ((BitVec.ofInt 64 (a : Int) &&& BitVec.ofInt 64 (b : Int)).toNat : Int) = _
  rw [BitVec.toNat_and, ofInt_i64 a ha, ofInt_i64 b hb, IntKind.wrap_i64]
  omega
theorem i64_or_nat (a b : Nat) (ha : a < 9223372036854775808) (hb : b < 9223372036854775808) : bits .or .i64 (a : Int) (b : Int) = ((a ||| b : Nat) : Int) := by
  have hx : a ||| b < 2 ^ 63 := Nat.or_lt_two_pow (by omega) (by omega)
  show IntKind.i64.wrap ((BitVec.ofInt 64 (a : Int) ||| BitVec.ofInt 64 (b : Int)).toNat : Int) = _
  rw [BitVec.toNat_or, ofInt_i64 a ha, ofInt_i64 b hb, IntKind.wrap_i64]
  omega
theorem i64_xor_nat (a b : Nat) (ha : a < 9223372036854775808) (hb : b < 9223372036854775808) : bits .xor .i64 (a : Int) (b : Int) = ((a ^^^ b : Nat) : Int) := by
  have hx : a ^^^ b < 2 ^ 63 := Nat.xor_lt_two_pow (by omega) (by omega)
  show IntKind.i64.wrap ((BitVec.ofInt 64 (a : Int) ^^^ BitVec.ofInt 64 (b : Int)).toNat : Int) = _
  rw [BitVec.toNat_xor, ofInt_i64 a ha, ofInt_i64 b hb, IntKind.wrap_i64]
  omega
theorem i64_and_one (a : Int) (h0 : 0 ≤ a) (h1 : a ≤ 9223372036854775807) : bits .and .i64 a 1 = a % 2 := by
  obtain ⟨n, rfl⟩ := Int.eq_ofNat_of_zero_le h0
  rw [show (1 : Int) = ((1 : Nat) : Int) from rfl, i64_and_nat n 1 (by omega) (by omega), nat_mask1]; omega
/-- twice a number, and a bit -/
theorem i64_or_bit (a d : Int) (h0 : 0 ≤ a) (h1 : a ≤ 4611686018427387903) (d0 : 0 ≤ d) (d1 : d ≤ 1) : bits .or .i64 (a * 2) d = a * 2 + d := by
  obtain ⟨n, rfl⟩ := Int.eq_ofNat_of_zero_le h0
  obtain ⟨m, rfl⟩ := Int.eq_ofNat_of_zero_le d0
  have := i64_or_nat (n * 2) m (by omega) (by omega)
  rw [nat_join 1 (n * 2) m (by omega) (by omega)] at this
  simpa using this

/-- '%' of Go, brought from 0 on -/
theorem mod_neg (n m : Int) (hm : 1 ≤ m) (h : n.tmod m < 0) : n.tmod m + m = n % m := by
  have h2 : -m < n.tmod m := Int.lt_tmod_of_pos _ (by omega)
  have e := Int.tmod_add_mul_tdiv n m
  have e2 : (n.tmod m + m + m * (n.tdiv m - 1)) = n := by rw [Int.mul_sub]; omega
  have : (n.tmod m + m + m * (n.tdiv m - 1)) % m = n.tmod m + m := by
    rw [Int.add_mul_emod_self_left]; exact Int.emod_eq_of_lt (by omega) (by omega)
  rw [e2] at this; exact this.symm
theorem mod_pos (n m : Int) (hm : 1 ≤ m) (h : 0 ≤ n.tmod m) : n.tmod m = n % m := by
  have h2 : n.tmod m < m := Int.tmod_lt_of_pos _ (by omega)
  have e := Int.tmod_add_mul_tdiv n m
  have : (n.tmod m + m * (n.tdiv m)) % m = n.tmod m := by
    rw [Int.add_mul_emod_self_left]; exact Int.emod_eq_of_lt (by omega) (by omega)
  rw [e] at this; exact this.symm

theorem ret_int {k : IntKind} {a b : Int} (h : a = b) : Ending.returned (.int k a) = .returned (.int k b) := by rw [h]
theorem int_eq {k : IntKind} {a b : Int} (h : a = b) : Value.int k a = .int k b := by rw [h]
theorem ret_bool {a b : Bool} (h : a = b) : Ending.returned (.bool a) = .returned (.bool b) := by rw [h]

/-! ### what a slice reads as -/
/-- The slice with the head 'a' and 'n' elements reads, in the world w, as the numbers zs of the kind k. -/
structure Sl (k : IntKind) (w : World) (a : Option Addr) (n : Nat) (zs : List Int) : Prop where
  len : zs.length = n
  reach : n ≤ 140737488355328
  wf : ∀ z ∈ zs, (Lit.int k z).wf = true
  cell : ∀ i, i < n → ∃ b off, a = some ⟨b, off, none⟩ ∧ w.cell? ⟨b, off + i, none⟩ = some (.int k (zs.getD i 0))

theorem getD_mem {zs : List Int} {i : Nat} (h : i < zs.length) : zs.getD i 0 ∈ zs := by
  rw [List.getD_eq_getElem?_getD, List.getElem?_eq_getElem h]; simp

theorem Sl.at {k : IntKind} {w : World} {b off n : Nat} {zs : List Int} (h : Sl k w (some ⟨b, off, none⟩) n zs) {i : Nat} (hi : i < n) : w.cell? ⟨b, off + i, none⟩ = some (.int k (zs.getD i 0)) := by
  obtain ⟨b', off', e, hc⟩ := h.cell i hi
  simp only [Option.some.injEq, Addr.mk.injEq, and_true] at e
  obtain ⟨rfl, rfl⟩ := e
  exact hc

/-- a slice that has an element has a head -/
theorem Sl.head {k : IntKind} {w : World} {a : Option Addr} {n : Nat} {zs : List Int} (h : Sl k w a n zs) (hn : 0 < n) : ∃ b off, a = some ⟨b, off, none⟩ := by
  obtain ⟨b, off, e, _⟩ := h.cell 0 hn; exact ⟨b, off, e⟩

theorem Sl.block {k : IntKind} {w : World} {b off n : Nat} {zs : List Int} (h : Sl k w (some ⟨b, off, none⟩) n zs) {i : Nat} (hi : i < n) : b < w.heap.size := World.block_lt_of_cell? w _ (h.at hi)

theorem Sl.u8 {w : World} {a : Option Addr} {n : Nat} {zs : List Int} (h : Sl .u8 w a n zs) (i : Nat) : 0 ≤ zs.getD i 0 ∧ zs.getD i 0 ≤ 255 := by
  by_cases hi : i < zs.length
  · have := h.wf _ (getD_mem hi)
    simpa [Lit.wf, IntKind.min, IntKind.max, IntKind.signed, IntKind.bits] using this
  · rw [List.getD_eq_getElem?_getD, List.getElem?_eq_none (by omega)]; simp
theorem Sl.i64 {w : World} {a : Option Addr} {n : Nat} {zs : List Int} (h : Sl .i64 w a n zs) (i : Nat) : -9223372036854775808 ≤ zs.getD i 0 ∧ zs.getD i 0 ≤ 9223372036854775807 := by
  by_cases hi : i < zs.length
  · have := h.wf _ (getD_mem hi)
    simpa [Lit.wf, IntKind.min, IntKind.max, IntKind.signed, IntKind.bits] using this
  · rw [List.getD_eq_getElem?_getD, List.getElem?_eq_none (by omega)]; simp

/-- what a later world, in which nothing that was there has turned, leaves of it -/
theorem Sl.keep {k : IntKind} {w w' : World} {a : Option Addr} {n : Nat} {zs : List Int} (h : Sl k w a n zs) (hb : Below w.heap.size w w') : Sl k w' a n zs := by
  refine ⟨h.len, h.reach, h.wf, fun i hi => ?_⟩
  obtain ⟨b, off, e, hc⟩ := h.cell i hi
  exact ⟨b, off, e, by rw [hb.cell (World.block_lt_of_cell? w _ hc)]; exact hc⟩

/-- A slice of the call's own (from block B on), which may be written. -/
structure Own (k : IntKind) (B : Nat) (w : World) (a : Option Addr) (n cap : Nat) (zs : List Int) : Prop where
  sl : Sl k w a n zs
  fresh : ∀ x, a = some x → B ≤ x.block ∧ x.block < w.heap.size
  free : ∀ b off, a = some ⟨b, off, none⟩ → ∀ i, i < n → w.frozen? ⟨b, off + i, none⟩ = false

/-- 'w' is w but for the one block b (and new ones): 'a store into a row of one's own'. -/
theorem Below.of_setCell (w : World) (p : Addr) (u : Value) : Below p.block w (w.setCell p u) := (Below.refl _ _).setCell (Nat.le_refl _) u

end Go.Proofs.Ytlpnpecohndpbaa
