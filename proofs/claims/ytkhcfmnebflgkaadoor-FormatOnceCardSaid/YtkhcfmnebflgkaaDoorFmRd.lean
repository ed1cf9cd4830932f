/-
  What the fields of a format read out of bytes (layer 8), plainly. (gen_rd.py writes this text.)
-/
import Derived.Test.YtkhcfmnebflgkaaDoorFmEnc
import Derived.Test.YtkhcfmnebflgkaaDoorFmRead
import Derived.Test.YtkhcfmnebflgkaaDoorJBase
namespace Go.Proofs.YtkhcfmnebflgkaaDoor
open Go Go.RowKit

theorem numAt_byteI (zs : List Int) (hz : Bytes zs) (k : Nat) : ((numAt zs (8 * k) 8 : Nat) : Int) = zs.getD k 0 := by
  have := hz k
  rw [numAt_byte zs hz k]; omega
theorem numAt_getB2 (zs : List Int) (hz : Bytes zs) (k : Nat) : ((numAt zs (8 * k) 16 : Nat) : Int) = getB zs k 2 := by
  have a := hz k
  have b := hz (k + 1)
  rw [numAt_two zs hz k]; simp only [getB, Nat.add_zero]; omega
theorem numAt_getB4 (zs : List Int) (hz : Bytes zs) (k : Nat) : ((numAt zs (8 * k) 32 : Nat) : Int) = getB zs k 4 := by
  have a := hz k
  have b := hz (k + 1)
  have c := hz (k + 2)
  have d := hz (k + 3)
  rw [numAt_four zs hz k]; simp only [getB, Nat.add_zero]; omega
theorem numAt_inI (zs : List Int) (hz : Bytes zs) (k q n : Nat) (h : q + n ≤ 8) : ((numAt zs (8 * k + q) n : Nat) : Int) = zs.getD k 0 / ((2 ^ (8 - q - n) : Nat) : Int) % ((2 ^ n : Nat) : Int) := by
  have a := hz k
  rw [numAt_in zs hz k q n h]
  have e : ((zs.getD k 0).toNat : Int) = zs.getD k 0 := by omega
  rw [Int.natCast_emod, Int.natCast_ediv, e]

/-- the bytes of a format ahead of the checksum -/
def hlen (f k : Int) : Nat := if f = 2 then (if k = 2 then 4 else 2) else if f = 3 then (if k = 2 then 9 else 4) else if f = 4 then (if k = 2 then 16 else 7) else if f = 5 then (if k = 2 then 33 else 20) else 1
def rdS_1_1 (ctx : Int) (zs : List Int) : Sm := ⟨ctx, 1, zs.getD 0 0 / 8 % 16, 0, 0, 0, 0, ⟨1, 0, 0, 0, 0, 0, 0, 0, 0, 0, 0, 0, 0, 0, 0⟩, 0, 0, zs.getD 0 0 % 8, none, 0, 0, []⟩
def rdS_1_2 (ctx : Int) (zs : List Int) : Sm := ⟨ctx, 1, zs.getD 0 0 / 8 % 16, 0, 0, 0, 0, ⟨2, 0, 0, 0, 0, 0, 0, 0, 0, 0, 0, 0, 0, 0, 0⟩, 0, 0, zs.getD 0 0 % 8, none, 0, 0, []⟩
def rdS_2_1 (ctx : Int) (zs : List Int) : Sm := ⟨ctx, 2, zs.getD 0 0 % 32, 0, zs.getD 0 0 / 32 % 2, 0, 0, ⟨1, 0, 0, 0, 0, 0, 0, 0, 0, 0, 0, 0, 0, 0, 0⟩, 0, 0, zs.getD 1 0, none, 0, 0, []⟩
def rdS_2_2 (ctx : Int) (zs : List Int) : Sm := ⟨ctx, 2, zs.getD 0 0 % 32, getB zs 1 2, zs.getD 0 0 / 32 % 2, 0, 0, ⟨2, 0, 0, 0, 0, 0, 0, 0, 0, 0, 0, 0, 0, 0, 0⟩, 0, 0, zs.getD 3 0, none, 0, 0, []⟩
def rdS_3_1 (ctx : Int) (zs : List Int) : Sm := ⟨ctx, 3, getB zs 1 2, 0, zs.getD 0 0 % 2, 0, 0, ⟨1, 0, 0, 0, 0, 0, 0, 0, 0, 0, 0, 0, 0, 0, 0⟩, 0, 0, zs.getD 3 0, none, 0, 0, []⟩
def rdS_3_2 (ctx : Int) (zs : List Int) : Sm := ⟨ctx, 3, zs.getD 1 0, getB zs 2 4, zs.getD 0 0 % 2, getB zs 6 2, 0, ⟨2, 0, 0, 0, 0, 0, 0, 0, 0, 0, 0, 0, 0, 0, 0⟩, 0, 0, zs.getD 8 0, none, 0, 0, []⟩
def rdS_4_1 (ctx : Int) (zs : List Int) : Sm := ⟨ctx, 4, 0, 0, 0, 0, 0, ⟨1, zs.getD 1 0, getB zs 4 2, zs.getD 3 0 / 128 % 2, zs.getD 2 0, 0, 0, 0, 0, 0, zs.getD 3 0 / 16 % 2, 0, 0, 0, 0⟩, 0, zs.getD 3 0 / 32 % 2, zs.getD 6 0, none, 0, 0, []⟩
def rdS_4_2 (ctx : Int) (zs : List Int) : Sm := ⟨ctx, 4, 0, 0, 0, 0, 0, ⟨2, zs.getD 1 0, getB zs 7 2, zs.getD 3 0 / 128 % 2, zs.getD 2 0, 0, 0, 0, 0, 0, zs.getD 3 0 / 16 % 2, zs.getD 4 0, getB zs 5 2, getB zs 9 4, 0⟩, getB zs 13 2, zs.getD 3 0 / 32 % 2, zs.getD 15 0, none, 0, 0, []⟩
def rdS_5_1 (ctx : Int) (zs : List Int) : Sm := ⟨ctx, 5, 0, 0, 0, 0, 0, ⟨zs.getD 1 0, zs.getD 14 0, getB zs 17 2, zs.getD 16 0 / 128 % 2, zs.getD 15 0, getB zs 2 4, getB zs 6 4, getB zs 10 2, getB zs 12 2, 0, zs.getD 16 0 / 16 % 2, 0, 0, 0, 0⟩, 0, zs.getD 16 0 / 32 % 2, zs.getD 19 0, none, 0, 0, []⟩
def rdS_5_2 (ctx : Int) (zs : List Int) : Sm := ⟨ctx, 5, 0, 0, 0, 0, 0, ⟨zs.getD 1 0, zs.getD 18 0, getB zs 24 2, zs.getD 20 0 / 128 % 2, zs.getD 19 0, getB zs 2 4, getB zs 6 4, getB zs 10 2, getB zs 12 2, 0, zs.getD 20 0 / 16 % 2, zs.getD 21 0, getB zs 22 2, getB zs 26 4, getB zs 14 4⟩, getB zs 30 2, zs.getD 20 0 / 32 % 2, zs.getD 32 0, none, 0, 0, []⟩
def rdS_6_0 (ctx : Int) (_zs : List Int) : Sm := ⟨ctx, 6, 0, 0, 0, 0, 0, ⟨0, 0, 0, 0, 0, 0, 0, 0, 0, 0, 0, 0, 0, 0, 0⟩, 0, 0, 0, none, 0, 0, []⟩
theorem getB_fit {zs : List Int} (hz : Bytes zs) (p t : Nat) (ht : t ≤ 6) : -9223372036854775808 ≤ getB zs p t ∧ getB zs p t ≤ 9223372036854775807 := by
  have a := getB_range hz p t (by omega)
  have b := pow256_le t ht
  omega
theorem rdS_fit_1_1 (ctx : Int) (zs : List Int) (_ : Bytes zs) : (rdS_1_1 ctx zs).h.Fits := ⟨(by show _ ≤ (1 : Int) ∧ (1 : Int) ≤ _; omega), (by show _ ≤ (0 : Int) ∧ (0 : Int) ≤ _; omega), (by show _ ≤ (0 : Int) ∧ (0 : Int) ≤ _; omega), (by show _ ≤ (0 : Int) ∧ (0 : Int) ≤ _; omega), (by show _ ≤ (0 : Int) ∧ (0 : Int) ≤ _; omega), (by show _ ≤ (0 : Int) ∧ (0 : Int) ≤ _; omega), (by show _ ≤ (0 : Int) ∧ (0 : Int) ≤ _; omega), (by show _ ≤ (0 : Int) ∧ (0 : Int) ≤ _; omega), (by show _ ≤ (0 : Int) ∧ (0 : Int) ≤ _; omega), (by show _ ≤ (0 : Int) ∧ (0 : Int) ≤ _; omega), (by show _ ≤ (0 : Int) ∧ (0 : Int) ≤ _; omega), (by show _ ≤ (0 : Int) ∧ (0 : Int) ≤ _; omega), (by show _ ≤ (0 : Int) ∧ (0 : Int) ≤ _; omega), (by show _ ≤ (0 : Int) ∧ (0 : Int) ≤ _; omega), (by show _ ≤ (0 : Int) ∧ (0 : Int) ≤ _; omega)⟩
theorem rdS_fit_1_2 (ctx : Int) (zs : List Int) (_ : Bytes zs) : (rdS_1_2 ctx zs).h.Fits := ⟨(by show _ ≤ (2 : Int) ∧ (2 : Int) ≤ _; omega), (by show _ ≤ (0 : Int) ∧ (0 : Int) ≤ _; omega), (by show _ ≤ (0 : Int) ∧ (0 : Int) ≤ _; omega), (by show _ ≤ (0 : Int) ∧ (0 : Int) ≤ _; omega), (by show _ ≤ (0 : Int) ∧ (0 : Int) ≤ _; omega), (by show _ ≤ (0 : Int) ∧ (0 : Int) ≤ _; omega), (by show _ ≤ (0 : Int) ∧ (0 : Int) ≤ _; omega), (by show _ ≤ (0 : Int) ∧ (0 : Int) ≤ _; omega), (by show _ ≤ (0 : Int) ∧ (0 : Int) ≤ _; omega), (by show _ ≤ (0 : Int) ∧ (0 : Int) ≤ _; omega), (by show _ ≤ (0 : Int) ∧ (0 : Int) ≤ _; omega), (by show _ ≤ (0 : Int) ∧ (0 : Int) ≤ _; omega), (by show _ ≤ (0 : Int) ∧ (0 : Int) ≤ _; omega), (by show _ ≤ (0 : Int) ∧ (0 : Int) ≤ _; omega), (by show _ ≤ (0 : Int) ∧ (0 : Int) ≤ _; omega)⟩
theorem rdS_fit_2_1 (ctx : Int) (zs : List Int) (_ : Bytes zs) : (rdS_2_1 ctx zs).h.Fits := ⟨(by show _ ≤ (1 : Int) ∧ (1 : Int) ≤ _; omega), (by show _ ≤ (0 : Int) ∧ (0 : Int) ≤ _; omega), (by show _ ≤ (0 : Int) ∧ (0 : Int) ≤ _; omega), (by show _ ≤ (0 : Int) ∧ (0 : Int) ≤ _; omega), (by show _ ≤ (0 : Int) ∧ (0 : Int) ≤ _; omega), (by show _ ≤ (0 : Int) ∧ (0 : Int) ≤ _; omega), (by show _ ≤ (0 : Int) ∧ (0 : Int) ≤ _; omega), (by show _ ≤ (0 : Int) ∧ (0 : Int) ≤ _; omega), (by show _ ≤ (0 : Int) ∧ (0 : Int) ≤ _; omega), (by show _ ≤ (0 : Int) ∧ (0 : Int) ≤ _; omega), (by show _ ≤ (0 : Int) ∧ (0 : Int) ≤ _; omega), (by show _ ≤ (0 : Int) ∧ (0 : Int) ≤ _; omega), (by show _ ≤ (0 : Int) ∧ (0 : Int) ≤ _; omega), (by show _ ≤ (0 : Int) ∧ (0 : Int) ≤ _; omega), (by show _ ≤ (0 : Int) ∧ (0 : Int) ≤ _; omega)⟩
theorem rdS_fit_2_2 (ctx : Int) (zs : List Int) (_ : Bytes zs) : (rdS_2_2 ctx zs).h.Fits := ⟨(by show _ ≤ (2 : Int) ∧ (2 : Int) ≤ _; omega), (by show _ ≤ (0 : Int) ∧ (0 : Int) ≤ _; omega), (by show _ ≤ (0 : Int) ∧ (0 : Int) ≤ _; omega), (by show _ ≤ (0 : Int) ∧ (0 : Int) ≤ _; omega), (by show _ ≤ (0 : Int) ∧ (0 : Int) ≤ _; omega), (by show _ ≤ (0 : Int) ∧ (0 : Int) ≤ _; omega), (by show _ ≤ (0 : Int) ∧ (0 : Int) ≤ _; omega), (by show _ ≤ (0 : Int) ∧ (0 : Int) ≤ _; omega), (by show _ ≤ (0 : Int) ∧ (0 : Int) ≤ _; omega), (by show _ ≤ (0 : Int) ∧ (0 : Int) ≤ _; omega), (by show _ ≤ (0 : Int) ∧ (0 : Int) ≤ _; omega), (by show _ ≤ (0 : Int) ∧ (0 : Int) ≤ _; omega), (by show _ ≤ (0 : Int) ∧ (0 : Int) ≤ _; omega), (by show _ ≤ (0 : Int) ∧ (0 : Int) ≤ _; omega), (by show _ ≤ (0 : Int) ∧ (0 : Int) ≤ _; omega)⟩
theorem rdS_fit_3_1 (ctx : Int) (zs : List Int) (_ : Bytes zs) : (rdS_3_1 ctx zs).h.Fits := ⟨(by show _ ≤ (1 : Int) ∧ (1 : Int) ≤ _; omega), (by show _ ≤ (0 : Int) ∧ (0 : Int) ≤ _; omega), (by show _ ≤ (0 : Int) ∧ (0 : Int) ≤ _; omega), (by show _ ≤ (0 : Int) ∧ (0 : Int) ≤ _; omega), (by show _ ≤ (0 : Int) ∧ (0 : Int) ≤ _; omega), (by show _ ≤ (0 : Int) ∧ (0 : Int) ≤ _; omega), (by show _ ≤ (0 : Int) ∧ (0 : Int) ≤ _; omega), (by show _ ≤ (0 : Int) ∧ (0 : Int) ≤ _; omega), (by show _ ≤ (0 : Int) ∧ (0 : Int) ≤ _; omega), (by show _ ≤ (0 : Int) ∧ (0 : Int) ≤ _; omega), (by show _ ≤ (0 : Int) ∧ (0 : Int) ≤ _; omega), (by show _ ≤ (0 : Int) ∧ (0 : Int) ≤ _; omega), (by show _ ≤ (0 : Int) ∧ (0 : Int) ≤ _; omega), (by show _ ≤ (0 : Int) ∧ (0 : Int) ≤ _; omega), (by show _ ≤ (0 : Int) ∧ (0 : Int) ≤ _; omega)⟩
theorem rdS_fit_3_2 (ctx : Int) (zs : List Int) (_ : Bytes zs) : (rdS_3_2 ctx zs).h.Fits := ⟨(by show _ ≤ (2 : Int) ∧ (2 : Int) ≤ _; omega), (by show _ ≤ (0 : Int) ∧ (0 : Int) ≤ _; omega), (by show _ ≤ (0 : Int) ∧ (0 : Int) ≤ _; omega), (by show _ ≤ (0 : Int) ∧ (0 : Int) ≤ _; omega), (by show _ ≤ (0 : Int) ∧ (0 : Int) ≤ _; omega), (by show _ ≤ (0 : Int) ∧ (0 : Int) ≤ _; omega), (by show _ ≤ (0 : Int) ∧ (0 : Int) ≤ _; omega), (by show _ ≤ (0 : Int) ∧ (0 : Int) ≤ _; omega), (by show _ ≤ (0 : Int) ∧ (0 : Int) ≤ _; omega), (by show _ ≤ (0 : Int) ∧ (0 : Int) ≤ _; omega), (by show _ ≤ (0 : Int) ∧ (0 : Int) ≤ _; omega), (by show _ ≤ (0 : Int) ∧ (0 : Int) ≤ _; omega), (by show _ ≤ (0 : Int) ∧ (0 : Int) ≤ _; omega), (by show _ ≤ (0 : Int) ∧ (0 : Int) ≤ _; omega), (by show _ ≤ (0 : Int) ∧ (0 : Int) ≤ _; omega)⟩
theorem rdS_fit_4_1 (ctx : Int) (zs : List Int) (hz : Bytes zs) : (rdS_4_1 ctx zs).h.Fits := ⟨(by show _ ≤ (1 : Int) ∧ (1 : Int) ≤ _; omega), (by have h9 := hz 1; show _ ≤ zs.getD 1 0 ∧ zs.getD 1 0 ≤ _; omega), getB_fit hz 4 2 (by omega), (by show _ ≤ (zs.getD 3 0 / 128 % 2 : Int) ∧ (zs.getD 3 0 / 128 % 2 : Int) ≤ _; omega), (by have h9 := hz 2; show _ ≤ zs.getD 2 0 ∧ zs.getD 2 0 ≤ _; omega), (by show _ ≤ (0 : Int) ∧ (0 : Int) ≤ _; omega), (by show _ ≤ (0 : Int) ∧ (0 : Int) ≤ _; omega), (by show _ ≤ (0 : Int) ∧ (0 : Int) ≤ _; omega), (by show _ ≤ (0 : Int) ∧ (0 : Int) ≤ _; omega), (by show _ ≤ (0 : Int) ∧ (0 : Int) ≤ _; omega), (by show _ ≤ (zs.getD 3 0 / 16 % 2 : Int) ∧ (zs.getD 3 0 / 16 % 2 : Int) ≤ _; omega), (by show _ ≤ (0 : Int) ∧ (0 : Int) ≤ _; omega), (by show _ ≤ (0 : Int) ∧ (0 : Int) ≤ _; omega), (by show _ ≤ (0 : Int) ∧ (0 : Int) ≤ _; omega), (by show _ ≤ (0 : Int) ∧ (0 : Int) ≤ _; omega)⟩
theorem rdS_fit_4_2 (ctx : Int) (zs : List Int) (hz : Bytes zs) : (rdS_4_2 ctx zs).h.Fits := ⟨(by show _ ≤ (2 : Int) ∧ (2 : Int) ≤ _; omega), (by have h9 := hz 1; show _ ≤ zs.getD 1 0 ∧ zs.getD 1 0 ≤ _; omega), getB_fit hz 7 2 (by omega), (by show _ ≤ (zs.getD 3 0 / 128 % 2 : Int) ∧ (zs.getD 3 0 / 128 % 2 : Int) ≤ _; omega), (by have h9 := hz 2; show _ ≤ zs.getD 2 0 ∧ zs.getD 2 0 ≤ _; omega), (by show _ ≤ (0 : Int) ∧ (0 : Int) ≤ _; omega), (by show _ ≤ (0 : Int) ∧ (0 : Int) ≤ _; omega), (by show _ ≤ (0 : Int) ∧ (0 : Int) ≤ _; omega), (by show _ ≤ (0 : Int) ∧ (0 : Int) ≤ _; omega), (by show _ ≤ (0 : Int) ∧ (0 : Int) ≤ _; omega), (by show _ ≤ (zs.getD 3 0 / 16 % 2 : Int) ∧ (zs.getD 3 0 / 16 % 2 : Int) ≤ _; omega), (by have h9 := hz 4; show _ ≤ zs.getD 4 0 ∧ zs.getD 4 0 ≤ _; omega), getB_fit hz 5 2 (by omega), getB_fit hz 9 4 (by omega), (by show _ ≤ (0 : Int) ∧ (0 : Int) ≤ _; omega)⟩
theorem rdS_fit_5_1 (ctx : Int) (zs : List Int) (hz : Bytes zs) : (rdS_5_1 ctx zs).h.Fits := ⟨(by have h9 := hz 1; show _ ≤ zs.getD 1 0 ∧ zs.getD 1 0 ≤ _; omega), (by have h9 := hz 14; show _ ≤ zs.getD 14 0 ∧ zs.getD 14 0 ≤ _; omega), getB_fit hz 17 2 (by omega), (by show _ ≤ (zs.getD 16 0 / 128 % 2 : Int) ∧ (zs.getD 16 0 / 128 % 2 : Int) ≤ _; omega), (by have h9 := hz 15; show _ ≤ zs.getD 15 0 ∧ zs.getD 15 0 ≤ _; omega), getB_fit hz 2 4 (by omega), getB_fit hz 6 4 (by omega), getB_fit hz 10 2 (by omega), getB_fit hz 12 2 (by omega), (by show _ ≤ (0 : Int) ∧ (0 : Int) ≤ _; omega), (by show _ ≤ (zs.getD 16 0 / 16 % 2 : Int) ∧ (zs.getD 16 0 / 16 % 2 : Int) ≤ _; omega), (by show _ ≤ (0 : Int) ∧ (0 : Int) ≤ _; omega), (by show _ ≤ (0 : Int) ∧ (0 : Int) ≤ _; omega), (by show _ ≤ (0 : Int) ∧ (0 : Int) ≤ _; omega), (by show _ ≤ (0 : Int) ∧ (0 : Int) ≤ _; omega)⟩
theorem rdS_fit_5_2 (ctx : Int) (zs : List Int) (hz : Bytes zs) : (rdS_5_2 ctx zs).h.Fits := ⟨(by have h9 := hz 1; show _ ≤ zs.getD 1 0 ∧ zs.getD 1 0 ≤ _; omega), (by have h9 := hz 18; show _ ≤ zs.getD 18 0 ∧ zs.getD 18 0 ≤ _; omega), getB_fit hz 24 2 (by omega), (by show _ ≤ (zs.getD 20 0 / 128 % 2 : Int) ∧ (zs.getD 20 0 / 128 % 2 : Int) ≤ _; omega), (by have h9 := hz 19; show _ ≤ zs.getD 19 0 ∧ zs.getD 19 0 ≤ _; omega), getB_fit hz 2 4 (by omega), getB_fit hz 6 4 (by omega), getB_fit hz 10 2 (by omega), getB_fit hz 12 2 (by omega), (by show _ ≤ (0 : Int) ∧ (0 : Int) ≤ _; omega), (by show _ ≤ (zs.getD 20 0 / 16 % 2 : Int) ∧ (zs.getD 20 0 / 16 % 2 : Int) ≤ _; omega), (by have h9 := hz 21; show _ ≤ zs.getD 21 0 ∧ zs.getD 21 0 ≤ _; omega), getB_fit hz 22 2 (by omega), getB_fit hz 26 4 (by omega), getB_fit hz 14 4 (by omega)⟩
theorem rdS_fit_6_0 (ctx : Int) (zs : List Int) (_ : Bytes zs) : (rdS_6_0 ctx zs).h.Fits := ⟨(by show _ ≤ (0 : Int) ∧ (0 : Int) ≤ _; omega), (by show _ ≤ (0 : Int) ∧ (0 : Int) ≤ _; omega), (by show _ ≤ (0 : Int) ∧ (0 : Int) ≤ _; omega), (by show _ ≤ (0 : Int) ∧ (0 : Int) ≤ _; omega), (by show _ ≤ (0 : Int) ∧ (0 : Int) ≤ _; omega), (by show _ ≤ (0 : Int) ∧ (0 : Int) ≤ _; omega), (by show _ ≤ (0 : Int) ∧ (0 : Int) ≤ _; omega), (by show _ ≤ (0 : Int) ∧ (0 : Int) ≤ _; omega), (by show _ ≤ (0 : Int) ∧ (0 : Int) ≤ _; omega), (by show _ ≤ (0 : Int) ∧ (0 : Int) ≤ _; omega), (by show _ ≤ (0 : Int) ∧ (0 : Int) ≤ _; omega), (by show _ ≤ (0 : Int) ∧ (0 : Int) ≤ _; omega), (by show _ ≤ (0 : Int) ∧ (0 : Int) ≤ _; omega), (by show _ ≤ (0 : Int) ∧ (0 : Int) ≤ _; omega), (by show _ ≤ (0 : Int) ∧ (0 : Int) ≤ _; omega)⟩
/-- the parts that the fields read, without checksum and payload -/
def rdS (ctx f k : Int) (zs : List Int) : Sm :=
  if f = 1 then (if k = 2 then rdS_1_2 ctx zs else rdS_1_1 ctx zs) else if f = 2 then (if k = 2 then rdS_2_2 ctx zs else rdS_2_1 ctx zs) else if f = 3 then (if k = 2 then rdS_3_2 ctx zs else rdS_3_1 ctx zs)
  else if f = 4 then (if k = 2 then rdS_4_2 ctx zs else rdS_4_1 ctx zs) else if f = 5 then (if k = 2 then rdS_5_2 ctx zs else rdS_5_1 ctx zs) else rdS_6_0 ctx zs
/-- the bit that says whether there is a checksum -/
def ckF (f k : Int) (zs : List Int) : Int := if f = 4 then zs.getD 3 0 / 64 % 2 else if f = 5 then (if k = 2 then zs.getD 20 0 / 64 % 2 else zs.getD 16 0 / 64 % 2) else 0
def drA (s : Sm) (st ck ze : Int) : Array Value := #[.int .i64 s.ctx, .int .i64 s.fmt, .int .i64 s.num, .int .i64 s.time, .int .i64 s.mark, .int .i64 s.id, .int .i64 s.udp, .int .i64 s.h.kind, .int .i64 s.h.tos, .int .i64 s.h.id, .int .i64 s.h.fixed, .int .i64 s.h.ttl, .int .i64 s.h.frm, .int .i64 s.h.to, .int .i64 s.h.fromPort, .int .i64 s.h.toPort, .int .i64 s.h.check, .int .i64 s.h.marker, .int .i64 s.h.type, .int .i64 s.h.seq, .int .i64 s.h.time, .int .i64 s.h.source, .int .i64 s.ds, .int .i64 s.df, .int .i64 s.chk, .slice s.pa s.pn s.pc, .int .i64 st, .int .i64 ck, .int .i64 ze]
/-- the draft ahead of reading -/
def drO (ctx f k : Int) : Array Value := drA ⟨ctx, f, 0, 0, 0, 0, 0, kindH k, 0, 0, 0, none, 0, 0, []⟩ 0 0 0
set_option maxRecDepth 100000 in
theorem rd_1_1 (ctx : Int) (zs : List Int) (hz : Bytes zs) : rdTo zs (fldL 1 1) (fWs 1 1) 0 (drO ctx 1 1) 3 = drA (rdS ctx 1 1 zs) (zs.getD 0 0 / 128 % 2) (ckF 1 1 zs) (0) := by
  have h : rdTo zs (fldL 1 1) (fWs 1 1) 0 (drO ctx 1 1) 3 = #[.int .i64 ctx, .int .i64 1, .int .i64 (numAt zs 1 4 : Nat), .int .i64 0, .int .i64 0, .int .i64 0, .int .i64 0, .int .i64 1, .int .i64 0, .int .i64 0, .int .i64 0, .int .i64 0, .int .i64 0, .int .i64 0, .int .i64 0, .int .i64 0, .int .i64 0, .int .i64 0, .int .i64 0, .int .i64 0, .int .i64 0, .int .i64 0, .int .i64 0, .int .i64 0, .int .i64 (numAt zs 5 3 : Nat), .slice none 0 0, .int .i64 (numAt zs 0 1 : Nat), .int .i64 0, .int .i64 0] := by kernel_rfl
  rw [h]
  rw [show ((numAt zs 0 1 : Nat) : Int) = zs.getD 0 0 / 128 % 2 from (numAt_inI zs hz 0 0 1 (by omega)).trans (by simp)]
  rw [show ((numAt zs 1 4 : Nat) : Int) = zs.getD 0 0 / 8 % 16 from (numAt_inI zs hz 0 1 4 (by omega)).trans (by simp)]
  rw [show ((numAt zs 5 3 : Nat) : Int) = zs.getD 0 0 % 8 from (numAt_inI zs hz 0 5 3 (by omega)).trans (by simp)]
  rfl
set_option maxRecDepth 100000 in
theorem rd_1_2 (ctx : Int) (zs : List Int) (hz : Bytes zs) : rdTo zs (fldL 1 2) (fWs 1 2) 0 (drO ctx 1 2) 3 = drA (rdS ctx 1 2 zs) (zs.getD 0 0 / 128 % 2) (ckF 1 2 zs) (0) := by
  have h : rdTo zs (fldL 1 2) (fWs 1 2) 0 (drO ctx 1 2) 3 = #[.int .i64 ctx, .int .i64 1, .int .i64 (numAt zs 1 4 : Nat), .int .i64 0, .int .i64 0, .int .i64 0, .int .i64 0, .int .i64 2, .int .i64 0, .int .i64 0, .int .i64 0, .int .i64 0, .int .i64 0, .int .i64 0, .int .i64 0, .int .i64 0, .int .i64 0, .int .i64 0, .int .i64 0, .int .i64 0, .int .i64 0, .int .i64 0, .int .i64 0, .int .i64 0, .int .i64 (numAt zs 5 3 : Nat), .slice none 0 0, .int .i64 (numAt zs 0 1 : Nat), .int .i64 0, .int .i64 0] := by kernel_rfl
  rw [h]
  rw [show ((numAt zs 0 1 : Nat) : Int) = zs.getD 0 0 / 128 % 2 from (numAt_inI zs hz 0 0 1 (by omega)).trans (by simp)]
  rw [show ((numAt zs 1 4 : Nat) : Int) = zs.getD 0 0 / 8 % 16 from (numAt_inI zs hz 0 1 4 (by omega)).trans (by simp)]
  rw [show ((numAt zs 5 3 : Nat) : Int) = zs.getD 0 0 % 8 from (numAt_inI zs hz 0 5 3 (by omega)).trans (by simp)]
  rfl
set_option maxRecDepth 100000 in
theorem rd_2_1 (ctx : Int) (zs : List Int) (hz : Bytes zs) : rdTo zs (fldL 2 1) (fWs 2 1) 0 (drO ctx 2 1) 5 = drA (rdS ctx 2 1 zs) (zs.getD 0 0 / 64 % 4) (ckF 2 1 zs) (0) := by
  have h : rdTo zs (fldL 2 1) (fWs 2 1) 0 (drO ctx 2 1) 5 = #[.int .i64 ctx, .int .i64 2, .int .i64 (numAt zs 3 5 : Nat), .int .i64 (numAt zs 8 0 : Nat), .int .i64 (numAt zs 2 1 : Nat), .int .i64 0, .int .i64 0, .int .i64 1, .int .i64 0, .int .i64 0, .int .i64 0, .int .i64 0, .int .i64 0, .int .i64 0, .int .i64 0, .int .i64 0, .int .i64 0, .int .i64 0, .int .i64 0, .int .i64 0, .int .i64 0, .int .i64 0, .int .i64 0, .int .i64 0, .int .i64 (numAt zs 8 8 : Nat), .slice none 0 0, .int .i64 (numAt zs 0 2 : Nat), .int .i64 0, .int .i64 0] := by kernel_rfl
  rw [h]
  rw [show ((numAt zs 0 2 : Nat) : Int) = zs.getD 0 0 / 64 % 4 from (numAt_inI zs hz 0 0 2 (by omega)).trans (by simp)]
  rw [show ((numAt zs 2 1 : Nat) : Int) = zs.getD 0 0 / 32 % 2 from (numAt_inI zs hz 0 2 1 (by omega)).trans (by simp)]
  rw [show ((numAt zs 3 5 : Nat) : Int) = zs.getD 0 0 % 32 from (numAt_inI zs hz 0 3 5 (by omega)).trans (by simp)]
  rw [show ((numAt zs 8 0 : Nat) : Int) = 0 from rfl]
  rw [show ((numAt zs 8 8 : Nat) : Int) = zs.getD 1 0 from numAt_byteI zs hz 1]
  rfl
set_option maxRecDepth 100000 in
theorem rd_2_2 (ctx : Int) (zs : List Int) (hz : Bytes zs) : rdTo zs (fldL 2 2) (fWs 2 2) 0 (drO ctx 2 2) 5 = drA (rdS ctx 2 2 zs) (zs.getD 0 0 / 64 % 4) (ckF 2 2 zs) (0) := by
  have h : rdTo zs (fldL 2 2) (fWs 2 2) 0 (drO ctx 2 2) 5 = #[.int .i64 ctx, .int .i64 2, .int .i64 (numAt zs 3 5 : Nat), .int .i64 (numAt zs 8 16 : Nat), .int .i64 (numAt zs 2 1 : Nat), .int .i64 0, .int .i64 0, .int .i64 2, .int .i64 0, .int .i64 0, .int .i64 0, .int .i64 0, .int .i64 0, .int .i64 0, .int .i64 0, .int .i64 0, .int .i64 0, .int .i64 0, .int .i64 0, .int .i64 0, .int .i64 0, .int .i64 0, .int .i64 0, .int .i64 0, .int .i64 (numAt zs 24 8 : Nat), .slice none 0 0, .int .i64 (numAt zs 0 2 : Nat), .int .i64 0, .int .i64 0] := by kernel_rfl
  rw [h]
  rw [show ((numAt zs 0 2 : Nat) : Int) = zs.getD 0 0 / 64 % 4 from (numAt_inI zs hz 0 0 2 (by omega)).trans (by simp)]
  rw [show ((numAt zs 2 1 : Nat) : Int) = zs.getD 0 0 / 32 % 2 from (numAt_inI zs hz 0 2 1 (by omega)).trans (by simp)]
  rw [show ((numAt zs 3 5 : Nat) : Int) = zs.getD 0 0 % 32 from (numAt_inI zs hz 0 3 5 (by omega)).trans (by simp)]
  rw [show ((numAt zs 8 16 : Nat) : Int) = getB zs 1 2 from numAt_getB2 zs hz 1]
  rw [show ((numAt zs 24 8 : Nat) : Int) = zs.getD 3 0 from numAt_byteI zs hz 3]
  rfl
set_option maxRecDepth 100000 in
theorem rd_3_1 (ctx : Int) (zs : List Int) (hz : Bytes zs) : rdTo zs (fldL 3 1) (fWs 3 1) 0 (drO ctx 3 1) 6 = drA (rdS ctx 3 1 zs) (zs.getD 0 0 / 2 % 128) (ckF 3 1 zs) (0) := by
  have h : rdTo zs (fldL 3 1) (fWs 3 1) 0 (drO ctx 3 1) 6 = #[.int .i64 ctx, .int .i64 3, .int .i64 (numAt zs 8 16 : Nat), .int .i64 (numAt zs 24 0 : Nat), .int .i64 (numAt zs 7 1 : Nat), .int .i64 (numAt zs 24 0 : Nat), .int .i64 0, .int .i64 1, .int .i64 0, .int .i64 0, .int .i64 0, .int .i64 0, .int .i64 0, .int .i64 0, .int .i64 0, .int .i64 0, .int .i64 0, .int .i64 0, .int .i64 0, .int .i64 0, .int .i64 0, .int .i64 0, .int .i64 0, .int .i64 0, .int .i64 (numAt zs 24 8 : Nat), .slice none 0 0, .int .i64 (numAt zs 0 7 : Nat), .int .i64 0, .int .i64 0] := by kernel_rfl
  rw [h]
  rw [show ((numAt zs 0 7 : Nat) : Int) = zs.getD 0 0 / 2 % 128 from (numAt_inI zs hz 0 0 7 (by omega)).trans (by simp)]
  rw [show ((numAt zs 7 1 : Nat) : Int) = zs.getD 0 0 % 2 from (numAt_inI zs hz 0 7 1 (by omega)).trans (by simp)]
  rw [show ((numAt zs 8 16 : Nat) : Int) = getB zs 1 2 from numAt_getB2 zs hz 1]
  rw [show ((numAt zs 24 0 : Nat) : Int) = 0 from rfl]
  rw [show ((numAt zs 24 8 : Nat) : Int) = zs.getD 3 0 from numAt_byteI zs hz 3]
  rfl
set_option maxRecDepth 100000 in
theorem rd_3_2 (ctx : Int) (zs : List Int) (hz : Bytes zs) : rdTo zs (fldL 3 2) (fWs 3 2) 0 (drO ctx 3 2) 6 = drA (rdS ctx 3 2 zs) (zs.getD 0 0 / 2 % 128) (ckF 3 2 zs) (0) := by
  have h : rdTo zs (fldL 3 2) (fWs 3 2) 0 (drO ctx 3 2) 6 = #[.int .i64 ctx, .int .i64 3, .int .i64 (numAt zs 8 8 : Nat), .int .i64 (numAt zs 16 32 : Nat), .int .i64 (numAt zs 7 1 : Nat), .int .i64 (numAt zs 48 16 : Nat), .int .i64 0, .int .i64 2, .int .i64 0, .int .i64 0, .int .i64 0, .int .i64 0, .int .i64 0, .int .i64 0, .int .i64 0, .int .i64 0, .int .i64 0, .int .i64 0, .int .i64 0, .int .i64 0, .int .i64 0, .int .i64 0, .int .i64 0, .int .i64 0, .int .i64 (numAt zs 64 8 : Nat), .slice none 0 0, .int .i64 (numAt zs 0 7 : Nat), .int .i64 0, .int .i64 0] := by kernel_rfl
  rw [h]
  rw [show ((numAt zs 0 7 : Nat) : Int) = zs.getD 0 0 / 2 % 128 from (numAt_inI zs hz 0 0 7 (by omega)).trans (by simp)]
  rw [show ((numAt zs 7 1 : Nat) : Int) = zs.getD 0 0 % 2 from (numAt_inI zs hz 0 7 1 (by omega)).trans (by simp)]
  rw [show ((numAt zs 8 8 : Nat) : Int) = zs.getD 1 0 from numAt_byteI zs hz 1]
  rw [show ((numAt zs 16 32 : Nat) : Int) = getB zs 2 4 from numAt_getB4 zs hz 2]
  rw [show ((numAt zs 48 16 : Nat) : Int) = getB zs 6 2 from numAt_getB2 zs hz 6]
  rw [show ((numAt zs 64 8 : Nat) : Int) = zs.getD 8 0 from numAt_byteI zs hz 8]
  rfl
set_option maxRecDepth 100000 in
theorem rd_4_1 (ctx : Int) (zs : List Int) (hz : Bytes zs) : rdTo zs (fldL 4 1) (fWs 4 1) 0 (drO ctx 4 1) 10 = drA (rdS ctx 4 1 zs) (zs.getD 0 0) (ckF 4 1 zs) (zs.getD 3 0 % 16) := by
  have h : rdTo zs (fldL 4 1) (fWs 4 1) 0 (drO ctx 4 1) 10 = #[.int .i64 ctx, .int .i64 4, .int .i64 0, .int .i64 0, .int .i64 0, .int .i64 0, .int .i64 0, .int .i64 1, .int .i64 (numAt zs 8 8 : Nat), .int .i64 (numAt zs 32 16 : Nat), .int .i64 (numAt zs 24 1 : Nat), .int .i64 (numAt zs 16 8 : Nat), .int .i64 0, .int .i64 0, .int .i64 0, .int .i64 0, .int .i64 0, .int .i64 (numAt zs 27 1 : Nat), .int .i64 0, .int .i64 0, .int .i64 0, .int .i64 0, .int .i64 0, .int .i64 (numAt zs 26 1 : Nat), .int .i64 (numAt zs 48 8 : Nat), .slice none 0 0, .int .i64 (numAt zs 0 8 : Nat), .int .i64 (numAt zs 25 1 : Nat), .int .i64 (numAt zs 28 4 : Nat)] := by kernel_rfl
  rw [h]
  rw [show ((numAt zs 0 8 : Nat) : Int) = zs.getD 0 0 from numAt_byteI zs hz 0]
  rw [show ((numAt zs 8 8 : Nat) : Int) = zs.getD 1 0 from numAt_byteI zs hz 1]
  rw [show ((numAt zs 16 8 : Nat) : Int) = zs.getD 2 0 from numAt_byteI zs hz 2]
  rw [show ((numAt zs 24 1 : Nat) : Int) = zs.getD 3 0 / 128 % 2 from (numAt_inI zs hz 3 0 1 (by omega)).trans (by simp)]
  rw [show ((numAt zs 25 1 : Nat) : Int) = zs.getD 3 0 / 64 % 2 from (numAt_inI zs hz 3 1 1 (by omega)).trans (by simp)]
  rw [show ((numAt zs 26 1 : Nat) : Int) = zs.getD 3 0 / 32 % 2 from (numAt_inI zs hz 3 2 1 (by omega)).trans (by simp)]
  rw [show ((numAt zs 27 1 : Nat) : Int) = zs.getD 3 0 / 16 % 2 from (numAt_inI zs hz 3 3 1 (by omega)).trans (by simp)]
  rw [show ((numAt zs 28 4 : Nat) : Int) = zs.getD 3 0 % 16 from (numAt_inI zs hz 3 4 4 (by omega)).trans (by simp)]
  rw [show ((numAt zs 32 16 : Nat) : Int) = getB zs 4 2 from numAt_getB2 zs hz 4]
  rw [show ((numAt zs 48 8 : Nat) : Int) = zs.getD 6 0 from numAt_byteI zs hz 6]
  rfl
set_option maxRecDepth 100000 in
theorem rd_4_2 (ctx : Int) (zs : List Int) (hz : Bytes zs) : rdTo zs (fldL 4 2) (fWs 4 2) 0 (drO ctx 4 2) 14 = drA (rdS ctx 4 2 zs) (zs.getD 0 0) (ckF 4 2 zs) (zs.getD 3 0 % 16) := by
  have h : rdTo zs (fldL 4 2) (fWs 4 2) 0 (drO ctx 4 2) 14 = #[.int .i64 ctx, .int .i64 4, .int .i64 0, .int .i64 0, .int .i64 0, .int .i64 0, .int .i64 0, .int .i64 2, .int .i64 (numAt zs 8 8 : Nat), .int .i64 (numAt zs 56 16 : Nat), .int .i64 (numAt zs 24 1 : Nat), .int .i64 (numAt zs 16 8 : Nat), .int .i64 0, .int .i64 0, .int .i64 0, .int .i64 0, .int .i64 0, .int .i64 (numAt zs 27 1 : Nat), .int .i64 (numAt zs 32 8 : Nat), .int .i64 (numAt zs 40 16 : Nat), .int .i64 (numAt zs 72 32 : Nat), .int .i64 0, .int .i64 (numAt zs 104 16 : Nat), .int .i64 (numAt zs 26 1 : Nat), .int .i64 (numAt zs 120 8 : Nat), .slice none 0 0, .int .i64 (numAt zs 0 8 : Nat), .int .i64 (numAt zs 25 1 : Nat), .int .i64 (numAt zs 28 4 : Nat)] := by kernel_rfl
  rw [h]
  rw [show ((numAt zs 0 8 : Nat) : Int) = zs.getD 0 0 from numAt_byteI zs hz 0]
  rw [show ((numAt zs 8 8 : Nat) : Int) = zs.getD 1 0 from numAt_byteI zs hz 1]
  rw [show ((numAt zs 16 8 : Nat) : Int) = zs.getD 2 0 from numAt_byteI zs hz 2]
  rw [show ((numAt zs 24 1 : Nat) : Int) = zs.getD 3 0 / 128 % 2 from (numAt_inI zs hz 3 0 1 (by omega)).trans (by simp)]
  rw [show ((numAt zs 25 1 : Nat) : Int) = zs.getD 3 0 / 64 % 2 from (numAt_inI zs hz 3 1 1 (by omega)).trans (by simp)]
  rw [show ((numAt zs 26 1 : Nat) : Int) = zs.getD 3 0 / 32 % 2 from (numAt_inI zs hz 3 2 1 (by omega)).trans (by simp)]
  rw [show ((numAt zs 27 1 : Nat) : Int) = zs.getD 3 0 / 16 % 2 from (numAt_inI zs hz 3 3 1 (by omega)).trans (by simp)]
  rw [show ((numAt zs 28 4 : Nat) : Int) = zs.getD 3 0 % 16 from (numAt_inI zs hz 3 4 4 (by omega)).trans (by simp)]
  rw [show ((numAt zs 32 8 : Nat) : Int) = zs.getD 4 0 from numAt_byteI zs hz 4]
  rw [show ((numAt zs 40 16 : Nat) : Int) = getB zs 5 2 from numAt_getB2 zs hz 5]
  rw [show ((numAt zs 56 16 : Nat) : Int) = getB zs 7 2 from numAt_getB2 zs hz 7]
  rw [show ((numAt zs 72 32 : Nat) : Int) = getB zs 9 4 from numAt_getB4 zs hz 9]
  rw [show ((numAt zs 104 16 : Nat) : Int) = getB zs 13 2 from numAt_getB2 zs hz 13]
  rw [show ((numAt zs 120 8 : Nat) : Int) = zs.getD 15 0 from numAt_byteI zs hz 15]
  rfl
set_option maxRecDepth 100000 in
theorem rd_5_1 (ctx : Int) (zs : List Int) (hz : Bytes zs) : rdTo zs (fldL 5 1) (fWs 5 1) 0 (drO ctx 5 1) 15 = drA (rdS ctx 5 1 zs) (zs.getD 0 0) (ckF 5 1 zs) (zs.getD 16 0 % 16) := by
  have h : rdTo zs (fldL 5 1) (fWs 5 1) 0 (drO ctx 5 1) 15 = #[.int .i64 ctx, .int .i64 5, .int .i64 0, .int .i64 0, .int .i64 0, .int .i64 0, .int .i64 0, .int .i64 (numAt zs 8 8 : Nat), .int .i64 (numAt zs 112 8 : Nat), .int .i64 (numAt zs 136 16 : Nat), .int .i64 (numAt zs 128 1 : Nat), .int .i64 (numAt zs 120 8 : Nat), .int .i64 (numAt zs 16 32 : Nat), .int .i64 (numAt zs 48 32 : Nat), .int .i64 (numAt zs 80 16 : Nat), .int .i64 (numAt zs 96 16 : Nat), .int .i64 0, .int .i64 (numAt zs 131 1 : Nat), .int .i64 0, .int .i64 0, .int .i64 0, .int .i64 0, .int .i64 0, .int .i64 (numAt zs 130 1 : Nat), .int .i64 (numAt zs 152 8 : Nat), .slice none 0 0, .int .i64 (numAt zs 0 8 : Nat), .int .i64 (numAt zs 129 1 : Nat), .int .i64 (numAt zs 132 4 : Nat)] := by kernel_rfl
  rw [h]
  rw [show ((numAt zs 0 8 : Nat) : Int) = zs.getD 0 0 from numAt_byteI zs hz 0]
  rw [show ((numAt zs 8 8 : Nat) : Int) = zs.getD 1 0 from numAt_byteI zs hz 1]
  rw [show ((numAt zs 16 32 : Nat) : Int) = getB zs 2 4 from numAt_getB4 zs hz 2]
  rw [show ((numAt zs 48 32 : Nat) : Int) = getB zs 6 4 from numAt_getB4 zs hz 6]
  rw [show ((numAt zs 80 16 : Nat) : Int) = getB zs 10 2 from numAt_getB2 zs hz 10]
  rw [show ((numAt zs 96 16 : Nat) : Int) = getB zs 12 2 from numAt_getB2 zs hz 12]
  rw [show ((numAt zs 112 8 : Nat) : Int) = zs.getD 14 0 from numAt_byteI zs hz 14]
  rw [show ((numAt zs 120 8 : Nat) : Int) = zs.getD 15 0 from numAt_byteI zs hz 15]
  rw [show ((numAt zs 128 1 : Nat) : Int) = zs.getD 16 0 / 128 % 2 from (numAt_inI zs hz 16 0 1 (by omega)).trans (by simp)]
  rw [show ((numAt zs 129 1 : Nat) : Int) = zs.getD 16 0 / 64 % 2 from (numAt_inI zs hz 16 1 1 (by omega)).trans (by simp)]
  rw [show ((numAt zs 130 1 : Nat) : Int) = zs.getD 16 0 / 32 % 2 from (numAt_inI zs hz 16 2 1 (by omega)).trans (by simp)]
  rw [show ((numAt zs 131 1 : Nat) : Int) = zs.getD 16 0 / 16 % 2 from (numAt_inI zs hz 16 3 1 (by omega)).trans (by simp)]
  rw [show ((numAt zs 132 4 : Nat) : Int) = zs.getD 16 0 % 16 from (numAt_inI zs hz 16 4 4 (by omega)).trans (by simp)]
  rw [show ((numAt zs 136 16 : Nat) : Int) = getB zs 17 2 from numAt_getB2 zs hz 17]
  rw [show ((numAt zs 152 8 : Nat) : Int) = zs.getD 19 0 from numAt_byteI zs hz 19]
  rfl
set_option maxRecDepth 100000 in
theorem rd_5_2 (ctx : Int) (zs : List Int) (hz : Bytes zs) : rdTo zs (fldL 5 2) (fWs 5 2) 0 (drO ctx 5 2) 20 = drA (rdS ctx 5 2 zs) (zs.getD 0 0) (ckF 5 2 zs) (zs.getD 20 0 % 16) := by
  have h : rdTo zs (fldL 5 2) (fWs 5 2) 0 (drO ctx 5 2) 20 = #[.int .i64 ctx, .int .i64 5, .int .i64 0, .int .i64 0, .int .i64 0, .int .i64 0, .int .i64 0, .int .i64 (numAt zs 8 8 : Nat), .int .i64 (numAt zs 144 8 : Nat), .int .i64 (numAt zs 192 16 : Nat), .int .i64 (numAt zs 160 1 : Nat), .int .i64 (numAt zs 152 8 : Nat), .int .i64 (numAt zs 16 32 : Nat), .int .i64 (numAt zs 48 32 : Nat), .int .i64 (numAt zs 80 16 : Nat), .int .i64 (numAt zs 96 16 : Nat), .int .i64 0, .int .i64 (numAt zs 163 1 : Nat), .int .i64 (numAt zs 168 8 : Nat), .int .i64 (numAt zs 176 16 : Nat), .int .i64 (numAt zs 208 32 : Nat), .int .i64 (numAt zs 112 32 : Nat), .int .i64 (numAt zs 240 16 : Nat), .int .i64 (numAt zs 162 1 : Nat), .int .i64 (numAt zs 256 8 : Nat), .slice none 0 0, .int .i64 (numAt zs 0 8 : Nat), .int .i64 (numAt zs 161 1 : Nat), .int .i64 (numAt zs 164 4 : Nat)] := by kernel_rfl
  rw [h]
  rw [show ((numAt zs 0 8 : Nat) : Int) = zs.getD 0 0 from numAt_byteI zs hz 0]
  rw [show ((numAt zs 8 8 : Nat) : Int) = zs.getD 1 0 from numAt_byteI zs hz 1]
  rw [show ((numAt zs 16 32 : Nat) : Int) = getB zs 2 4 from numAt_getB4 zs hz 2]
  rw [show ((numAt zs 48 32 : Nat) : Int) = getB zs 6 4 from numAt_getB4 zs hz 6]
  rw [show ((numAt zs 80 16 : Nat) : Int) = getB zs 10 2 from numAt_getB2 zs hz 10]
  rw [show ((numAt zs 96 16 : Nat) : Int) = getB zs 12 2 from numAt_getB2 zs hz 12]
  rw [show ((numAt zs 112 32 : Nat) : Int) = getB zs 14 4 from numAt_getB4 zs hz 14]
  rw [show ((numAt zs 144 8 : Nat) : Int) = zs.getD 18 0 from numAt_byteI zs hz 18]
  rw [show ((numAt zs 152 8 : Nat) : Int) = zs.getD 19 0 from numAt_byteI zs hz 19]
  rw [show ((numAt zs 160 1 : Nat) : Int) = zs.getD 20 0 / 128 % 2 from (numAt_inI zs hz 20 0 1 (by omega)).trans (by simp)]
  rw [show ((numAt zs 161 1 : Nat) : Int) = zs.getD 20 0 / 64 % 2 from (numAt_inI zs hz 20 1 1 (by omega)).trans (by simp)]
  rw [show ((numAt zs 162 1 : Nat) : Int) = zs.getD 20 0 / 32 % 2 from (numAt_inI zs hz 20 2 1 (by omega)).trans (by simp)]
  rw [show ((numAt zs 163 1 : Nat) : Int) = zs.getD 20 0 / 16 % 2 from (numAt_inI zs hz 20 3 1 (by omega)).trans (by simp)]
  rw [show ((numAt zs 164 4 : Nat) : Int) = zs.getD 20 0 % 16 from (numAt_inI zs hz 20 4 4 (by omega)).trans (by simp)]
  rw [show ((numAt zs 168 8 : Nat) : Int) = zs.getD 21 0 from numAt_byteI zs hz 21]
  rw [show ((numAt zs 176 16 : Nat) : Int) = getB zs 22 2 from numAt_getB2 zs hz 22]
  rw [show ((numAt zs 192 16 : Nat) : Int) = getB zs 24 2 from numAt_getB2 zs hz 24]
  rw [show ((numAt zs 208 32 : Nat) : Int) = getB zs 26 4 from numAt_getB4 zs hz 26]
  rw [show ((numAt zs 240 16 : Nat) : Int) = getB zs 30 2 from numAt_getB2 zs hz 30]
  rw [show ((numAt zs 256 8 : Nat) : Int) = zs.getD 32 0 from numAt_byteI zs hz 32]
  rfl
set_option maxRecDepth 100000 in
theorem rd_6_0 (ctx : Int) (zs : List Int) (hz : Bytes zs) : rdTo zs (fldL 6 0) (fWs 6 0) 0 (drO ctx 6 0) 1 = drA (rdS ctx 6 0 zs) (zs.getD 0 0) (ckF 6 0 zs) (0) := by
  have h : rdTo zs (fldL 6 0) (fWs 6 0) 0 (drO ctx 6 0) 1 = #[.int .i64 ctx, .int .i64 6, .int .i64 0, .int .i64 0, .int .i64 0, .int .i64 0, .int .i64 0, .int .i64 0, .int .i64 0, .int .i64 0, .int .i64 0, .int .i64 0, .int .i64 0, .int .i64 0, .int .i64 0, .int .i64 0, .int .i64 0, .int .i64 0, .int .i64 0, .int .i64 0, .int .i64 0, .int .i64 0, .int .i64 0, .int .i64 0, .int .i64 0, .slice none 0 0, .int .i64 (numAt zs 0 8 : Nat), .int .i64 0, .int .i64 0] := by kernel_rfl
  rw [h]
  rw [show ((numAt zs 0 8 : Nat) : Int) = zs.getD 0 0 from numAt_byteI zs hz 0]
  rfl
theorem rd_all (ctx f k : Int) (zs : List Int) (hz : Bytes zs) (v : FK f k) : (∃ st ze, rdTo zs (fldL f k) (fWs f k) 0 (drO ctx f k) (fldL f k).length = drA (rdS ctx f k zs) st (ckF f k zs) ze) ∧ sumTo (fWs f k) (fldL f k).length = 8 * hlen f k ∧ widthTo (fWs f k) (fldL f k).length = true := by
  rcases v with ⟨f', k'⟩ | ⟨rfl, rfl⟩
  · rcases (show f = 1 ∨ f = 2 ∨ f = 3 ∨ f = 4 ∨ f = 5 by omega) with rfl | rfl | rfl | rfl | rfl <;> rcases k' with rfl | rfl
    · exact ⟨⟨_, _, rd_1_1 ctx zs hz⟩, rfl, rfl⟩
    · exact ⟨⟨_, _, rd_1_2 ctx zs hz⟩, rfl, rfl⟩
    · exact ⟨⟨_, _, rd_2_1 ctx zs hz⟩, rfl, rfl⟩
    · exact ⟨⟨_, _, rd_2_2 ctx zs hz⟩, rfl, rfl⟩
    · exact ⟨⟨_, _, rd_3_1 ctx zs hz⟩, rfl, rfl⟩
    · exact ⟨⟨_, _, rd_3_2 ctx zs hz⟩, rfl, rfl⟩
    · exact ⟨⟨_, _, rd_4_1 ctx zs hz⟩, rfl, rfl⟩
    · exact ⟨⟨_, _, rd_4_2 ctx zs hz⟩, rfl, rfl⟩
    · exact ⟨⟨_, _, rd_5_1 ctx zs hz⟩, rfl, rfl⟩
    · exact ⟨⟨_, _, rd_5_2 ctx zs hz⟩, rfl, rfl⟩
  · exact ⟨⟨_, _, rd_6_0 ctx zs hz⟩, rfl, rfl⟩
theorem rdS_fits (ctx f k : Int) (zs : List Int) (hz : Bytes zs) : (rdS ctx f k zs).h.Fits := by
  unfold rdS
  (repeat' split)
  all_goals first
    | exact rdS_fit_1_1 ctx zs hz
    | exact rdS_fit_1_2 ctx zs hz
    | exact rdS_fit_2_1 ctx zs hz
    | exact rdS_fit_2_2 ctx zs hz
    | exact rdS_fit_3_1 ctx zs hz
    | exact rdS_fit_3_2 ctx zs hz
    | exact rdS_fit_4_1 ctx zs hz
    | exact rdS_fit_4_2 ctx zs hz
    | exact rdS_fit_5_1 ctx zs hz
    | exact rdS_fit_5_2 ctx zs hz
    | exact rdS_fit_6_0 ctx zs hz
end Go.Proofs.YtkhcfmnebflgkaaDoor
