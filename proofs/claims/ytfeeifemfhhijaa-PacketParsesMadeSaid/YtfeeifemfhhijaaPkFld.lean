/-
  What a packet's bytes say: the fields of a header of either kind; such a header is valid.
-/
import Derived.Test.YtfeeifemfhhijaaPkPlain
import Derived.Test.YtfeeifemfhhijaaGet
namespace Go.Proofs.Ytfeeifemfhhijaa
open Go Go.RowKit

def fldU (zs : List Int) : Hd := ⟨1, zs.getD 1 0, getB zs 4 2, zs.getD 6 0 / 64 % 2, zs.getD 8 0, getB zs 12 4, getB zs 16 4, getB zs 20 2, getB zs 22 2, getB zs 26 2, 0, 0, 0, 0, 0⟩
def fldR (zs : List Int) : Hd := ⟨2, zs.getD 1 0, getB zs 4 2, zs.getD 6 0 / 64 % 2, zs.getD 8 0, getB zs 12 4, getB zs 16 4, getB zs 20 2, getB zs 22 2, getB zs 26 2, zs.getD 29 0 / 128, zs.getD 29 0 % 128, getB zs 30 2, getB zs 32 4, getB zs 36 4⟩
theorem fld_ip (zs : List Int) (h : Bytes zs) (x : Hd) (hx : x = fldU zs ∨ x = fldR zs) : x.Ip := by
  have b1 := h 1; have b6 := h 6; have b8 := h 8
  have g1 := getB_range h 4 2 (by omega); have g2 := getB_range h 12 4 (by omega); have g3 := getB_range h 16 4 (by omega)
  have g4 := getB_range h 20 2 (by omega); have g5 := getB_range h 22 2 (by omega); have g6 := getB_range h 26 2 (by omega)
  simp only [show (256 : Int) ^ 2 = 65536 from rfl, show (256 : Int) ^ 4 = 4294967296 from rfl] at g1 g2 g3 g4 g5 g6
  rcases hx with rfl | rfl <;> constructor <;> (simp only [fldU, fldR]; omega)
theorem fldU_valid (zs : List Int) (h : Bytes zs) : (fldU zs).Valid := ⟨fld_ip zs h _ (.inl rfl), .inl ⟨rfl, ⟨rfl, rfl, rfl, rfl, rfl⟩⟩⟩
theorem fldR_valid (zs : List Int) (h : Bytes zs) : (fldR zs).Valid := by
  have b29 := h 29
  have g4 := getB_range h 30 2 (by omega); have g5 := getB_range h 32 4 (by omega); have g6 := getB_range h 36 4 (by omega)
  simp only [show (256 : Int) ^ 2 = 65536 from rfl, show (256 : Int) ^ 4 = 4294967296 from rfl] at g4 g5 g6
  exact ⟨fld_ip zs h _ (.inr rfl), .inr ⟨rfl, by constructor <;> (simp only [fldR]; omega)⟩⟩
def rtpB (zs : List Int) : Bool := decide (40 ≤ zs.length) && (zs.getD 28 0 == 128)

theorem u8_bit6 (x : Int) (h0 : 0 ≤ x) (h1 : x ≤ 255) : bits .and .u8 (x / 64) 1 = x / 64 % 2 := by
  obtain ⟨a, rfl⟩ := Int.eq_ofNat_of_zero_le h0
  have h := u8_and_nat (a / 64) 1 (by omega) (by omega)
  rw [Nat.and_one_is_mod] at h
  simpa using h
theorem u8_low7 (x : Int) (h0 : 0 ≤ x) (h1 : x ≤ 255) : bits .and .u8 x 127 = x % 128 := by
  obtain ⟨a, rfl⟩ := Int.eq_ofNat_of_zero_le h0
  have h := u8_and_nat a 127 (by omega) (by omega)
  rw [show (127 : Nat) = 2 ^ 7 - 1 from rfl, Nat.and_two_pow_sub_one_eq_mod] at h
  simpa using h
end Go.Proofs.Ytfeeifemfhhijaa
