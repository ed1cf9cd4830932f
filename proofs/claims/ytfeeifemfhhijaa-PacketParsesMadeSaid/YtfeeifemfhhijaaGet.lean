/-
  Get of the document's own helpers (radiolinkref01): the number in some bytes.
-/
import Derived.Test.YtfeeifemfhhijaaMk
import Derived.Test.YtfeeifemfhhijaaProg
namespace Go.Proofs.Ytfeeifemfhhijaa
open Go Go.RowKit

/-- the number in the first t bytes from a place on -/
def getB (zs : List Int) (p : Nat) : Nat → Int
  | 0 => 0
  | t + 1 => 256 * getB zs p t + zs.getD (p + t) 0
theorem getB_range {zs : List Int} (h : ∀ i, 0 ≤ zs.getD i 0 ∧ zs.getD i 0 ≤ 255) (p : Nat) : ∀ t, t ≤ 7 → 0 ≤ getB zs p t ∧ getB zs p t < 256 ^ t
  | 0, _ => by simp [getB]
  | t + 1, ht => by
    have a := getB_range h p t (by omega)
    have b := h (p + t)
    rw [getB, Int.pow_succ]
    omega
theorem pow256_le (t : Nat) (h : t ≤ 6) : (256 : Int) ^ t ≤ 281474976710656 := by
  rcases (show t = 0 ∨ t = 1 ∨ t = 2 ∨ t = 3 ∨ t = 4 ∨ t = 5 ∨ t = 6 by omega) with rfl | rfl | rfl | rfl | rfl | rfl | rfl <;> decide

set_option maxHeartbeats 800000 in
theorem Get_lit (a : Option Addr) (n cap p m : Nat) (pi mi : Int) (zs : List Int) (w : World) (hs : Sl .u8 w a n zs) (hp : pi = p) (hmi : mi = m) (hm : m ≤ 7) (hn : p + m ≤ n) :
    Calls Try.prog 46 #[.slice a n cap, .int .i64 pi, .int .i64 mi] w fun e w' => e = .returned (.int .i64 (getB zs p m)) ∧ w = w' := by
  subst hp hmi
  have hr := hs.reach
  have HR := Lib.hid (fun t ht => getB_range hs.u8 p t ht)
  have HP := Lib.hid pow256_le
  have Hs := Lib.hid hs
  have HS : Hid (∀ t, getB zs p (t + 1) = 256 * getB zs p t + zs.getD (p + t) 0) := Lib.hid fun _ => rfl
  clear hs
  go_enter Try.func46, Try.ntmps46
  go_wp2
  go_loopw [7, 8] (fun v i wr => ∃ t : Nat, t ≤ m ∧ v = .int .i64 (getB zs p t) ∧ i = .int .i64 (t : Int) ∧ w = wr) (fun _ i _ => m - (intOf i).toNat)
  case atStart => exact ⟨0, by omega, rfl, by simp, rfl⟩
  case round =>
    obtain ⟨t, ht, rfl, rfl, rfl⟩ := hrel
    by_cases hlt : t < m
    · obtain ⟨g, off, rfl⟩ := Hs.out.head (by omega)
      have c0 := Hs.out.at (i := p + t) (by omega)
      have z0 := Hs.out.u8 (p + t)
      have b0 := HR.out t (by omega)
      have b1 := HP.out t (by omega)
      have E := Lib.hid (HS.out t)
      generalize zs.getD (p + t) 0 = x at c0 z0 E
      generalize getB zs p t = y at b0 E
      have hy : y ≤ 281474976710656 := by omega
      have hy0 := b0.1
      have hI : (p : Int) + (t : Int) < (n : Int) := by omega
      clear b0 b1
      go_wp2
      go_roundw
      case rel => exact ⟨t + 1, by omega, by rw [E.out], by go_num, trivial⟩
      case measure => simp [intOf] <;> omega
    · obtain rfl : t = m := by omega
      go_wp2
      go_ret
      exact ⟨rfl, rfl⟩
end Go.Proofs.Ytfeeifemfhhijaa
