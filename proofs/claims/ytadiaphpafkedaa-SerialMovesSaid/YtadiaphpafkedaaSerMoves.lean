/-
  Proved: the Go function SerialMoves, called with any three numbers, returns true and leaves its arguments as they were (distances do not change when both numbers are moved, or by whole turns).
  Conditions: none beyond those of the given row.
-/
import Derived.Test.YtadiaphpafkedaaSerAwake
import Derived.Test.YtadiaphpafkedaaMod
import Derived.Test.YtadiaphpafkedaaLift
import Derived.Test.YtadiaphpafkedaaRows
namespace Go.Proofs.Ytadiaphpafkedaa.serialMoves
open Go Go.RowKit Go.ChangeShapes Go.WideShapes Go.ChangeAt

theorem moves (N : Nat) (x y : Int) (h : 1 ≤ N ∧ N ≤ 32) : distV N (x + 17) (y + 17) = distV N x y ∧ distV N (x + 2 ^ N) y = distV N x y ∧ distV N x (y - 2 ^ N) = distV N x y ∧ lowV N (x + distV N x y) = lowV N y := by
  rw [distV_nat _ _ _ h, distV_nat _ _ _ h, distV_nat _ _ _ h, distV_nat _ _ _ h, lowV_nat _ _ h, lowV_nat _ _ h]
  refine ⟨by rw [show y + 17 - (x + 17) = y - x by omega], ?_, ?_, ?_⟩
  · rw [show y - (x + 2 ^ N) = y - x - 2 ^ N by omega, Int.sub_emod_right]
  · rw [show y - 2 ^ N - x = y - x - 2 ^ N by omega, Int.sub_emod_right]
  · rw [Int.add_emod_emod, show x + (y - x) = y by omega]

set_option maxRecDepth 100000 in
set_option maxHeartbeats 1600000 in
theorem walk (w : World) (n : Int) (b0 : -9223372036854775808 ≤ n ∧ n ≤ 9223372036854775807) (a : Int) (b1 : -9223372036854775808 ≤ a ∧ a ≤ 9223372036854775807) (b : Int) (b2 : -9223372036854775808 ≤ b ∧ b ≤ 9223372036854775807) :
    Calls Try.prog 6 #[.int .i64 n, .int .i64 a, .int .i64 b] w fun e w' => e = .returned (.bool true) ∧ Below w.heap.size w w' := by
  have hmod := Int.emod_nonneg n (show (32 : Int) ≠ 0 by omega)
  have hmod2 := Int.emod_lt_of_pos n (show (0 : Int) < 32 by omega)
  obtain ⟨N, HN, hN1, hN2⟩ : ∃ N : Nat, Hid ((1 : Int) + n % 32 = N) ∧ 1 ≤ N ∧ N ≤ 32 := ⟨(1 + n % 32).toNat, by show _ = _; omega, by omega⟩
  obtain ⟨x, HX, hx0, hx1⟩ : ∃ c : Int, Hid (a % 1099511627776 = c) ∧ 0 ≤ c ∧ c < 1099511627776 := ⟨_, rfl, Int.emod_nonneg _ (by omega), Int.emod_lt_of_pos _ (by omega)⟩
  obtain ⟨y, HY, hy0, hy1⟩ : ∃ c : Int, Hid (b % 1099511627776 = c) ∧ 0 ≤ c ∧ c < 1099511627776 := ⟨_, rfl, Int.emod_nonneg _ (by omega), Int.emod_lt_of_pos _ (by omega)⟩
  obtain ⟨t, HT, ht1, ht2⟩ : ∃ s : Int, Hid (wrap64 (2 ^ N) = s) ∧ 1 ≤ s ∧ s ≤ 4294967296 := ⟨2 ^ N, wrap_ipow _ (by omega), ipow_pos _, ipow_le32 _ hN2⟩
  have HT2 : Hid ((2 : Int) ^ N = t) := (wrap_ipow _ hN2).symm.trans HT.out
  have M := moves N x y ⟨hN1, hN2⟩
  rw [HT2.out] at M
  have hd := distV_bd N x y
  obtain ⟨d, D, M1, M2, M3, M4, hd1, hd2⟩ : ∃ d : Int, Hid (distV N x y = d) ∧ Hid (distV N (x + 17) (y + 17) = d) ∧ Hid (distV N (x + t) y = d) ∧ Hid (distV N x (y - t) = d) ∧ Hid (lowV N (x + d) = lowV N y) ∧ -1 ≤ d ∧ d ≤ 4294967295 := ⟨_, rfl, M.1, M.2.1, M.2.2.1, M.2.2.2, hd⟩
  clear M hd
  have HW1 : Hid (wrap64 (x + t) = x + t) := IntWalk.wrap64_in _ ⟨by omega, by omega⟩
  have HW2 : Hid (wrap64 (y - t) = y - t) := IntWalk.wrap64_in _ ⟨by omega, by omega⟩
  go_enter Try.func6, Try.ntmps6
  go_wp2_with fail
  refine (mod_any _ _ _ (by omega) (by omega) (by omega) (by omega)).mono ?_
  rintro e w' ⟨rfl, rfl⟩
  go_wp2_with fail
  rw [HN.out]
  refine (mod_any _ _ _ (by omega) (by omega) (by omega) (by omega)).mono ?_
  rintro e w' ⟨rfl, rfl⟩
  rw [HX.out]
  go_wp2_with fail
  refine (mod_any _ _ _ (by omega) (by omega) (by omega) (by omega)).mono ?_
  rintro e w' ⟨rfl, rfl⟩
  rw [HY.out]
  go_wp2_with fail
  refine (Distance_any _ _ _ _).mono ?_
  rintro e w' ⟨rfl, rfl⟩
  rw [D.out]
  go_wp2_with fail
  refine (awake02_any _).mono ?_
  rintro e w' ⟨rfl, rfl⟩
  go_wp2_with fail
  refine (Distance_any _ _ _ _).mono ?_
  rintro e w' ⟨rfl, rfl⟩
  rw [M1.out]
  go_wp2_with fail
  rw [HT.out, HW1.out]
  refine (Distance_any _ _ _ _).mono ?_
  rintro e w' ⟨rfl, rfl⟩
  rw [M2.out]
  go_wp2_with fail
  rw [HT.out, HW2.out]
  refine (Distance_any _ _ _ _).mono ?_
  rintro e w' ⟨rfl, rfl⟩
  rw [M3.out]
  go_wp2_with fail
  refine (Low_any _ _ _).mono ?_
  rintro e w' ⟨rfl, rfl⟩
  rw [M4.out]
  go_wp2_with fail
  refine (Low_any _ _ _).mono ?_
  rintro e w' ⟨rfl, rfl⟩
  go_wp2
  go_ret
  exact ⟨rfl, Below.refl _ _⟩

theorem own : ownKnob Try.prog.godebug = none := by kernel_rfl
theorem laidOut : laidOutB Try.prog = true := by kernel_rfl
theorem read_int : Try.prog.readableRec 3 = true := by kernel_rfl
theorem lt_int : 3 < Try.prog.types.size := of_decide_eq_true (by kernel_rfl)

set_option maxRecDepth 100000 in
theorem lifted (os : Os) (started : os.Started) (H : Type) (enc : TypeId × Value → H) :
    ReturnsInHanded {} Try.checked os 6 .any (Rows.serialMovesSpec.pre6 enc Try.prog Try.f6 Rows.serialMovesRow.domain false) (Rows.serialMovesSpec.post enc Try.prog Try.f6 false true false false) := by
  refine law_lifted (C := Try.checked) (rt := 4) [3, 3, 3] own started (by kernel_rfl) Try.func6 laidOut (by rw [Try.params6])
    (fun t ht => by simp only [List.mem_cons, List.not_mem_nil, or_false] at ht; rcases ht with rfl | rfl | rfl <;> first | exact ⟨read_int, lt_int⟩) rfl Try.underlying4 rfl
    (fun ds h => by match ds, h with | [d0, d1, d2], _ => rfl)
    (ChangeSpec.witness6 (enc := enc) (C := Try.checked) false ⟨#[], #[.int .i64 0, .int .i64 0, .int .i64 0], []⟩ 8 (by kernel_rfl) (by kernel_rfl) (by kernel_rfl) (by kernel_rfl)) ?_
  intro W base args ds p hval hA hsz
  obtain ⟨v0, vs0, d0, ds0, p0, q0, hargs, rfl, rfl, h0, r0⟩ := trodAll_cons hA
  obtain ⟨v1, vs1, d1, ds1, p1, q1, rfl, rfl, rfl, h1, r1⟩ := trodAll_cons r0
  obtain ⟨v2, vs2, d2, ds2, p2, q2, rfl, rfl, rfl, h2, r2⟩ := trodAll_cons r1
  obtain ⟨rfl, rfl, rfl⟩ := trodAll_nil r2
  obtain rfl : args = #[v0, v1, v2] := by cases args; simp_all
  obtain ⟨x0, rfl, b0⟩ := open_i64 Try.underlying3 (hval 0 _ v0 rfl rfl) h0
  obtain ⟨x1, rfl, b1⟩ := open_i64 Try.underlying3 (hval 1 _ v1 rfl rfl) h1
  obtain ⟨x2, rfl, b2⟩ := open_i64 Try.underlying3 (hval 2 _ v2 rfl rfl) h2
  exact walk W x0 b0 x1 b1 x2 b2

/-- THE STATEMENT -/
theorem proved : Rows.SerialMovesSaid :=
  OpenClaim.holds_of_wide 6 Try.f6 rfl rfl rfl rfl rfl rfl rfl ⟨rfl, rfl, rfl, rfl, rfl⟩ rfl rfl rfl rfl rfl (by kernel_rfl) Try.func6 (by kernel_rfl)
    (of_decide_eq_true (by kernel_rfl)) (by unfold Func.isWrapper; first | (rw [if_pos (by decide +kernel)]; kernel_rfl) | (rw [if_neg (by decide +kernel)]; exact ⟨rfl, rfl⟩))
    (fun os started H enc _ => lifted os started H enc)
#print axioms proved
end Go.Proofs.Ytadiaphpafkedaa.serialMoves
