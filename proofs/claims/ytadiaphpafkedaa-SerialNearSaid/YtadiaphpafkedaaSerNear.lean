/-
  Proved: the Go function SerialNear, called with any three numbers, returns true and leaves its arguments as they were (a count is found from its low bits, if it is in the half windows around another one).
  Conditions: none beyond those of the given row.
-/
import Derived.Test.YtadiaphpafkedaaSerAwake
import Derived.Test.YtadiaphpafkedaaMod
import Derived.Test.YtadiaphpafkedaaLift
import Derived.Test.YtadiaphpafkedaaRows
namespace Go.Proofs.Ytadiaphpafkedaa.serialNear
open Go Go.RowKit Go.ChangeShapes Go.WideShapes Go.ChangeAt

theorem near_plain (N : Nat) (c x : Int) (h : 1 ≤ N ∧ N ≤ 32) (hc : 0 ≤ c ∧ c < 1099511627776) (h1 : -(2 ^ (N - 1)) ≤ x - c) (h2 : x - c < 2 ^ (N - 1)) : nearB N c = true ∧ nearV N c (lowV N x) = x := by
  have hb : nearB N c = true := nearB_yes (by omega) (by omega)
  refine ⟨hb, ?_⟩
  have hd : distV N c (lowV N x) = (x - c) % 2 ^ N := by
    rw [distV_nat _ _ _ h, lowV_nat _ _ h, Int.emod_sub_emod]
  rw [nearV_yes _ hb, sigV_nat _ _ _ h, hd, near_self (x - c) (2 ^ N) (2 ^ (N - 1)) (ipow_half N h.1) h1 h2]
  omega

set_option maxRecDepth 100000 in
set_option maxHeartbeats 1600000 in
theorem walk (w : World) (n : Int) (b0 : -9223372036854775808 ≤ n ∧ n ≤ 9223372036854775807) (a : Int) (b1 : -9223372036854775808 ≤ a ∧ a ≤ 9223372036854775807) (b : Int) (b2 : -9223372036854775808 ≤ b ∧ b ≤ 9223372036854775807) :
    Calls Try.prog 5 #[.int .i64 n, .int .i64 a, .int .i64 b] w fun e w' => e = .returned (.bool true) ∧ Below w.heap.size w w' := by
  have hmod := Int.emod_nonneg n (show (32 : Int) ≠ 0 by omega)
  have hmod2 := Int.emod_lt_of_pos n (show (0 : Int) < 32 by omega)
  obtain ⟨N, HN, hN1, hN2⟩ : ∃ N : Nat, Hid ((1 : Int) + n % 32 = N) ∧ 1 ≤ N ∧ N ≤ 32 := ⟨(1 + n % 32).toNat, by show _ = _; omega, by omega⟩
  have hp1 := ipow_pos (N - 1)
  have hp2 := ipow_le31 (N - 1) (by omega)
  obtain ⟨c, HC, hc0, hc1⟩ : ∃ c : Int, Hid (a % 1099511627776 = c) ∧ 0 ≤ c ∧ c < 1099511627776 := ⟨_, rfl, Int.emod_nonneg _ (by omega), Int.emod_lt_of_pos _ (by omega)⟩
  obtain ⟨s, HS, hs1, hs2⟩ : ∃ s : Int, Hid (wrap64 (2 ^ (N - 1)) = s) ∧ 1 ≤ s ∧ s ≤ 2147483648 := ⟨2 ^ (N - 1), wrap_ipow _ (by omega), hp1, hp2⟩
  have HS2 : Hid (s = 2 ^ (N - 1)) := by
    have h1 := HS.out
    rw [wrap_ipow _ (by omega)] at h1
    exact h1.symm
  have HS3 : Hid (wrap64 (2 * s) = 2 * s) := IntWalk.wrap64_in _ ⟨by omega, by omega⟩
  obtain ⟨d, HD, hd0, hd1⟩ : ∃ d : Int, Hid (b % (2 * s) = d) ∧ 0 ≤ d ∧ d < 2 * s := ⟨_, rfl, Int.emod_nonneg _ (by omega), Int.emod_lt_of_pos _ (by omega)⟩
  have hl := lowV_bd N (c + d - s)
  have H := near_plain N c (c + d - s) ⟨hN1, hN2⟩ ⟨hc0, hc1⟩ (by rw [← HS2.out]; omega) (by rw [← HS2.out]; omega)
  have HB := Lib.hid H.1
  have HV := Lib.hid H.2
  clear H hp1 hp2
  go_enter Try.func5, Try.ntmps5
  go_wp2_with fail
  refine (mod_any _ _ _ (by omega) (by omega) (by omega) (by omega)).mono ?_
  rintro e w' ⟨rfl, rfl⟩
  go_wp2_with fail
  rw [HN.out]
  refine (mod_any _ _ _ (by omega) (by omega) (by omega) (by omega)).mono ?_
  rintro e w' ⟨rfl, rfl⟩
  rw [HC.out]
  go_wp2_with fail
  rw [HS.out, HS3.out]
  refine (mod_any _ _ _ (by omega) (by omega) (by omega) (by omega)).mono ?_
  rintro e w' ⟨rfl, rfl⟩
  rw [HD.out]
  go_wp2_with fail
  refine (Low_any _ _ _).mono ?_
  rintro e w' ⟨rfl, rfl⟩
  go_wp2_with fail
  refine (Nearest_any _ _ _ _).mono ?_
  rintro e w' ⟨rfl, rfl⟩
  rw [HB.out, HV.out]
  go_wp2_with fail
  refine (awake02_any _).mono ?_
  rintro e w' ⟨rfl, rfl⟩
  go_wp2
  go_ret
  exact ⟨rfl, Below.refl _ _⟩

theorem own : ownKnob Try.prog.godebug = none := by kernel_rfl
theorem laidOut : laidOutB Try.prog = true := by kernel_rfl
theorem read_int : Try.prog.readableRec 3 = true := by kernel_rfl
theorem lt_int : 3 < Try.prog.types.size := of_decide_eq_true (by kernel_rfl)

set_option maxRecDepth 100000 in
theorem lifted (os : Os) (started : os.Started) (H : Type) (enc : TypeId × Value → H) :
    ReturnsInHanded {} Try.checked os 5 .any (Rows.serialNearSpec.pre6 enc Try.prog Try.f5 Rows.serialNearRow.domain false) (Rows.serialNearSpec.post enc Try.prog Try.f5 false true false false) := by
  refine law_lifted (C := Try.checked) (rt := 4) [3, 3, 3] own started (by kernel_rfl) Try.func5 laidOut (by rw [Try.params5])
    (fun t ht => by simp only [List.mem_cons, List.not_mem_nil, or_false] at ht; rcases ht with rfl | rfl | rfl <;> first | exact ⟨read_int, lt_int⟩) rfl Try.underlying4 rfl
    (fun ds h => by match ds, h with | [d0, d1, d2], _ => rfl)
    (ChangeSpec.witness6 (enc := enc) (C := Try.checked) false ⟨#[], #[.int .i64 0, .int .i64 0, .int .i64 0], []⟩ 8 (by kernel_rfl) (by kernel_rfl) (by kernel_rfl) (by kernel_rfl)) ?_
  intro W base args ds p hval hA hsz
  obtain ⟨v0, vs0, d0, ds0, p0, q0, hargs, rfl, rfl, h0, r0⟩ := trodAll_cons hA
  obtain ⟨v1, vs1, d1, ds1, p1, q1, rfl, rfl, rfl, h1, r1⟩ := trodAll_cons r0
  obtain ⟨v2, vs2, d2, ds2, p2, q2, rfl, rfl, rfl, h2, r2⟩ := trodAll_cons r1
  obtain ⟨rfl, rfl, rfl⟩ := trodAll_nil r2
  obtain rfl : args = #[v0, v1, v2] := by cases args; simp_all
  obtain ⟨x0, rfl, b0⟩ := open_i64 Try.underlying3 (hval 0 _ v0 rfl rfl) h0
  obtain ⟨x1, rfl, b1⟩ := open_i64 Try.underlying3 (hval 1 _ v1 rfl rfl) h1
  obtain ⟨x2, rfl, b2⟩ := open_i64 Try.underlying3 (hval 2 _ v2 rfl rfl) h2
  exact walk W x0 b0 x1 b1 x2 b2

/-- THE STATEMENT -/
theorem proved : Rows.SerialNearSaid :=
  OpenClaim.holds_of_wide 5 Try.f5 rfl rfl rfl rfl rfl rfl rfl ⟨rfl, rfl, rfl, rfl, rfl⟩ rfl rfl rfl rfl rfl (by kernel_rfl) Try.func5 (by kernel_rfl)
    (of_decide_eq_true (by kernel_rfl)) (by unfold Func.isWrapper; first | (rw [if_pos (by decide +kernel)]; kernel_rfl) | (rw [if_neg (by decide +kernel)]; exact ⟨rfl, rfl⟩))
    (fun os started H enc _ => lifted os started H enc)
#print axioms proved
end Go.Proofs.Ytadiaphpafkedaa.serialNear
