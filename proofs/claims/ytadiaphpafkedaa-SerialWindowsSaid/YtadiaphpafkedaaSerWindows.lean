/-
  Proved: the Go function SerialWindows, called with any three numbers, returns true and leaves its arguments as they were (of two different numbers exactly one lies in the half window from the other one on, unless they are half apart, and distances add up).
  Conditions: none beyond those of the given row.
-/
import Derived.Test.YtadiaphpafkedaaSerAwake
import Derived.Test.YtadiaphpafkedaaMod
import Derived.Test.YtadiaphpafkedaaLift
import Derived.Test.YtadiaphpafkedaaRows
namespace Go.Proofs.Ytadiaphpafkedaa.serialWindows
open Go Go.RowKit Go.ChangeShapes Go.WideShapes Go.ChangeAt

theorem back (N : Nat) (a b : Int) (h : 1 ≤ N ∧ N ≤ 32) : (distV N a b = 0 → distV N b a = 0) ∧ (distV N a b ≠ 0 → distV N b a = 2 ^ N - distV N a b) := by
  rw [distV_nat N a b h, distV_nat N b a h]
  have := dist_back (b - a) (2 ^ N) (ipow_pos N)
  rw [show a - b = -(b - a) by omega]; exact this

set_option maxRecDepth 100000 in
set_option maxHeartbeats 1600000 in
theorem part (w : World) (n : Int) (b0 : -9223372036854775808 ≤ n ∧ n ≤ 9223372036854775807) (a b : Int) (N : Nat) (Hn : Hid (1 + n % 32 = N)) (hmod : 0 ≤ n % 32) (_hmod2 : n % 32 < 32) (hN1 : 1 ≤ N) (hN2 : N ≤ 32)
    (s : Int) (HS : Hid (wrap64 (2 ^ (N - 1)) = s)) (hs1 : 1 ≤ s) (hs2 : s ≤ 2147483648) (HT : Hid (wrap64 (2 ^ N) = 2 * s)) (d : Int) (D1 : Hid (distV N a b = d)) (D2 : Hid (distV N b a = 2 * s - d)) (hz : ¬ d = 0) (hd0 : 0 ≤ d) (hd2 : d < 2 * s)
    (i j : Bool) (x y : Int) (E1 : Hid (insV N a b = i)) (E2 : Hid (insV N b a = j)) (E3 : Hid (sigV N a b = x)) (E4 : Hid (sigV N b a = y)) (hx : -4294967296 ≤ x ∧ x ≤ 4294967296) (hy : -4294967296 ≤ y ∧ y ≤ 4294967296)
    (hc : (d = s ∧ i = false ∧ j = false) ∨ (d ≠ s ∧ i = !j ∧ x = -y)) :
    Calls Try.prog 4 #[.int .i64 n, .int .i64 a, .int .i64 b] w fun e w' => e = .returned (.bool true) ∧ Below w.heap.size w w' := by
  have hz2 : (d == 0) = false := by simpa using hz
  have hsum : (2 * s == wrap64 (2 ^ N)) = true := by rw [HT.out]; simp
  have Hsum := Lib.hid hsum
  clear hsum hz
  rcases hc with ⟨rfl, rfl, rfl⟩ | ⟨hne, rfl, rfl⟩
  · have hq : (d + (2 * d - d) == wrap64 (2 ^ N)) = true := by rw [HT.out, beq_iff_eq]; omega
    have Hq := Lib.hid hq
    clear hq
    go_enter Try.func4, Try.ntmps4
    go_wp2_with fail
    refine (mod_any _ _ _ (by omega) (by omega) (by omega) (by omega)).mono ?_
    rintro e w' ⟨rfl, rfl⟩
    go_wp2_with fail
    rw [Hn.out]
    refine (Distance_any _ _ _ _).mono ?_
    rintro e w' ⟨rfl, rfl⟩
    rw [D1.out]
    go_wp2_with fail
    refine (Distance_any _ _ _ _).mono ?_
    rintro e w' ⟨rfl, rfl⟩
    rw [D2.out]
    go_wp2_with fail
    rw [HS.out]
    refine (awake02_any _).mono ?_
    rintro e w' ⟨rfl, rfl⟩
    have hq := Hq.out
    go_wp2_with (first
      | (go_at_call 13; refine (Inside_any _ _ _ _).mono ?_; (first | rw [E1.out] | rw [E2.out]); rintro e w' ⟨rfl, rfl⟩)
      | (go_at_call 15; refine (Signed_any _ _ _ _).mono ?_; (first | rw [E3.out] | rw [E4.out]); rintro e w' ⟨rfl, rfl⟩))
    go_ret
    exact ⟨rfl, Below.refl _ _⟩
  · have hq : (d + (2 * s - d) == wrap64 (2 ^ N)) = true := by rw [HT.out, beq_iff_eq]; omega
    have Hq := Lib.hid hq
    have hne1 : (d == s) = false := by simpa using hne
    have Hne := Lib.hid hne1
    have hne2 : (d != s) = true := by simpa using hne
    have Hne2 := Lib.hid hne2
    clear hq hne hne1 hne2
    cases j
    all_goals
      go_enter Try.func4, Try.ntmps4
      go_wp2_with fail
      refine (mod_any _ _ _ (by omega) (by omega) (by omega) (by omega)).mono ?_
      rintro e w' ⟨rfl, rfl⟩
      go_wp2_with fail
      rw [Hn.out]
      refine (Distance_any _ _ _ _).mono ?_
      rintro e w' ⟨rfl, rfl⟩
      rw [D1.out]
      go_wp2_with fail
      refine (Distance_any _ _ _ _).mono ?_
      rintro e w' ⟨rfl, rfl⟩
      rw [D2.out]
      go_wp2_with fail
      rw [HS.out]
      refine (awake02_any _).mono ?_
      rintro e w' ⟨rfl, rfl⟩
      have hq := Hq.out
      have hne := Hne.out
      have hne2 := Hne2.out
      go_wp2_with (first
        | (go_at_call 13; refine (Inside_any _ _ _ _).mono ?_; (first | rw [E1.out] | rw [E2.out]); rintro e w' ⟨rfl, rfl⟩)
        | (go_at_call 15; refine (Signed_any _ _ _ _).mono ?_; (first | rw [E3.out] | rw [E4.out]); rintro e w' ⟨rfl, rfl⟩))
      go_ret
      exact ⟨rfl, Below.refl _ _⟩

set_option maxRecDepth 100000 in
set_option maxHeartbeats 1600000 in
theorem walk (w : World) (n : Int) (b0 : -9223372036854775808 ≤ n ∧ n ≤ 9223372036854775807) (a : Int) (_b1 : -9223372036854775808 ≤ a ∧ a ≤ 9223372036854775807) (b : Int) (_b2 : -9223372036854775808 ≤ b ∧ b ≤ 9223372036854775807) :
    Calls Try.prog 4 #[.int .i64 n, .int .i64 a, .int .i64 b] w fun e w' => e = .returned (.bool true) ∧ Below w.heap.size w w' := by
  have hmod := Int.emod_nonneg n (show (32 : Int) ≠ 0 by omega)
  have hmod2 := Int.emod_lt_of_pos n (show (0 : Int) < 32 by omega)
  obtain ⟨N, HN, hN⟩ : ∃ N : Nat, Hid ((N : Int) = 1 + n % 32) ∧ 1 ≤ N ∧ N ≤ 32 := ⟨(1 + n % 32).toNat, by show _ = _; omega, by omega⟩
  obtain ⟨hN1, hN2⟩ := hN
  have hd := distV_bd N a b
  have he := distV_bd N b a
  have hs := sigV_bd N a b
  have ht := sigV_bd N b a
  have HB := Lib.hid (back N a b ⟨hN1, hN2⟩)
  have hI1 := insV_nat N a b ⟨hN1, hN2⟩
  have hI2 := insV_nat N b a ⟨hN1, hN2⟩
  have hS1 := sigV_nat N a b ⟨hN1, hN2⟩
  have hS2 := sigV_nat N b a ⟨hN1, hN2⟩
  have hp1 := ipow_pos (N - 1)
  have hp2 := ipow_le31 (N - 1) (by omega)
  have hp3 := ipow_half N hN1
  have hd0 : 0 ≤ distV N a b := by rw [distV_nat N a b ⟨hN1, hN2⟩]; exact Int.emod_nonneg _ (by have := ipow_pos N; omega)
  have hd1 : distV N a b < 2 ^ N := by rw [distV_nat N a b ⟨hN1, hN2⟩]; exact Int.emod_lt_of_pos _ (by have := ipow_pos N; omega)
  have HW1 := Lib.hid (wrap_ipow (N - 1) (by omega))
  have HW2 := Lib.hid (wrap_ipow N hN2)
  have Hn : Hid ((1 : Int) + n % 32 = N) := HN.out.symm
  clear HN
  by_cases hz : distV N a b = 0
  · have hI1' : insV N a b = true := by rw [hI1, hz]; simp; omega
    have hez := HB.out.1 hz
    have hI2' : insV N b a = true := by rw [hI2, hez]; simp; omega
    have H1 := Lib.hid hz
    have H2 := Lib.hid hez
    have H3 := Lib.hid hI1'
    have H4 := Lib.hid hI2'
    clear hz hez hI1' hI2' hI1 hI2 hS1 hS2 hp3
    go_enter Try.func4, Try.ntmps4
    go_wp2_with fail
    refine (mod_any _ _ _ (by omega) (by omega) (by omega) (by omega)).mono ?_
    rintro e w' ⟨rfl, rfl⟩
    go_wp2_with fail
    rw [Hn.out]
    refine (Distance_any _ _ _ _).mono ?_
    rintro e w' ⟨rfl, rfl⟩
    rw [H1.out]
    go_wp2_with fail
    refine (Distance_any _ _ _ _).mono ?_
    rintro e w' ⟨rfl, rfl⟩
    rw [H2.out]
    go_wp2_with fail
    refine (awake02_any _).mono ?_
    rintro e w' ⟨rfl, rfl⟩
    go_wp2_with fail
    refine (Inside_any _ _ _ _).mono ?_
    rintro e w' ⟨rfl, rfl⟩
    rw [H3.out]
    go_wp2_with fail
    refine (Inside_any _ _ _ _).mono ?_
    rintro e w' ⟨rfl, rfl⟩
    rw [H4.out]
    go_wp2
    go_ret
    exact ⟨rfl, Below.refl _ _⟩
  · have H2 := Lib.hid (HB.out.2 hz)
    obtain ⟨s, HS, hs1, hs2⟩ : ∃ s : Int, Hid (wrap64 (2 ^ (N - 1)) = s) ∧ 1 ≤ s ∧ s ≤ 2147483648 := ⟨2 ^ (N - 1), wrap_ipow _ (by omega), hp1, hp2⟩
    have HS2 : Hid (2 ^ (N - 1) = s) := (wrap_ipow _ (by omega)).symm.trans HS.out
    have HT : Hid (wrap64 (2 ^ N) = 2 * s) := (wrap_ipow N hN2).trans (hp3.trans (by rw [HS2.out]))
    have HT2 : Hid ((2 : Int) ^ N = 2 * s) := hp3.trans (by rw [HS2.out])
    have HI1 := Lib.hid hI1
    have HI2 := Lib.hid hI2
    have HS3 := Lib.hid hS1
    have HS4 := Lib.hid hS2
    have hd1' := hd1
    clear hI1 hI2 hS1 hS2 hp1 hp2 hp3 hd1 HW1 HW2 HB
    obtain ⟨d, D1⟩ : ∃ d, Hid (distV N a b = d) := ⟨_, rfl⟩
    have D2 : Hid (distV N b a = 2 * s - d) := by rw [← D1.out, ← HT2.out]; exact H2.out
    have hd2 := hd1'
    rw [D1.out] at hz hd hd0 hd2
    rw [HT2.out] at hd2
    have I1 : Hid (insV N a b = decide (d < s)) := by rw [← HS2.out, ← D1.out]; exact HI1.out
    have I2 : Hid (insV N b a = decide (2 * s - d < s)) := by rw [← D2.out, ← HS2.out]; exact HI2.out
    have S1 : Hid (sigV N a b = if d < s then d else d - 2 * s) := by rw [← HT2.out, ← HS2.out, ← D1.out]; exact HS3.out
    have S2 : Hid (sigV N b a = if 2 * s - d < s then 2 * s - d else 2 * s - d - 2 * s) := by rw [← D2.out, ← HT2.out, ← HS2.out]; exact HS4.out
    clear HI1 HI2 HS3 HS4 H2 hs ht he HS2 HT2
    rcases Int.lt_trichotomy d s with hlt | heq | hgt
    · have e1 : insV N a b = true := by rw [I1.out]; exact decide_eq_true hlt
      have e2 : insV N b a = false := by rw [I2.out]; exact decide_eq_false (by omega)
      have e3 : sigV N a b = d := by rw [S1.out, if_pos hlt]
      have e4 : sigV N b a = -d := by rw [S2.out, if_neg (by omega)]; omega
      exact part w n b0 a b N Hn hmod hmod2 hN1 hN2 s HS hs1 hs2 HT d D1 D2 hz hd0 hd2 true false d (-d) (Lib.hid e1) (Lib.hid e2) (Lib.hid e3) (Lib.hid e4) (by omega) (by omega) (.inr ⟨by omega, rfl, by omega⟩)
    · have e1 : insV N a b = false := by rw [I1.out]; exact decide_eq_false (by omega)
      have e2 : insV N b a = false := by rw [I2.out]; exact decide_eq_false (by omega)
      have e3 : sigV N a b = -s := by rw [S1.out, if_neg (by omega)]; omega
      have e4 : sigV N b a = -s := by rw [S2.out, if_neg (by omega)]; omega
      exact part w n b0 a b N Hn hmod hmod2 hN1 hN2 s HS hs1 hs2 HT d D1 D2 hz hd0 hd2 false false (-s) (-s) (Lib.hid e1) (Lib.hid e2) (Lib.hid e3) (Lib.hid e4) (by omega) (by omega) (.inl ⟨heq, rfl, rfl⟩)
    · have e1 : insV N a b = false := by rw [I1.out]; exact decide_eq_false (by omega)
      have e2 : insV N b a = true := by rw [I2.out]; exact decide_eq_true (by omega)
      have e3 : sigV N a b = d - 2 * s := by rw [S1.out, if_neg (by omega)]
      have e4 : sigV N b a = 2 * s - d := by rw [S2.out, if_pos (by omega)]
      exact part w n b0 a b N Hn hmod hmod2 hN1 hN2 s HS hs1 hs2 HT d D1 D2 hz hd0 hd2 false true (d - 2 * s) (2 * s - d) (Lib.hid e1) (Lib.hid e2) (Lib.hid e3) (Lib.hid e4) (by omega) (by omega) (.inr ⟨by omega, rfl, by omega⟩)

theorem own : ownKnob Try.prog.godebug = none := by kernel_rfl
theorem laidOut : laidOutB Try.prog = true := by kernel_rfl
theorem read_int : Try.prog.readableRec 3 = true := by kernel_rfl
theorem lt_int : 3 < Try.prog.types.size := of_decide_eq_true (by kernel_rfl)

set_option maxRecDepth 100000 in
theorem lifted (os : Os) (started : os.Started) (H : Type) (enc : TypeId × Value → H) :
    ReturnsInHanded {} Try.checked os 4 .any (Rows.serialWindowsSpec.pre6 enc Try.prog Try.f4 Rows.serialWindowsRow.domain false) (Rows.serialWindowsSpec.post enc Try.prog Try.f4 false true false false) := by
  refine law_lifted (C := Try.checked) (rt := 4) [3, 3, 3] own started (by kernel_rfl) Try.func4 laidOut (by rw [Try.params4])
    (fun t ht => by simp only [List.mem_cons, List.not_mem_nil, or_false] at ht; rcases ht with rfl | rfl | rfl <;> first | exact ⟨read_int, lt_int⟩) rfl Try.underlying4 rfl
    (fun ds h => by match ds, h with | [d0, d1, d2], _ => rfl)
    (ChangeSpec.witness6 (enc := enc) (C := Try.checked) false ⟨#[], #[.int .i64 0, .int .i64 0, .int .i64 0], []⟩ 8 (by kernel_rfl) (by kernel_rfl) (by kernel_rfl) (by kernel_rfl)) ?_
  intro W base args ds p hval hA hsz
  obtain ⟨v0, vs0, d0, ds0, p0, q0, hargs, rfl, rfl, h0, r0⟩ := trodAll_cons hA
  obtain ⟨v1, vs1, d1, ds1, p1, q1, rfl, rfl, rfl, h1, r1⟩ := trodAll_cons r0
  obtain ⟨v2, vs2, d2, ds2, p2, q2, rfl, rfl, rfl, h2, r2⟩ := trodAll_cons r1
  obtain ⟨rfl, rfl, rfl⟩ := trodAll_nil r2
  obtain rfl : args = #[v0, v1, v2] := by cases args; simp_all
  obtain ⟨x0, rfl, b0⟩ := open_i64 Try.underlying3 (hval 0 _ v0 rfl rfl) h0
  obtain ⟨x1, rfl, b1⟩ := open_i64 Try.underlying3 (hval 1 _ v1 rfl rfl) h1
  obtain ⟨x2, rfl, b2⟩ := open_i64 Try.underlying3 (hval 2 _ v2 rfl rfl) h2
  exact walk W x0 b0 x1 b1 x2 b2

/-- THE STATEMENT -/
theorem proved : Rows.SerialWindowsSaid :=
  OpenClaim.holds_of_wide 4 Try.f4 rfl rfl rfl rfl rfl rfl rfl ⟨rfl, rfl, rfl, rfl, rfl⟩ rfl rfl rfl rfl rfl (by kernel_rfl) Try.func4 (by kernel_rfl)
    (of_decide_eq_true (by kernel_rfl)) (by unfold Func.isWrapper; first | (rw [if_pos (by decide +kernel)]; kernel_rfl) | (rw [if_neg (by decide +kernel)]; exact ⟨rfl, rfl⟩))
    (fun os started H enc _ => lifted os started H enc)
#print axioms proved
end Go.Proofs.Ytadiaphpafkedaa.serialWindows
