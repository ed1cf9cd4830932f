/-
  Proved: the Go function LsbBetween, called with any numbers, returns true and leaves its arguments as they were (a value that is understood from two references is understood from all references between them).
  Conditions: none beyond those of the given row.
-/
import Derived.Test.YtlpnpecohndpbaaLsbMath
import Derived.Test.YtlpnpecohndpbaaLsbAwake
import Derived.Test.YtlpnpecohndpbaaSerRefLow
import Derived.Test.YtlpnpecohndpbaaLift
import Derived.Test.YtlpnpecohndpbaaRows
namespace Go.Proofs.Ytlpnpecohndpbaa.lsbBetween
open Go Go.RowKit Go.ChangeShapes Go.WideShapes Go.ChangeAt

theorem plain (W K : Nat) (a far v g : Int) (hW : W = 16 ∨ W = 32) (h1 : 3 ≤ K) (h2 : K ≤ 12) (ha : 0 ≤ a ∧ a < 2 ^ W) (hf : 0 ≤ far ∧ far < 2 ^ K) (hv : 0 ≤ v ∧ v < 2 ^ W) (hg : 0 ≤ g ∧ g ≤ far)
    (h : lsFits W [a, lowV W (a + far)] K v = true) : lsFits W [lowV W (a + g)] K v = true ∧ lsLeast W [a, lowV W (a + g), lowV W (a + far)] v ≤ K := by
  have hw : lsWide W = true := lsWide_yes (by omega)
  have pK := ipow_pos K
  have pW := ipow_pos W
  have l1 : (2 : Int) ^ K ≤ 4096 := ipow_le K 12 h2
  have l2 : (65536 : Int) ≤ 2 ^ W := ipow_le 16 W (by omega)
  have eb : lowV W (a + far) = (a + far) % 2 ^ W := lowV_nat W _ (by omega)
  have ec : lowV W (a + g) = (a + g) % 2 ^ W := lowV_nat W _ (by omega)
  have rb : 0 ≤ (a + far) % 2 ^ W ∧ (a + far) % 2 ^ W < 2 ^ W := ⟨Int.emod_nonneg _ (by omega), Int.emod_lt_of_pos _ (by omega)⟩
  have rc : 0 ≤ (a + g) % 2 ^ W ∧ (a + g) % 2 ^ W < 2 ^ W := ⟨Int.emod_nonneg _ (by omega), Int.emod_lt_of_pos _ (by omega)⟩
  rw [eb, ec]
  rw [eb] at h
  have hh := (lsFits_iff.1 h).2
  have fa := (lsFit_iff W K v a hw (by omega) hv ha).1 (hh a (by simp))
  have fb := (lsFit_iff W K v _ hw (by omega) hv rb).1 (hh _ (by simp))
  rw [show v - ((a + far) % 2 ^ W - offV K) = v + offV K - (a + far) % 2 ^ W by omega, Int.sub_emod_emod, show v + offV K - (a + far) = v - (a - offV K) + -far by omega] at fb
  have x0 := Int.emod_nonneg (v - (a - offV K)) (show (2 : Int) ^ W ≠ 0 by omega)
  have x1 : far ≤ (v - (a - offV K)) % 2 ^ W := by
    by_cases hlt : far ≤ (v - (a - offV K)) % 2 ^ W
    · exact hlt
    · rw [← Int.add_emod_right, show v - (a - offV K) + -far + 2 ^ W = v - (a - offV K) + (2 ^ W - far) by omega, mod_small (by omega) (by omega)] at fb
      omega
  have fc : lsFit W K v ((a + g) % 2 ^ W) = true := by
    rw [lsFit_iff W K v _ hw (by omega) hv rc, show v - ((a + g) % 2 ^ W - offV K) = v + offV K - (a + g) % 2 ^ W by omega, Int.sub_emod_emod, show v + offV K - (a + g) = v - (a - offV K) + -g by omega, mod_small (by omega) (by omega)]
    omega
  have hs := (lsFits_iff.1 h).1
  refine ⟨lsFits_iff.2 ⟨hs, fun r hr => by rw [List.mem_singleton.1 hr]; exact fc⟩, (lsLeast_le (by omega) (by omega) (lsFits_iff.2 ⟨hs, fun r hr => ?_⟩)).2.1⟩
  simp only [List.mem_cons, List.not_mem_nil, or_false] at hr
  rcases hr with rfl | rfl | rfl
  · exact hh _ (by simp)
  · exact fc
  · exact hh _ (by simp)

theorem wide2 (x : Int) : ∃ N : Nat, (N = 16 ∨ N = 32) ∧ ∀ W, Sem.run Try.prog (Instr.index 36 (.agg #[.int .i64 16, .int .i64 32]) (.int .i64 (x % 2))) W = .ok (.int .i64 N) W := by
  have h0 := Int.emod_nonneg x (show (2 : Int) ≠ 0 by omega)
  have h1 := Int.emod_lt_of_pos x (show (0 : Int) < 2 by omega)
  rcases (show x % 2 = 0 ∨ x % 2 = 1 by omega) with h | h
  · exact ⟨16, by omega, fun W => by rw [h]; kernel_rfl⟩
  · exact ⟨32, by omega, fun W => by rw [h]; kernel_rfl⟩

theorem u32_wf {z : Int} (h : 0 ≤ z ∧ z ≤ 4294967295) : (Lit.int .i64 z).wf = true := by simp [Lit.wf, IntKind.min, IntKind.max, IntKind.signed, IntKind.bits]; omega

theorem tdiv_bd (n : Int) (h1 : -9223372036854775808 ≤ n) (h2 : n ≤ 9223372036854775807) : -9223372036854775808 ≤ n.tdiv 16 ∧ n.tdiv 16 ≤ 9223372036854775807 := by
  have a := Int.tmod_add_mul_tdiv n 16
  have b := Int.lt_tmod_of_pos n (show (0 : Int) < 16 by omega)
  have c := Int.tmod_lt_of_pos n (show (0 : Int) < 16 by omega)
  omega

set_option maxRecDepth 100000 in
set_option maxHeartbeats 3200000 in
theorem walk4 (w : World) (x : Int) (b0 : -9223372036854775808 ≤ x ∧ x ≤ 9223372036854775807) (n0 n1 n2 n3 : Int) (c0 : -9223372036854775808 ≤ n0 ∧ n0 ≤ 9223372036854775807) (c1 : -9223372036854775808 ≤ n1 ∧ n1 ≤ 9223372036854775807) (c2 : -9223372036854775808 ≤ n2 ∧ n2 ≤ 9223372036854775807) (c3 : -9223372036854775808 ≤ n3 ∧ n3 ≤ 9223372036854775807) :
    Calls Try.prog 6 #[.int .i64 x, .agg #[.int .i64 n0, .int .i64 n1, .int .i64 n2, .int .i64 n3]] w fun e w' => e = .returned (.bool true) ∧ Below w.heap.size w w' := by
  obtain ⟨N, hN, hR⟩ := wide2 x
  have M0 := Lib.hid (fun W => mod_any x 2 W (by omega) (by omega) b0.1 b0.2)
  generalize x % 2 = x3 at hR M0
  have m1 := Int.emod_nonneg n0 (show (10 : Int) ≠ 0 by omega)
  have m2 := Int.emod_lt_of_pos n0 (show (0 : Int) < 10 by omega)
  obtain ⟨K, HK, hK1, hK2⟩ : ∃ K : Nat, Hid ((3 : Int) + n0 % 10 = K) ∧ 3 ≤ K ∧ K ≤ 12 := ⟨(3 + n0 % 10).toNat, by show _ = _; omega, by omega, by omega⟩
  have M1 := Lib.hid (fun W => mod_any n0 10 W (by omega) (by omega) c0.1 c0.2)
  have pN := ipow_pos N
  have pN2 := ipow_le32 N (by omega)
  have pK := ipow_pos K
  have pK2 : (2 : Int) ^ K ≤ 4096 := ipow_le K 12 hK2
  obtain ⟨a, HA, ha0, ha1⟩ : ∃ c : Int, Hid (n1 % 2 ^ N = c) ∧ 0 ≤ c ∧ c < 2 ^ N := ⟨_, rfl, Int.emod_nonneg _ (by omega), Int.emod_lt_of_pos _ (by omega)⟩
  obtain ⟨far, HF, hf0, hf1⟩ : ∃ c : Int, Hid (n2 % 2 ^ K = c) ∧ 0 ≤ c ∧ c < 2 ^ K := ⟨_, rfl, Int.emod_nonneg _ (by omega), Int.emod_lt_of_pos _ (by omega)⟩
  have M2 : Hid (∀ W, Calls Try.prog 8 #[.int .i64 n1, .int .i64 (wrap64 (2 ^ N))] W fun e w' => e = .returned (.int .i64 a) ∧ W = w') := fun W => by
    rw [wrap_ipow N (by omega), ← HA.out]; exact mod_any n1 (2 ^ N) W pN (by omega) c1.1 c1.2
  have M3 : Hid (∀ W, Calls Try.prog 8 #[.int .i64 n2, .int .i64 (wrap64 (2 ^ K))] W fun e w' => e = .returned (.int .i64 far) ∧ W = w') := fun W => by
    rw [wrap_ipow K (by omega), ← HF.out]; exact mod_any n2 (2 ^ K) W pK (by omega) c2.1 c2.2
  have a2 : a ≤ 4294967295 := by omega
  have f2 : far ≤ 4095 := by omega
  have B0 := Lib.hid ((Below.refl w.heap.size w).alloc (Nat.le_refl _) (.cells #[Value.int .i64 n0, Value.int .i64 n1, Value.int .i64 n2, Value.int .i64 n3] 22))
  have M4 : Hid (∀ W, Calls Try.prog 8 #[.int .i64 n3, .int .i64 (wrap64 (2 * 2 ^ K))] W fun e w' => ∃ q : Int, 0 ≤ q ∧ q ≤ 8192 ∧ e = .returned (.int .i64 q) ∧ W = w') := fun W => by
    rw [IntWalk.wrap64_in _ ⟨by omega, by omega⟩]
    refine (mod_any n3 (2 * 2 ^ K) W (by omega) (by omega) c3.1 c3.2).mono fun e w' h => ⟨_, Int.emod_nonneg _ (by omega), ?_, h⟩
    have := Int.emod_lt_of_pos n3 (show (0 : Int) < 2 * 2 ^ K by omega)
    omega
  have L : Hid (∀ y W, Calls Try.prog 9 #[.int .i64 N, .int .i64 y] W fun e w' => ∃ q : Int, (0 ≤ q ∧ q < 2 ^ N) ∧ e = .returned (.int .i64 q) ∧ W = w') := fun y W =>
    (refLow_any N y W).mono fun e w' h => ⟨_, by rw [lowV_nat N y (by omega)]; exact ⟨Int.emod_nonneg _ (by omega), Int.emod_lt_of_pos _ (by omega)⟩, h⟩
  have td := tdiv_bd n0 c0.1 c0.2
  have F := Lib.hid (fun (rs : List Int) m v (W : World) A h => lsFits_any N K v (some ⟨A, 0, none⟩) m m rs W h)
  have LL := Lib.hid (fun (rs : List Int) m v (W : World) A h => lsLeast_any N v (some ⟨A, 0, none⟩) m m rs W h)
  have S1 : Hid (∀ (W : World) (B : Nat) (p : Int), 0 ≤ p ∧ p ≤ 4294967295 → B = W.heap.size → Sl .i64 (W.alloc (.cells #[.int .i64 p] 3)) (some ⟨B, 0, none⟩) 1 [p]) := fun W B p hp hB => Sl.lit .i64 W [p] 3 1 B hB rfl (by omega) (fun z hz => by rw [List.mem_singleton.1 hz]; exact u32_wf hp)
  have S2 : Hid (∀ (W : World) (B : Nat) (p q : Int), 0 ≤ p ∧ p ≤ 4294967295 → 0 ≤ q ∧ q ≤ 4294967295 → B = W.heap.size → Sl .i64 (W.alloc (.cells #[.int .i64 p, .int .i64 q] 3)) (some ⟨B, 0, none⟩) 2 [p, q]) := fun W B p q hp hq hB => Sl.lit .i64 W [p, q] 3 2 B hB rfl (by omega) (fun z hz => by simp only [List.mem_cons, List.not_mem_nil, or_false] at hz; rcases hz with rfl | rfl <;> first | exact u32_wf hp | exact u32_wf hq)
  have S3 : Hid (∀ (W : World) (B : Nat) (p q r : Int), 0 ≤ p ∧ p ≤ 4294967295 → 0 ≤ q ∧ q ≤ 4294967295 → 0 ≤ r ∧ r ≤ 4294967295 → B = W.heap.size → Sl .i64 (W.alloc (.cells #[.int .i64 p, .int .i64 q, .int .i64 r] 3)) (some ⟨B, 0, none⟩) 3 [p, q, r]) := fun W B p q r hp hq hr hB => Sl.lit .i64 W [p, q, r] 3 3 B hB rfl (by omega) (fun z hz => by simp only [List.mem_cons, List.not_mem_nil, or_false] at hz; rcases hz with rfl | rfl | rfl <;> first | exact u32_wf hp | exact u32_wf hq | exact u32_wf hr)
  have lb : 0 ≤ lowV N (a + far) ∧ lowV N (a + far) ≤ 4294967295 := by
    rw [lowV_nat N _ (by omega)]
    have := Int.emod_lt_of_pos (a + far) (show (0 : Int) < 2 ^ N by omega)
    exact ⟨Int.emod_nonneg _ (by omega), by omega⟩
  have P := Lib.hid (fun v g hv hg h => plain N K a far v g hN hK1 hK2 ⟨ha0, ha1⟩ ⟨hf0, hf1⟩ hv hg h)
  obtain ⟨b, HB, hb⟩ : ∃ b, Hid (lowV N (a + far) = b) ∧ 0 ≤ b ∧ b ≤ 4294967295 := ⟨_, rfl, lb⟩
  rw [HB.out] at P
  clear lb
  have HQ := Lib.hid (And.intro pN (And.intro pN2 (And.intro pK pK2)))
  have HA1 := Lib.hid ha1
  have HF1 := Lib.hid hf1
  clear pN pN2 pK pK2 ha1 hf1
  go_enter Try.func6, Try.ntmps6
  go_wp2_with fail
  refine (M0.out _).mono ?_
  rintro e w' ⟨rfl, rfl⟩
  go_wp2_with fail
  refine (M1.out _).mono ?_
  rintro e w' ⟨rfl, rfl⟩
  go_wp2_with fail
  rw [HK.out]
  clear m1 m2
  go_wp2_with fail
  refine (M2.out _).mono ?_
  rintro e w' ⟨rfl, rfl⟩
  go_wp2_with fail
  refine (M3.out _).mono ?_
  rintro e w' ⟨rfl, rfl⟩
  go_wp2_with fail
  refine (refLow_any _ _ _).mono ?_
  rw [HB.out]
  rintro e w' ⟨rfl, rfl⟩
  go_wp2_with fail
  refine (M4.out _).mono ?_
  rintro e w' ⟨q, q0, q1, rfl, rfl⟩
  go_wp2_with fail
  refine (L.out _ _).mono ?_
  rintro e w' ⟨v, hv, rfl, rfl⟩
  have Hv := Lib.hid hv
  have hv2 : Hid (0 ≤ v ∧ v ≤ 4294967295) := ⟨hv.1, by have := hv.2; have := HQ.out.2.1; omega⟩
  clear hv
  have PV := Lib.hid (fun g hg h => P.out v g Hv.out hg h)
  clear P
  have F1 := Lib.hid (F.out [a, b] 2 v)
  generalize lsFits N [a, b] K v = fab at F1 PV
  cases fab
  · go_wp2_with fail
    refine (F1.out _ _ (S2.out _ _ a b ⟨ha0, a2⟩ hb (by simp))).mono ?_
    rintro e w' ⟨rfl, rfl⟩
    go_wp2_with fail
    refine (awake07_b _ (B0.out.alloc (by simp) _)).mono ?_
    rintro e w1 ⟨rfl, hb1, _⟩
    go_wp2
    go_ret
    exact ⟨rfl, hb1⟩
  · go_wp2_with fail
    refine (F1.out _ _ (S2.out _ _ a b ⟨ha0, a2⟩ hb (by simp))).mono ?_
    rintro e w' ⟨rfl, rfl⟩
    go_wp2_with fail
    refine (mod_any _ _ _ (by omega) (by omega) (by omega) (by omega)).mono ?_
    rintro e w' ⟨rfl, rfl⟩
    obtain ⟨g, HG, g0, g1⟩ : ∃ g : Int, Hid (n0.tdiv 16 % (far + 1) = g) ∧ 0 ≤ g ∧ g ≤ far := ⟨_, rfl, Int.emod_nonneg _ (by omega), by have := Int.emod_lt_of_pos (n0.tdiv 16) (show (0 : Int) < far + 1 by omega); omega⟩
    rw [HG.out]
    go_wp2_with fail
    refine (refLow_any _ _ _).mono ?_
    rintro e w' ⟨rfl, rfl⟩
    have PP := PV.out g ⟨g0, g1⟩ trivial
    have lc : 0 ≤ lowV N (a + g) ∧ lowV N (a + g) ≤ 4294967295 := by
      have := HQ.out.1
      have := HQ.out.2.1
      rw [lowV_nat N _ (by omega)]
      have := Int.emod_lt_of_pos (a + g) (show (0 : Int) < 2 ^ N by omega)
      exact ⟨Int.emod_nonneg _ (by omega), by omega⟩
    have F2 := Lib.hid (F.out [lowV N (a + g)] 1 v)
    have L2 := Lib.hid (LL.out [a, lowV N (a + g), b] 3 v)
    generalize lowV N (a + g) = c at PP lc F2 L2 ⊢
    rw [PP.1] at F2
    have pl := PP.2
    clear PP
    generalize lsLeast N [a, c, b] v = le at pl L2
    go_wp2_with fail
    refine (awake07_b _ (B0.out.alloc (by simp) _)).mono ?_
    rintro e w1 ⟨rfl, hb1, _⟩
    have B1 := Lib.hid hb1
    clear hb1
    go_wp2_with fail
    refine (F2.out _ _ (S1.out _ _ c lc (by simp))).mono ?_
    rintro e w' ⟨rfl, rfl⟩
    go_wp2_with fail
    refine (L2.out _ _ (S3.out _ _ a c b ⟨ha0, a2⟩ lc hb (by simp))).mono ?_
    rintro e w' ⟨rfl, rfl⟩
    go_wp2
    go_ret
    exact ⟨ret_bool (by simp), (B1.out.alloc B1.out.size _).alloc (Nat.le_trans B1.out.size (by simp)) _⟩

theorem walk (w : World) (x : Int) (b0 : -9223372036854775808 ≤ x ∧ x ≤ 9223372036854775807) (ys : List Int) (hl : ys.length = 4) (hw : ∀ z ∈ ys, (Lit.int .i64 z).wf = true) :
    Calls Try.prog 6 #[.int .i64 x, .agg (ys.map (Value.int .i64)).toArray] w fun e w' => e = .returned (.bool true) ∧ Below w.heap.size w w' := by
  match ys, hl, hw with
  | [x0, x1, x2, x3], _, hw => exact walk4 w x b0 x0 x1 x2 x3 (wf_i64 (hw x0 (by simp))) (wf_i64 (hw x1 (by simp))) (wf_i64 (hw x2 (by simp))) (wf_i64 (hw x3 (by simp)))

theorem own : ownKnob Try.prog.godebug = none := by kernel_rfl
theorem laidOut : laidOutB Try.prog = true := by kernel_rfl
theorem read_int : Try.prog.readableRec 3 = true := by kernel_rfl
theorem read_arr4 : Try.prog.readableRec 22 = true := by kernel_rfl
theorem cells_i : Try.prog.cellsOf 3 = 1 := by kernel_rfl
theorem bytes_i : Try.prog.bytesOf 3 = 8 := by kernel_rfl
theorem cells_a4 : Try.prog.cellsOf 22 = 4 := by kernel_rfl
theorem lt_int : 3 < Try.prog.types.size := of_decide_eq_true (by kernel_rfl)
theorem lt_arr4 : 22 < Try.prog.types.size := of_decide_eq_true (by kernel_rfl)

set_option maxRecDepth 100000 in
theorem lifted (os : Os) (started : os.Started) (H : Type) (enc : TypeId × Value → H) :
    ReturnsInHanded {} Try.checked os 6 .any (Rows.lsbBetweenSpec.pre6 enc Try.prog Try.f6 Rows.lsbBetweenRow.domain false) (Rows.lsbBetweenSpec.post enc Try.prog Try.f6 false true false false) := by
  refine law_lifted (C := Try.checked) (rt := 4) [3, 22] own started (by kernel_rfl) Try.func6 laidOut (by rw [Try.params6])
    (fun t ht => by simp only [List.mem_cons, List.not_mem_nil, or_false] at ht; rcases ht with rfl | rfl <;> first | exact ⟨read_int, lt_int⟩ | exact ⟨read_arr4, lt_arr4⟩) rfl Try.underlying4 rfl
    (fun ds h => by match ds, h with | [d0, d1], _ => rfl)
    (ChangeSpec.witness6 (enc := enc) (C := Try.checked) false ⟨#[], #[.int .i64 0, .agg #[.int .i64 0, .int .i64 0, .int .i64 0, .int .i64 0]], []⟩ 8 (by kernel_rfl) (by kernel_rfl) (by kernel_rfl) (by kernel_rfl)) ?_
  intro W base args ds p hval hA hsz
  obtain ⟨v0, vs0, d0, ds0, p0, q0, hargs, rfl, rfl, h0, r0⟩ := trodAll_cons hA
  obtain ⟨v1, vs1, d1, ds1, p1, q1, rfl, rfl, rfl, h1, r1⟩ := trodAll_cons r0
  obtain ⟨rfl, rfl, rfl⟩ := trodAll_nil r1
  obtain rfl : args = #[v0, v1] := by cases args; simp_all
  obtain ⟨x0, rfl, b0⟩ := open_i64 Try.underlying3 (hval 0 _ v0 rfl rfl) h0
  obtain ⟨y1, rfl, l1, w1⟩ := open_arr Try.underlying22 Try.underlying3 cells_i cells_a4 (hval 1 _ v1 rfl rfl) h1
  exact walk W x0 b0 y1 l1 w1

/-- THE STATEMENT -/
theorem proved : Rows.LsbBetweenSaid :=
  OpenClaim.holds_of_wide 6 Try.f6 rfl rfl rfl rfl rfl rfl rfl ⟨rfl, rfl, rfl, rfl, rfl⟩ rfl rfl rfl rfl rfl (by kernel_rfl) Try.func6 (by kernel_rfl)
    (of_decide_eq_true (by kernel_rfl)) (by unfold Func.isWrapper; first | (rw [if_pos (by decide +kernel)]; kernel_rfl) | (rw [if_neg (by decide +kernel)]; exact ⟨rfl, rfl⟩))
    (fun os started H enc _ => lifted os started H enc)
#print axioms proved
end Go.Proofs.Ytlpnpecohndpbaa.lsbBetween
