/-
  Proved: the Go function LsbUnderstands, called with any numbers, returns true and leaves its arguments as they were (exactly the values from a reference less the offset on, as many as the bits tell apart, are understood).
  Conditions: none beyond those of the given row.
-/
import Derived.Test.YtlpnpecohndpbaaLsbMath
import Derived.Test.YtlpnpecohndpbaaLsbAwake
import Derived.Test.YtlpnpecohndpbaaSerRefLow
import Derived.Test.YtlpnpecohndpbaaLift
import Derived.Test.YtlpnpecohndpbaaRows
namespace Go.Proofs.Ytlpnpecohndpbaa.lsbUnderstands
open Go Go.RowKit Go.ChangeShapes Go.WideShapes Go.ChangeAt

theorem plain (W K : Nat) (r off : Int) (hW : lsWide W = true) (h1 : 3 ≤ K) (h2 : K < W) (hr : 0 ≤ r ∧ r < 2 ^ W) (ho : 0 ≤ off ∧ off < 2 ^ K) :
    let i := lowV W (r - offV K + off)
    let o := lowV W (i + 2 ^ K)
    0 ≤ i ∧ i < 2 ^ W ∧ lsDecE W r K (lowV K i) = 0 ∧ lsDecV W r K (lowV K i) = i ∧ lsFits W [r] K i = true ∧ lsFits W [r] K o = false := by
  intro i o
  have hw2 : W ≤ 32 := by rcases lsWide_of hW with h | h | h <;> omega
  have pK := ipow_pos K
  have pW := ipow_pos W
  have hd := ipow_half W (by omega)
  have hle := ipow_le K (W - 1) (by omega)
  have hi : i = (r - offV K + off) % 2 ^ W := lowV_nat W _ (by omega)
  have hoo : o = (i + 2 ^ K) % 2 ^ W := lowV_nat W _ (by omega)
  have i0 : 0 ≤ i := by rw [hi]; exact Int.emod_nonneg _ (by omega)
  have i1 : i < 2 ^ W := by rw [hi]; exact Int.emod_lt_of_pos _ (by omega)
  have o0 : 0 ≤ o := by rw [hoo]; exact Int.emod_nonneg _ (by omega)
  have o1 : o < 2 ^ W := by rw [hoo]; exact Int.emod_lt_of_pos _ (by omega)
  have ei : (i - (r - offV K)) % 2 ^ W = off := by
    rw [hi, Int.emod_sub_emod, show r - offV K + off - (r - offV K) = off by omega]
    exact Int.emod_eq_of_lt ho.1 (by omega)
  have eo : (o - (r - offV K)) % 2 ^ W = off + 2 ^ K := by
    rw [hoo, Int.emod_sub_emod, show i + 2 ^ K - (r - offV K) = i - (r - offV K) + 2 ^ K by omega, mod_small (by omega) (by omega), ei]
  obtain ⟨f1, f2⟩ := lsFit_num W K i r hW (by omega) ⟨i0, i1⟩ hr
  have g := lsFit_iff W K o r hW (by omega) ⟨o0, o1⟩ hr
  have g2 := lsFit_iff W K i r hW (by omega) ⟨i0, i1⟩ hr
  refine ⟨i0, i1, f1, f2.2 (by omega), lsFits_iff.2 ⟨lsSay_nat hW (by omega) ⟨i0, i1⟩, fun x hx => ?_⟩, ?_⟩
  · rw [List.mem_singleton.1 hx]; exact g2.2 (by omega)
  · cases h : lsFits W [r] K o with
    | false => rfl
    | true =>
      have := g.1 ((lsFits_iff.1 h).2 r (by simp))
      omega

set_option maxRecDepth 100000 in
set_option maxHeartbeats 3200000 in
theorem walk2 (w : World) (x : Int) (b0 : -9223372036854775808 ≤ x ∧ x ≤ 9223372036854775807) (y : Int) (b1 : -9223372036854775808 ≤ y ∧ y ≤ 9223372036854775807) (n0 n1 : Int) (b2 : -9223372036854775808 ≤ n0 ∧ n0 ≤ 9223372036854775807) (b3 : -9223372036854775808 ≤ n1 ∧ n1 ≤ 9223372036854775807) :
    Calls Try.prog 4 #[.int .i64 x, .int .i64 y, .agg #[.int .i64 n0, .int .i64 n1]] w fun e w' => e = .returned (.bool true) ∧ Below w.heap.size w w' := by
  obtain ⟨N, hN, hN2, hN3, hR⟩ := wide3 x
  have M0 := Lib.hid (fun W => mod_any x 3 W (by omega) (by omega) b0.1 b0.2)
  generalize x % 3 = x3 at hR M0
  have m1 := Int.emod_nonneg n0 (show (N : Int) - 3 ≠ 0 by omega)
  have m2 := Int.emod_lt_of_pos n0 (show (0 : Int) < (N : Int) - 3 by omega)
  obtain ⟨K, HK, hK1, hK2⟩ : ∃ K : Nat, Hid ((3 : Int) + n0 % ((N : Int) - 3) = K) ∧ 3 ≤ K ∧ K < N := ⟨(3 + n0 % ((N : Int) - 3)).toNat, by show _ = _; omega, by omega, by omega⟩
  have pN := ipow_pos N
  have pN2 := ipow_le32 N hN2
  have pK := ipow_pos K
  have pK2 := ipow_le32 K (by omega)
  obtain ⟨r, HR, hr0, hr1⟩ : ∃ c : Int, Hid (y % 2 ^ N = c) ∧ 0 ≤ c ∧ c < 2 ^ N := ⟨_, rfl, Int.emod_nonneg _ (by omega), Int.emod_lt_of_pos _ (by omega)⟩
  obtain ⟨off, HO, ho0, ho1⟩ : ∃ c : Int, Hid (n1 % 2 ^ K = c) ∧ 0 ≤ c ∧ c < 2 ^ K := ⟨_, rfl, Int.emod_nonneg _ (by omega), Int.emod_lt_of_pos _ (by omega)⟩
  have P := plain N K r off hN hK1 hK2 ⟨hr0, hr1⟩ ⟨ho0, ho1⟩
  have M2 : Hid (∀ W, Calls Try.prog 8 #[.int .i64 y, .int .i64 (wrap64 (2 ^ N))] W fun e w' => e = .returned (.int .i64 r) ∧ W = w') := fun W => by
    rw [wrap_ipow N hN2, ← HR.out]; exact mod_any y (2 ^ N) W pN (by omega) b1.1 b1.2
  have M3 : Hid (∀ W, Calls Try.prog 8 #[.int .i64 n1, .int .i64 (wrap64 (2 ^ K))] W fun e w' => e = .returned (.int .i64 off) ∧ W = w') := fun W => by
    rw [wrap_ipow K (by omega), ← HO.out]; exact mod_any n1 (2 ^ K) W pK (by omega) b3.1 b3.2
  have hoff := offV_bd K
  have HI : Hid (lowV N (r - offV K + off) = lowV N (r - offV K + off)) := rfl
  have hL : Hid (∀ I, lowV N (wrap64 (I + wrap64 (2 ^ K))) = lowV N (I + 2 ^ K)) := fun I => by rw [low_wrap, wrap_ipow K (by omega)]
  have F := Lib.hid (fun (v : Int) W a h => lsFits_any N K v (some ⟨a, 0, none⟩) 1 1 [r] W h)
  have D := Lib.hid (fun l W => lsDecode_any N r K l W)
  generalize hi : lowV N (r - offV K + off) = I at P HI
  have hi2 := Lib.hid hi
  clear hi
  simp only at P
  generalize ho : lowV N (I + 2 ^ K) = O at P
  have ho2 := Lib.hid ho
  clear ho
  obtain ⟨i0, i1, e1, e2, e3, e4⟩ := P
  have E1 := Lib.hid e1
  have E2 := Lib.hid e2
  have E3 := Lib.hid e3
  have E4 := Lib.hid e4
  have S1 : Hid (∀ (W : World) (B : Nat), B = W.heap.size → Sl .i64 (W.alloc (.cells #[.int .i64 r] 3)) (some ⟨B, 0, none⟩) 1 [r]) := fun W B hB => Sl.lit .i64 W [r] 3 1 B hB rfl (by omega) (fun z hz => by rw [List.mem_singleton.1 hz]; simp [Lit.wf, IntKind.min, IntKind.max, IntKind.signed, IntKind.bits]; omega)
  have i2 : I ≤ 4294967295 := by omega
  have r2 : r ≤ 4294967295 := by omega
  have o2 : off ≤ 4294967295 := by omega
  have B0 := Lib.hid ((Below.refl w.heap.size w).alloc (Nat.le_refl _) (.cells #[Value.int .i64 n0, Value.int .i64 n1] 36))
  clear e1 e2 e3 e4 i1 hr1 ho1 pN pN2 pK pK2 b0 b1 b3
  go_enter Try.func4, Try.ntmps4
  go_wp2_with fail
  refine (M0.out _).mono ?_
  rintro e w' ⟨rfl, rfl⟩
  go_wp2_with fail
  refine (mod_any _ _ _ (by omega) (by omega) (by omega) (by omega)).mono ?_
  rintro e w' ⟨rfl, rfl⟩
  go_wp2_with fail
  rw [HK.out]
  clear m1 m2
  go_wp2_with fail
  refine (M2.out _).mono ?_
  rintro e w' ⟨rfl, rfl⟩
  go_wp2_with fail
  refine (M3.out _).mono ?_
  rintro e w' ⟨rfl, rfl⟩
  go_wp2_with fail
  refine (Offset_any _ _).mono ?_
  rintro e w' ⟨rfl, rfl⟩
  go_wp2_with fail
  refine (refLow_any _ _ _).mono ?_
  rw [hi2.out]
  rintro e w' ⟨rfl, rfl⟩
  go_wp2_with fail
  refine (refLow_any _ _ _).mono ?_
  rw [hL.out, ho2.out]
  rintro e w' ⟨rfl, rfl⟩
  go_wp2_with fail
  refine (refLow_any _ _ _).mono ?_
  rintro e w' ⟨rfl, rfl⟩
  go_wp2_with fail
  refine (D.out _ _).mono ?_
  rw [E1.out, E2.out]
  rintro e w' ⟨rfl, rfl⟩
  go_wp2_with fail
  refine (awake07_b _ B0.out).mono ?_
  rintro e w1 ⟨rfl, hb, _⟩
  have B1 := Lib.hid hb
  clear hb
  go_wp2_with fail
  refine (F.out _ _ _ (S1.out _ _ (by simp))).mono ?_
  rw [E3.out]
  rintro e w' ⟨rfl, rfl⟩
  go_wp2_with fail
  refine (F.out _ _ _ (S1.out _ _ (by simp))).mono ?_
  rw [E4.out]
  rintro e w' ⟨rfl, rfl⟩
  go_wp2
  go_ret
  exact ⟨rfl, (B1.out.alloc B1.out.size _).alloc (Nat.le_trans B1.out.size (by simp)) _⟩

theorem walk (w : World) (x : Int) (b0 : -9223372036854775808 ≤ x ∧ x ≤ 9223372036854775807) (y : Int) (b1 : -9223372036854775808 ≤ y ∧ y ≤ 9223372036854775807) (ys : List Int) (hl : ys.length = 2) (hw : ∀ z ∈ ys, (Lit.int .i64 z).wf = true) :
    Calls Try.prog 4 #[.int .i64 x, .int .i64 y, .agg (ys.map (Value.int .i64)).toArray] w fun e w' => e = .returned (.bool true) ∧ Below w.heap.size w w' := by
  match ys, hl, hw with
  | [x0, x1], _, hw => exact walk2 w x b0 y b1 x0 x1 (wf_i64 (hw x0 (by simp))) (wf_i64 (hw x1 (by simp)))

theorem own : ownKnob Try.prog.godebug = none := by kernel_rfl
theorem laidOut : laidOutB Try.prog = true := by kernel_rfl
theorem read_int : Try.prog.readableRec 3 = true := by kernel_rfl
theorem read_arr2 : Try.prog.readableRec 36 = true := by kernel_rfl
theorem cells_i : Try.prog.cellsOf 3 = 1 := by kernel_rfl
theorem bytes_i : Try.prog.bytesOf 3 = 8 := by kernel_rfl
theorem cells_a2 : Try.prog.cellsOf 36 = 2 := by kernel_rfl
theorem lt_int : 3 < Try.prog.types.size := of_decide_eq_true (by kernel_rfl)
theorem lt_arr2 : 36 < Try.prog.types.size := of_decide_eq_true (by kernel_rfl)

set_option maxRecDepth 100000 in
theorem lifted (os : Os) (started : os.Started) (H : Type) (enc : TypeId × Value → H) :
    ReturnsInHanded {} Try.checked os 4 .any (Rows.lsbUnderstandsSpec.pre6 enc Try.prog Try.f4 Rows.lsbUnderstandsRow.domain false) (Rows.lsbUnderstandsSpec.post enc Try.prog Try.f4 false true false false) := by
  refine law_lifted (C := Try.checked) (rt := 4) [3, 3, 36] own started (by kernel_rfl) Try.func4 laidOut (by rw [Try.params4])
    (fun t ht => by simp only [List.mem_cons, List.not_mem_nil, or_false] at ht; rcases ht with rfl | rfl | rfl <;> first | exact ⟨read_int, lt_int⟩ | exact ⟨read_arr2, lt_arr2⟩) rfl Try.underlying4 rfl
    (fun ds h => by match ds, h with | [d0, d1, d2], _ => rfl)
    (ChangeSpec.witness6 (enc := enc) (C := Try.checked) false ⟨#[], #[.int .i64 0, .int .i64 0, .agg #[.int .i64 0, .int .i64 0]], []⟩ 8 (by kernel_rfl) (by kernel_rfl) (by kernel_rfl) (by kernel_rfl)) ?_
  intro W base args ds p hval hA hsz
  obtain ⟨v0, vs0, d0, ds0, p0, q0, hargs, rfl, rfl, h0, r0⟩ := trodAll_cons hA
  obtain ⟨v1, vs1, d1, ds1, p1, q1, rfl, rfl, rfl, h1, r1⟩ := trodAll_cons r0
  obtain ⟨v2, vs2, d2, ds2, p2, q2, rfl, rfl, rfl, h2, r2⟩ := trodAll_cons r1
  obtain ⟨rfl, rfl, rfl⟩ := trodAll_nil r2
  obtain rfl : args = #[v0, v1, v2] := by cases args; simp_all
  obtain ⟨x0, rfl, b0⟩ := open_i64 Try.underlying3 (hval 0 _ v0 rfl rfl) h0
  obtain ⟨x1, rfl, b1⟩ := open_i64 Try.underlying3 (hval 1 _ v1 rfl rfl) h1
  obtain ⟨y2, rfl, l2, w2⟩ := open_arr Try.underlying36 Try.underlying3 cells_i cells_a2 (hval 2 _ v2 rfl rfl) h2
  exact walk W x0 b0 x1 b1 y2 l2 w2

/-- THE STATEMENT -/
theorem proved : Rows.LsbUnderstandsSaid :=
  OpenClaim.holds_of_wide 4 Try.f4 rfl rfl rfl rfl rfl rfl rfl ⟨rfl, rfl, rfl, rfl, rfl⟩ rfl rfl rfl rfl rfl (by kernel_rfl) Try.func4 (by kernel_rfl)
    (of_decide_eq_true (by kernel_rfl)) (by unfold Func.isWrapper; first | (rw [if_pos (by decide +kernel)]; kernel_rfl) | (rw [if_neg (by decide +kernel)]; exact ⟨rfl, rfl⟩))
    (fun os started H enc _ => lifted os started H enc)
#print axioms proved
end Go.Proofs.Ytlpnpecohndpbaa.lsbUnderstands
