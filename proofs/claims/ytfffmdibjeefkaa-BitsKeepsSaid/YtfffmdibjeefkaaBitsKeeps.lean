/-
  Proved: the Go function BitsKeeps, called with any bytes and any numbers, returns true and leaves its arguments as they were (a number that Write has written is read by Read, and all other bits stay).
  Conditions: none beyond those of the given row.
-/
import Derived.Test.YtfffmdibjeefkaaBitsSplits
namespace Go.Proofs.Ytfffmdibjeefkaa.bitsKeeps
open Go Go.RowKit Go.ChangeShapes Go.WideShapes Go.ChangeAt
open Go.Proofs.Ytfffmdibjeefkaa.bitsSplits (readI own laidOut cells5 cells3 cells23 bytes5 read22 read23 big)

theorem writeOk (zs : List Int) (w : World) (p q v : Nat) (n : Nat) (hl : zs.length = n) (h1 : q ≤ 32) (h2 : p + q ≤ 8 * n) (hv : v < 2 ^ q) (a : Option Addr) (cap : Nat) (hs : Sl .u8 w a n zs) (hc : a = none → cap = 0) :
    Calls Try.prog 11 #[.slice a n cap, .int .i64 p, .int .i64 q, .int .i64 v] w fun e w' => ∃ a' cap', e = .returned (.tuple #[.slice a' n cap', .int .i64 0]) ∧ (a' = none → cap' = 0) ∧ Sl .u8 w' a' n (putTo zs p q v q) ∧ Below w.heap.size w w' := by
  have hr := hs.reach
  refine (Write_any w.heap.size a n cap p q v zs w hs hc (Nat.le_refl _) (by omega)).mono ?_
  rintro e w' ⟨a', n', cap', rfl, hc', hm, hb⟩
  have e0 : ((2 : Int) ^ q) = ((2 ^ q : Nat) : Int) := by simp
  have hno : ¬ ((q : Int) < 0 ∨ 32 < (q : Int) ∨ (v : Int) < 0 ∨ (2 : Int) ^ (q : Int).toNat ≤ (v : Int) ∨ (p : Int) < 0) := by rw [Int.toNat_natCast, e0]; omega
  have e1 : writeV zs p q v = putTo zs p q v q := by unfold writeV; rw [if_neg hno, if_neg (by omega)]; simp
  have e2 : writeE zs.length p q v = 0 := by unfold writeE; rw [if_neg hno, if_neg (by omega)]
  rw [e1] at hm
  obtain rfl : n' = n := by rw [← hm.len, putTo_length, hl]
  rw [e2]
  exact ⟨a', cap', rfl, hc', hm.sl, hb⟩

theorem bytes_of_sl {w : World} {a : Option Addr} {n : Nat} {zs : List Int} (h : Sl .u8 w a n zs) : Bytes zs := fun i => h.u8 i
theorem one_bit (zs : List Int) (p : Nat) : numAt zs p 1 = bitAt zs p := by simp [numAt]

set_option maxHeartbeats 3200000 in
theorem walk (a : Option Addr) (n cap : Nat) (zs : List Int) (x0 x1 x2 pr : Int) (w : World) (hs : Sl .u8 w a n zs) (hca : a = none → cap = 0)
    (b0 : -9223372036854775808 ≤ x0 ∧ x0 ≤ 9223372036854775807) (b1 : -9223372036854775808 ≤ x1 ∧ x1 ≤ 9223372036854775807) (b2 : -9223372036854775808 ≤ x2 ∧ x2 ≤ 9223372036854775807) (b3 : -9223372036854775808 ≤ pr ∧ pr ≤ 9223372036854775807) :
    Calls Try.prog 5 #[.slice a n cap, .agg #[.int .i64 x0, .int .i64 x1, .int .i64 x2], .int .i64 pr] w fun e w' => e = .returned (.bool true) ∧ Below w.heap.size w w' := by
  have hr := hs.reach
  have hlen := hs.len
  have hby := bytes_of_sl hs
  have Hs := Lib.hid hs
  clear hs
  by_cases hn : n = 0
  · subst hn
    clear hlen hby
    go_enter Try.func5, Try.ntmps5
    go_wp2_with (first | (go_at_call 14; refine (awake01_any _).mono ?_; rintro e w1 ⟨rfl, hb⟩))
    go_ret
    exact ⟨rfl, ((Below.refl _ _).alloc (Nat.le_refl _) _).trans (hb.mono (by simp))⟩
  · have hne : ((n : Int) == 0) = false := by rw [beq_eq_false_iff_ne]; omega
    obtain ⟨P, HP, hP1⟩ : ∃ P : Nat, Hid ((P : Int) = x0 % (8 * (n : Int))) ∧ P < 8 * n := by
      have := Int.emod_nonneg x0 (show (8 * (n : Int)) ≠ 0 by omega)
      have := Int.emod_lt_of_pos x0 (show (0 : Int) < 8 * (n : Int) by omega)
      exact ⟨(x0 % (8 * (n : Int))).toNat, by show _ = _; omega, by omega⟩
    obtain ⟨M, W, HM, hM2, hW1, hW2⟩ : ∃ (M : Int) (W : Nat), Hid ((W : Int) = x1 % M) ∧ ((33 ≤ 8 * (n : Int) - P + 1 ∧ M = 33) ∨ (¬ 33 ≤ 8 * (n : Int) - P + 1 ∧ M = 8 * (n : Int) - P + 1)) ∧ W ≤ 32 ∧ P + W ≤ 8 * n := by
      by_cases hm : 33 ≤ 8 * (n : Int) - P + 1
      · have := Int.emod_nonneg x1 (show (33 : Int) ≠ 0 by omega)
        have := Int.emod_lt_of_pos x1 (show (0 : Int) < 33 by omega)
        exact ⟨33, (x1 % 33).toNat, by show _ = _; omega, .inl ⟨hm, rfl⟩, by omega, by omega⟩
      · have := Int.emod_nonneg x1 (show (8 * (n : Int) - P + 1) ≠ 0 by omega)
        have := Int.emod_lt_of_pos x1 (show (0 : Int) < (8 * (n : Int) - P + 1) by omega)
        exact ⟨8 * (n : Int) - P + 1, (x1 % (8 * (n : Int) - P + 1)).toNat, by show _ = _; omega, .inr ⟨hm, rfl⟩, by omega, by omega⟩
    have hpw := pow32 W hW1
    have hpw1 : 1 ≤ 2 ^ W := Nat.one_le_two_pow
    obtain ⟨T, V, HT, HVd, hV, hT1, hT2⟩ : ∃ (T : Int) (V : Nat), Hid (wrap64 (2 ^ W) = T) ∧ Hid ((V : Int) = x2 % T) ∧ V < 2 ^ W ∧ 1 ≤ T ∧ T ≤ 4294967296 := by
      rw [wrap_pow W hW1]
      have e0 : ((2 : Int) ^ W) = ((2 ^ W : Nat) : Int) := by simp
      rw [e0]
      generalize (2 : Nat) ^ W = t at hpw hpw1
      have := Int.emod_nonneg x2 (show ((t : Nat) : Int) ≠ 0 by omega)
      have := Int.emod_lt_of_pos x2 (show (0 : Int) < ((t : Nat) : Int) by omega)
      exact ⟨t, (x2 % ((t : Nat) : Int)).toNat, rfl, by show _ = _; omega, by omega, by omega, by omega⟩
    obtain ⟨Z, HZ, hZ1⟩ : ∃ Z : Nat, Hid ((Z : Int) = pr % (8 * (n : Int))) ∧ Z < 8 * n := by
      have := Int.emod_nonneg pr (show (8 * (n : Int)) ≠ 0 by omega)
      have := Int.emod_lt_of_pos pr (show (0 : Int) < 8 * (n : Int) by omega)
      exact ⟨(pr % (8 * (n : Int))).toNat, by show _ = _; omega, by omega⟩
    have HN := Lib.hid (numAt_putTo hby P W V (by omega) hV)
    have HBt := Lib.hid (bitAt_putTo hby P W V W Z (by omega))
    have hb1 := bitAt_lt zs Z
    have hv32 := numAt_le32 zs P W hW1
    have hVb : V < 4294967296 := Nat.lt_of_lt_of_le hV hpw
    have Hlen := Lib.hid hlen
    have HV := Lib.hid hV
    have Hplen := Lib.hid (putTo_length zs P W V W)
    clear hlen hby hV hpw hpw1
    have hn8 : (8 * (n : Int)) ≤ 1125899906842624 := by omega
    rcases hM2 with ⟨hm, rfl⟩ | ⟨hm, rfl⟩
    all_goals
      go_enter Try.func5, Try.ntmps5
      go_wp2_with fail
      refine (mod_any _ _ _ (by omega) (by omega) (by omega) (by omega)).mono ?_
      rintro e w1 ⟨rfl, rfl⟩
      rw [← HP.out]
      go_wp2_with fail
      refine (mod_any _ _ _ (by omega) (by omega) (by omega) (by omega)).mono ?_
      rintro e w1 ⟨rfl, rfl⟩
      rw [← HM.out]
      go_wp2_with fail
      rw [HT.out]
      refine (mod_any _ _ _ (by omega) (by omega) (by omega) (by omega)).mono ?_
      rintro e w1 ⟨rfl, rfl⟩
      rw [← HVd.out]
      go_wp2_with fail
      refine (writeOk zs _ P W V n Hlen.out hW1 hW2 HV.out _ _ (Hs.out.alloc _) hca).mono ?_
      rintro e w1 ⟨a1, c1, rfl, hc1, hs1, hb1⟩
      have Hs1 := Lib.hid hs1
      have Hb1 := Lib.hid hb1
      clear hs1 hb1
      go_wp2_with fail
      refine (readI (putTo zs P W V W) _ _ _ n (Hplen.out.trans Hlen.out) (by omega) (by omega) (by omega) (by omega) _ _ Hs1.out).mono ?_
      rintro e w2 ⟨rfl, rfl⟩
      rw [Int.toNat_natCast, Int.toNat_natCast, HN.out]
      go_wp2_with fail
      refine (mod_any _ _ _ (by omega) (by omega) (by omega) (by omega)).mono ?_
      rintro e w3 ⟨rfl, rfl⟩
      rw [← HZ.out]
      by_cases hin : P ≤ Z ∧ Z < P + W
      · go_wp2_with fail
        refine (awake01_any _).mono ?_
        rintro e w4 ⟨rfl, hb4⟩
        have Hb4 := Lib.hid hb4
        clear hb4
        go_wp2
        go_ret
        exact ⟨rfl, (((Below.refl _ _).alloc (Nat.le_refl _) _).trans (Hb1.out.mono (by simp))).trans (Hb4.out.mono (by have := Hb1.out.size; simp at this; omega))⟩
      · have HQ : Hid (numAt (putTo zs P W V W) Z 1 = numAt zs Z 1) := by
          show numAt _ _ _ = _
          rw [one_bit, one_bit, HBt.out, if_neg hin]
        have Hfin : Hid (∀ w4 : World, Below w1.heap.size w1 w4 → Below w.heap.size w w4) := fun w4 h => ((((Below.refl w.heap.size w).alloc (Nat.le_refl _) _).trans (Hb1.out.mono (by simp))).trans (h.mono (by have := Hb1.out.size; simp at this; omega)))
        rcases (show Z < P ∨ (P ≤ Z ∧ P + W ≤ Z) by omega) with g | ⟨g, g2⟩
        all_goals
          clear hin
          go_wp2_with fail
          refine (readI zs _ _ _ n Hlen.out (by omega) (by omega) (by omega) (by omega) _ _ ((Hs.out.alloc _).keep Hb1.out)).mono ?_
          rintro e w4 ⟨rfl, rfl⟩
          rw [Int.toNat_natCast, show ((1 : Int)).toNat = 1 from rfl]
          go_wp2_with fail
          refine (readI (putTo zs P W V W) _ _ _ n (Hplen.out.trans Hlen.out) (by omega) (by omega) (by omega) (by omega) _ _ Hs1.out).mono ?_
          rintro e w4 ⟨rfl, rfl⟩
          rw [Int.toNat_natCast, show ((1 : Int)).toNat = 1 from rfl, HQ.out]
          go_wp2_with fail
          refine (awake01_any _).mono ?_
          rintro e w4 ⟨rfl, hb4⟩
          have Hb4 := Lib.hid hb4
          clear hb4
          go_wp2
          go_ret
          exact ⟨rfl, Hfin.out _ Hb4.out⟩

theorem lifted (os : Os) (started : os.Started) (H : Type) (enc : TypeId × Value → H) :
    ReturnsInHanded {} Try.checked os 5 .any (Rows.bitsKeepsSpec.pre6 enc Try.prog Try.f5 Rows.bitsKeepsRow.domain false) (Rows.bitsKeepsSpec.post enc Try.prog Try.f5 false true false false) := by
  refine law_lifted (C := Try.checked) (rt := 4) [22, 23, 3] own started (by kernel_rfl) Try.func5 laidOut (by rw [Try.params5])
    (fun t ht => by simp at ht; rcases ht with rfl | rfl | rfl <;> exact ⟨by kernel_rfl, Nat.lt_trans (by omega) big⟩) rfl Try.underlying4 rfl
    (fun ds h => by match ds, h with | [d1, d2, d3], _ => rfl)
    (ChangeSpec.witness6 (enc := enc) (C := Try.checked) false ⟨#[], #[.slice none 0 0, .agg #[.int .i64 0, .int .i64 0, .int .i64 0], .int .i64 0], []⟩ 8 (by kernel_rfl) (by kernel_rfl) (by kernel_rfl) (by kernel_rfl)) ?_
  intro W base args ds p hval hA hsz
  obtain ⟨v0, vs0, d0, ds0, p0, q0, hargs, rfl, rfl, h0, r0⟩ := trodAll_cons hA
  obtain ⟨v1, vs1, d1, ds1, p1, q1, rfl, rfl, rfl, h1, r1⟩ := trodAll_cons r0
  obtain ⟨v2, vs2, d2, ds2, p2, q2, rfl, rfl, rfl, h2, r2⟩ := trodAll_cons r1
  obtain ⟨rfl, rfl, rfl⟩ := trodAll_nil r2
  obtain rfl : args = #[v0, v1, v2] := by cases args; simp_all
  obtain ⟨a, n, cap, zs, rfl, hs, hc⟩ := open_sl Try.underlying22 Try.underlying5 cells5 (by rw [bytes5]; omega) (hval 0 22 v0 rfl rfl) h0 (fun el spa hd => sized_slice hsz (j := 0) rfl (by rw [hd]; rfl) Try.underlying22)
  obtain ⟨ns, rfl, hl, hw⟩ := open_arr Try.underlying23 Try.underlying3 cells3 cells23 (hval 1 23 v1 rfl rfl) h1
  obtain ⟨pr, rfl, hpr⟩ := open_i64 Try.underlying3 (hval 2 3 v2 rfl rfl) h2
  match ns, hl, hw with
  | [x0, x1, x2], _, hw => exact walk a n cap zs x0 x1 x2 pr W hs hc (wf_i64 (hw x0 (by simp))) (wf_i64 (hw x1 (by simp))) (wf_i64 (hw x2 (by simp))) hpr

/-- THE STATEMENT -/
theorem proved : Rows.BitsKeepsSaid :=
  OpenClaim.holds_of_wide 5 Try.f5 rfl rfl rfl rfl rfl rfl rfl ⟨rfl, rfl, rfl, rfl, rfl⟩ rfl rfl rfl rfl rfl (by kernel_rfl) Try.func5 (by kernel_rfl)
    (of_decide_eq_true (by kernel_rfl)) (by unfold Func.isWrapper; first | (rw [if_pos (by decide +kernel)]; kernel_rfl) | (rw [if_neg (by decide +kernel)]; exact ⟨rfl, rfl⟩))
    (fun os started H enc _ => lifted os started H enc)
#print axioms proved
end Go.Proofs.Ytfffmdibjeefkaa.bitsKeeps
