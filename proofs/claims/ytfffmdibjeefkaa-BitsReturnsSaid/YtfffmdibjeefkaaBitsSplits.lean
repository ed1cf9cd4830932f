/-
  Proved: the Go function BitsSplits, called with any bytes and any three numbers, returns true and leaves its arguments as they were (a number that Read reads is made of its upper and its lower bits, read by themselves).
  Conditions: none beyond those of the given row.
-/
import Derived.Test.YtfffmdibjeefkaaBitsAwake
import Derived.Test.YtfffmdibjeefkaaLift
import Derived.Test.YtfffmdibjeefkaaRows
namespace Go.Proofs.Ytfffmdibjeefkaa.bitsSplits
open Go Go.RowKit Go.ChangeShapes Go.WideShapes Go.ChangeAt

theorem splits_plain (zs : List Int) (P W K : Nat) (hK : K ≤ W) : ((numAt zs P W : Nat) : Int) = (numAt zs P K : Nat) * 2 ^ (W - K) + (numAt zs (P + K) (W - K) : Nat) := by
  have h := numAt_split zs P K (W - K)
  rw [show K + (W - K) = W from by omega] at h
  rw [h]; simp

theorem readOk (zs : List Int) (w : World) (p q n : Nat) (hl : zs.length = n) (h1 : q ≤ 32) (h2 : p + q ≤ 8 * n) (a : Option Addr) (cap : Nat) (hs : Sl .u8 w a n zs) :
    Calls Try.prog 9 #[.slice a n cap, .int .i64 p, .int .i64 q] w fun e w' => e = .returned (.tuple #[.int .i64 (numAt zs p q : Nat), .int .i64 0]) ∧ w = w' := by
  have hr := hs.reach
  refine (Read_any a n cap p q zs w hs (by omega)).mono ?_
  rintro e w' ⟨rfl, rfl⟩
  have e1 : readV zs p q = (numAt zs p q : Nat) := by unfold readV; rw [if_neg (by omega), if_neg (by omega)]; simp
  have e2 : readE zs p q = 0 := by unfold readE; rw [if_neg (by omega), if_neg (by omega)]
  rw [e1, e2]; exact ⟨rfl, rfl⟩

theorem readI (zs : List Int) (w : World) (p q : Int) (n : Nat) (hl : zs.length = n) (h0 : 0 ≤ p) (h3 : 0 ≤ q) (h1 : q ≤ 32) (h2 : p + q ≤ 8 * n) (a : Option Addr) (cap : Nat) (hs : Sl .u8 w a n zs) :
    Calls Try.prog 9 #[.slice a n cap, .int .i64 p, .int .i64 q] w fun e w' => e = .returned (.tuple #[.int .i64 (numAt zs p.toNat q.toNat : Nat), .int .i64 0]) ∧ w = w' := by
  obtain ⟨P, rfl⟩ := Int.eq_ofNat_of_zero_le h0
  obtain ⟨Q, rfl⟩ := Int.eq_ofNat_of_zero_le h3
  exact readOk zs w P Q n hl (by omega) (by omega) a cap hs

set_option maxHeartbeats 1600000 in
theorem walk (a : Option Addr) (n cap : Nat) (zs : List Int) (x0 x1 x2 : Int) (w : World) (hs : Sl .u8 w a n zs)
    (b0 : -9223372036854775808 ≤ x0 ∧ x0 ≤ 9223372036854775807) (b1 : -9223372036854775808 ≤ x1 ∧ x1 ≤ 9223372036854775807) (b2 : -9223372036854775808 ≤ x2 ∧ x2 ≤ 9223372036854775807) :
    Calls Try.prog 7 #[.slice a n cap, .agg #[.int .i64 x0, .int .i64 x1, .int .i64 x2]] w fun e w' => e = .returned (.bool true) ∧ Below w.heap.size w w' := by
  have hr := hs.reach
  have hlen := hs.len
  have Hs := Lib.hid hs
  clear hs
  by_cases hn : n = 0
  · subst hn
    clear hlen
    go_enter Try.func7, Try.ntmps7
    go_wp2_with (first | (go_at_call 14; refine (awake01_any _).mono ?_; rintro e w1 ⟨rfl, hb⟩))
    go_ret
    exact ⟨rfl, ((Below.refl _ _).alloc (Nat.le_refl _) _).trans (hb.mono (by simp))⟩
  · have hne : ((n : Int) == 0) = false := by rw [beq_eq_false_iff_ne]; omega
    obtain ⟨P, HP⟩ : ∃ P : Int, Hid (P = x0 % (8 * (n : Int))) := ⟨_, rfl⟩
    have hP0 : 0 ≤ P := by rw [HP.out]; exact Int.emod_nonneg _ (by omega)
    have hP1 : P < 8 * (n : Int) := by rw [HP.out]; exact Int.emod_lt_of_pos _ (by omega)
    obtain ⟨P, rfl⟩ := Int.eq_ofNat_of_zero_le hP0
    obtain ⟨W, HW1, HW2, hW1, hW2⟩ : ∃ W : Nat, (33 ≤ 8 * (n : Int) - P + 1 → (W : Int) = x1 % 33) ∧ (¬ 33 ≤ 8 * (n : Int) - P + 1 → (W : Int) = x1 % (8 * (n : Int) - P + 1)) ∧ W ≤ 32 ∧ P + W ≤ 8 * n := by
      by_cases hm : 33 ≤ 8 * (n : Int) - P + 1
      · have := Int.emod_nonneg x1 (show (33 : Int) ≠ 0 by omega)
        have := Int.emod_lt_of_pos x1 (show (0 : Int) < 33 by omega)
        exact ⟨(x1 % 33).toNat, fun _ => by omega, fun h => absurd hm h, by omega, by omega⟩
      · have := Int.emod_nonneg x1 (show (8 * (n : Int) - P + 1) ≠ 0 by omega)
        have := Int.emod_lt_of_pos x1 (show (0 : Int) < (8 * (n : Int) - P + 1) by omega)
        exact ⟨(x1 % (8 * (n : Int) - P + 1)).toNat, fun h => absurd h hm, fun _ => by omega, by omega, by omega⟩
    have HW3 := Lib.hid HW1
    have HW4 := Lib.hid HW2
    clear HW1 HW2
    obtain ⟨K, HK, hK⟩ : ∃ K : Nat, Hid ((K : Int) = x2 % ((W : Int) + 1)) ∧ K ≤ W := by
      have := Int.emod_nonneg x2 (show ((W : Int) + 1) ≠ 0 by omega)
      have := Int.emod_lt_of_pos x2 (show (0 : Int) < ((W : Int) + 1) by omega)
      exact ⟨(x2 % ((W : Int) + 1)).toNat, by show _ = _; omega, by omega⟩
    have Hlen := Lib.hid hlen
    clear hlen
    have hx := numAt_le32 zs P K (by omega)
    have hy := numAt_le32 zs (P + K) (W - K) (by omega)
    have hz := numAt_le32 zs P W (by omega)
    have HE := Lib.hid (splits_plain zs P W K hK)
    have e1 : ((P : Int) + (K : Int)).toNat = P + K := by omega
    have e2 : ((W : Int) - (K : Int)).toNat = W - K := by omega
    have E1 := Lib.hid e1
    have E2 := Lib.hid e2
    clear e1 e2
    obtain ⟨M, HM, hM1, hM2⟩ : ∃ M : Int, Hid ((W : Int) = x1 % M) ∧ 1 ≤ M ∧ M ≤ 33 ∧ ((33 ≤ 8 * (n : Int) - P + 1 ∧ M = 33) ∨ (¬ 33 ≤ 8 * (n : Int) - P + 1 ∧ M = 8 * (n : Int) - P + 1)) := by
      by_cases hm : 33 ≤ 8 * (n : Int) - P + 1
      · exact ⟨33, HW3.out hm, by omega, by omega, .inl ⟨hm, rfl⟩⟩
      · exact ⟨8 * (n : Int) - P + 1, HW4.out hm, by omega, by omega, .inr ⟨hm, rfl⟩⟩
    clear HW3 HW4
    rcases hM2.2 with ⟨hm, rfl⟩ | ⟨hm, rfl⟩
    all_goals
      clear hM1 hM2
      go_enter Try.func7, Try.ntmps7
      go_wp2_with fail
      refine (mod_any _ _ _ (by omega) (by omega) (by omega) (by omega)).mono ?_
      rintro e w1 ⟨rfl, rfl⟩
      rw [← HP.out]
      go_wp2_with fail
      refine (mod_any _ _ _ (by omega) (by omega) (by omega) (by omega)).mono ?_
      rintro e w1 ⟨rfl, rfl⟩
      rw [← HM.out]
      go_wp2_with fail
      refine (mod_any _ _ _ (by omega) (by omega) (by omega) (by omega)).mono ?_
      rintro e w1 ⟨rfl, rfl⟩
      rw [← HK.out]
      go_wp2_with fail
      refine (readI zs _ _ _ n Hlen.out (by omega) (by omega) (by omega) (by omega) _ _ (Hs.out.alloc _)).mono ?_
      rintro e w1 ⟨rfl, rfl⟩
      rw [Int.toNat_natCast, Int.toNat_natCast]
      go_wp2_with fail
      refine (readI zs _ _ _ n Hlen.out (by omega) (by omega) (by omega) (by omega) _ _ (Hs.out.alloc _)).mono ?_
      rintro e w1 ⟨rfl, rfl⟩
      rw [Int.toNat_natCast, Int.toNat_natCast]
      go_wp2_with fail
      refine (readI zs _ _ _ n Hlen.out (by omega) (by omega) (by omega) (by omega) _ _ (Hs.out.alloc _)).mono ?_
      rintro e w1 ⟨rfl, rfl⟩
      rw [E1.out, E2.out]
      generalize numAt zs P W = v at HE hz
      generalize numAt zs P K = x at HE hx
      generalize numAt zs (P + K) (W - K) = y at HE hy
      go_wp2_with fail
      refine (awake01_any _).mono ?_
      rintro e w1 ⟨rfl, hb⟩
      have Hb := Lib.hid hb
      clear hb
      go_wp2
      go_ret
      refine ⟨ret_bool ?_, ((Below.refl _ _).alloc (Nat.le_refl _) _).trans (Hb.out.mono (by simp))⟩
      have h := HE.out
      have hp : (0 : Int) ≤ (x : Int) * 2 ^ (W - K) := Int.mul_nonneg (by omega) (Int.pow_nonneg (by omega))
      generalize (x : Int) * 2 ^ (W - K) = t at h hp
      rw [beq_iff_eq, IntWalk.wrap64_in t ⟨by omega, by omega⟩, IntWalk.wrap64_in (t + y) ⟨by omega, by omega⟩]
      exact h

theorem own : ownKnob Try.prog.godebug = none := by kernel_rfl
theorem laidOut : laidOutB Try.prog = true := by kernel_rfl
theorem cells5 : Try.prog.cellsOf 5 = 1 := by kernel_rfl
theorem cells3 : Try.prog.cellsOf 3 = 1 := by kernel_rfl
theorem cells23 : Try.prog.cellsOf 23 = 3 := by kernel_rfl
theorem bytes5 : Try.prog.bytesOf 5 = 1 := by kernel_rfl
theorem read22 : Try.prog.readableRec 22 = true := by kernel_rfl
theorem read23 : Try.prog.readableRec 23 = true := by kernel_rfl
theorem big : 50 < Try.prog.types.size := of_decide_eq_true (by kernel_rfl)

set_option maxRecDepth 100000 in
theorem lifted (os : Os) (started : os.Started) (H : Type) (enc : TypeId × Value → H) :
    ReturnsInHanded {} Try.checked os 7 .any (Rows.bitsSplitsSpec.pre6 enc Try.prog Try.f7 Rows.bitsSplitsRow.domain false) (Rows.bitsSplitsSpec.post enc Try.prog Try.f7 false true false false) := by
  refine law_lifted (C := Try.checked) (rt := 4) [22, 23] own started (by kernel_rfl) Try.func7 laidOut (by rw [Try.params7])
    (fun t ht => by simp at ht; rcases ht with rfl | rfl <;> exact ⟨by first | exact read22 | exact read23, Nat.lt_trans (by omega) big⟩) rfl Try.underlying4 rfl
    (fun ds h => by match ds, h with | [d1, d2], _ => rfl)
    (ChangeSpec.witness6 (enc := enc) (C := Try.checked) false ⟨#[], #[.slice none 0 0, .agg #[.int .i64 0, .int .i64 0, .int .i64 0]], []⟩ 8 (by kernel_rfl) (by kernel_rfl) (by kernel_rfl) (by kernel_rfl)) ?_
  intro W base args ds p hval hA hsz
  obtain ⟨v0, vs0, d0, ds0, p0, q0, hargs, rfl, rfl, h0, r0⟩ := trodAll_cons hA
  obtain ⟨v1, vs1, d1, ds1, p1, q1, rfl, rfl, rfl, h1, r1⟩ := trodAll_cons r0
  obtain ⟨rfl, rfl, rfl⟩ := trodAll_nil r1
  obtain rfl : args = #[v0, v1] := by cases args; simp_all
  obtain ⟨a, n, cap, zs, rfl, hs, _⟩ := open_sl Try.underlying22 Try.underlying5 cells5 (by rw [bytes5]; omega) (hval 0 22 v0 rfl rfl) h0 (fun el spa hd => sized_slice hsz (j := 0) rfl (by rw [hd]; rfl) Try.underlying22)
  obtain ⟨ns, rfl, hl, hw⟩ := open_arr Try.underlying23 Try.underlying3 cells3 cells23 (hval 1 23 v1 rfl rfl) h1
  match ns, hl, hw with
  | [x0, x1, x2], _, hw => exact walk a n cap zs x0 x1 x2 W hs (wf_i64 (hw x0 (by simp))) (wf_i64 (hw x1 (by simp))) (wf_i64 (hw x2 (by simp)))

/-- THE STATEMENT -/
theorem proved : Rows.BitsSplitsSaid :=
  OpenClaim.holds_of_wide 7 Try.f7 rfl rfl rfl rfl rfl rfl rfl ⟨rfl, rfl, rfl, rfl, rfl⟩ rfl rfl rfl rfl rfl (by kernel_rfl) Try.func7 (by kernel_rfl)
    (of_decide_eq_true (by kernel_rfl)) (by unfold Func.isWrapper; first | (rw [if_pos (by decide +kernel)]; kernel_rfl) | (rw [if_neg (by decide +kernel)]; exact ⟨rfl, rfl⟩))
    (fun os started H enc _ => lifted os started H enc)
#print axioms proved
end Go.Proofs.Ytfffmdibjeefkaa.bitsSplits
