/-
  Proved: the Go function CheckBursts, called with any number, bytes and two numbers, returns true and leaves its arguments as they were (a change within as many bits as the width changes the check value).
  Conditions: none beyond those of the given row.
-/
import Derived.Test.YthbganohmcomjaaChkBurst
import Derived.Test.YthbganohmcomjaaChkAwake
import Derived.Test.YthbganohmcomjaaLift
import Derived.Test.YthbganohmcomjaaRows
namespace Go.Proofs.Ythbganohmcomjaa.checkBursts
open Go Go.RowKit Go.ChangeShapes Go.WideShapes Go.ChangeAt

theorem info_b : (Try.prog.info? 5).map (fun i => (i.zero, i.size, i.bytes)) = some (some (.int .u8 0), 1, 1) := by kernel_rfl

theorem nat_mod (x m : Int) (hm : 1 ≤ m) : ∃ A : Nat, (A : Int) = x % m ∧ (A : Int) < m := by
  have := Int.emod_nonneg x (show m ≠ 0 by omega)
  have := Int.emod_lt_of_pos x (show (0 : Int) < m by omega)
  exact ⟨(x % m).toNat, by omega, by omega⟩
theorem and_bit (x i : Nat) (hx : x < 16777217) : bits .and .i64 ((x : Int) / 2 ^ i) 1 = if x.testBit i then 1 else 0 := by
  have hd : x / 2 ^ i ≤ x := Nat.div_le_self _ _
  have e := bit_of_div x i
  rw [div_pow_nat]
  generalize x / 2 ^ i = q at hd e
  rw [i64_and_one _ (by omega) (by omega)]
  split at e <;> rename_i ht <;> simp [ht] <;> omega

set_option maxRecDepth 100000 in
set_option maxHeartbeats 3200000 in
theorem walk2 (w : World) (k : Int) (b0 : -9223372036854775808 ≤ k ∧ k ≤ 9223372036854775807) (a : Option Addr) (n cap : Nat) (zs : List Int) (hs : Sl .u8 w a n zs) (hca : a = none → cap = 0)
    (x0 x1 : Int) (b1 : -9223372036854775808 ≤ x0 ∧ x0 ≤ 9223372036854775807) (b2 : -9223372036854775808 ≤ x1 ∧ x1 ≤ 9223372036854775807) :
    Calls Try.prog 6 #[.int .i64 k, .slice a n cap, .agg #[.int .i64 x0, .int .i64 x1]] w fun e w' => e = .returned (.bool true) ∧ Below w.heap.size w w' := by
  have hr := hs.reach
  have Hs := Lib.hid hs
  have HA := Lib.hid hs.u8
  have B0 := Lib.hid ((Below.refl w.heap.size w).alloc (Nat.le_refl _) (.cells #[.int .i64 x0, .int .i64 x1] 33))
  clear hs
  by_cases hn : 0 < n ∧ n ≤ 500
  · obtain ⟨hn0, hn5⟩ := hn
    have hnz : ((n : Int) == 0) = false := by simp; omega
    obtain ⟨P, hP⟩ := widN_kd k
    have C := Lib.hid (fun W => width_any k W b0)
    have hw3 : 3 ≤ widN k := by unfold widN; repeat' split
                                all_goals omega
    generalize widN k = K at hP C hw3
    have hk2 := hP.most
    have p24 := pw24 K hk2
    have p3 : 8 ≤ 2 ^ K := Nat.pow_le_pow_right (n := 2) (i := 3) (by decide) hw3
    obtain ⟨F, hF, hF2⟩ := nat_mod x0 (8 * (n : Int)) (by omega)
    obtain ⟨V, hV, hV2⟩ := nat_mod x1 ((2 : Int) ^ K - 1) (by rw [ipow_nat]; omega)
    have hV3 : V + 1 < 16777217 := by rw [ipow_nat] at hV2; omega
    have M0 : Hid (∀ W, Calls Try.prog 14 #[.int .i64 x0, .int .i64 (8 * (n : Int))] W fun e w' => e = .returned (.int .i64 F) ∧ W = w') := fun W => by
      rw [hF]; exact mod_any x0 _ W (by omega) (by omega) b1.1 b1.2
    have M1 : Hid (∀ W, Calls Try.prog 14 #[.int .i64 x1, .int .i64 (wrap64 (wrap64 (2 ^ K) - 1))] W fun e w' => e = .returned (.int .i64 V) ∧ W = w') := fun W => by
      rw [wrap_imask K (by omega), hV]; exact mod_any x1 _ W (by rw [ipow_nat]; omega) (by rw [ipow_nat]; omega) b2.1 b2.2
    have hFn : F < 8 * n := by omega
    have HP := Lib.hid hP
    have hB : w.heap.size ≤ (w.alloc (.cells #[.int .i64 x0, .int .i64 x1] 33)).heap.size := by simp
    clear hF hF2 hV hV2 p24 p3 hP
    go_enter Try.func6, Try.ntmps6
    go_wp2_with (first
      | (go_at_call 9; refine (C.out _).mono ?_; rintro e w' ⟨rfl, rfl⟩)
      | (go_at_call 14; ((with_reducible refine (M0.out _).mono ?_); rintro e w' ⟨rfl, rfl⟩))
      | (go_at_call 14; ((with_reducible refine (M1.out _).mono ?_); rintro e w' ⟨rfl, rfl⟩))
      | (at_builtin; refine wpList_append_mk rfl (.const (.slice none 0 0)) _ 22 rfl .u8 5 w.heap.size 1 Try.underlying22 info_b (.slice none 0 0) 0 [] rfl (Mk.nil .u8 5 _ _) a n cap zs rfl (Hs.out.alloc _) hca (by omega) (by omega) hB ?_; intro ao1 cap1 w1 hm1 hb1 hn1; have B1 := Lib.hid (B0.out.trans hb1); rw [Nat.zero_add, List.nil_append] at hm1; have M2 := Lib.hid hm1; clear hb1 hm1 hn1)
      | fail)
    obtain ⟨g, rfl⟩ : ∃ g, ao1 = some ⟨g, 0, none⟩ := by
      rcases M2.out.shape with ⟨_, h⟩ | ⟨g, c, h, _⟩
      · omega
      · exact ⟨g, by cases h; rfl⟩
    go_loopw [11, 12] (fun ch i wr => ∃ j : Nat, j ≤ K ∧ i = .int .i64 j ∧ ch = .bool (chgTo n F (V + 1) j) ∧ Mk .u8 5 w.heap.size wr (.slice (some ⟨g, 0, none⟩) n cap1) n (flipTo zs F (V + 1) j) ∧ Below w.heap.size w wr) (fun _ i _ => K - (intOf i).toNat)
    case atStart => exact ⟨0, by omega, by simp, rfl, M2.out, B1.out⟩
    case round =>
      obtain ⟨j, hj, rfl, rfl, hm, hb⟩ := hrel
      have Hm := Lib.hid hm
      have Hb := Lib.hid hb
      by_cases hlt : j < K
      · have HF : Hid (flipTo zs F (V + 1) (j + 1) = if (V + 1).testBit j && decide (F + j < 8 * n) then (flipTo zs F (V + 1) j).set ((F + j) / 8) (turned ((flipTo zs F (V + 1) j).getD ((F + j) / 8) 0) (F + j)) else flipTo zs F (V + 1) j) := by
          rw [← Hs.out.len]; exact Lib.hid rfl
        have HC : Hid (chgTo n F (V + 1) (j + 1) = (chgTo n F (V + 1) j || ((V + 1).testBit j && decide (F + j < 8 * n)))) := Lib.hid rfl
        have hbit := and_bit (V + 1) j hV3
        rw [show ((V + 1 : Nat) : Int) = 1 + (V : Int) by omega] at hbit
        by_cases hu : (V + 1).testBit j = true
        · have ht : (bits .and .i64 ((1 + (V : Int)) / 2 ^ j) 1 == 1) = true := by rw [hbit, if_pos hu]; rfl
          rw [hu] at HF HC
          by_cases hin : F + j < 8 * n
          · have hc := hm.at (j := (F + j) / 8) (by omega)
            have hfr := hm.free ((F + j) / 8)
            have hby := bytes_all HA.out F (V + 1) j ((F + j) / 8)
            have HT : Hid (turned ((flipTo zs F (V + 1) j).getD ((F + j) / 8) 0) (F + j) = bits .xor .u8 ((flipTo zs F (V + 1) j).getD ((F + j) / 8) 0) (128 / 2 ^ ((F + j) % 8))) := Lib.hid rfl
            have HTb := Lib.hid (turned_byte _ (F + j) hby.1 hby.2)
            generalize (flipTo zs F (V + 1) j).getD ((F + j) / 8) 0 = y at hc hby HT HF HTb
            have HS := Lib.hid (fun u hu => hm.stored ((F + j) / 8) u hu)
            have hgb := hm.block
            clear hm hb hbit hu
            go_wp2
            go_roundw
            case rel =>
              go_light
              refine ⟨j + 1, by omega, by go_num, by rw [HC.out, decide_eq_true hin]; simp, ?_, Hb.out.setCell hgb.1 _⟩
              have h1 := HS.out (turned y (F + j)) (byte_wf HTb.out.1 HTb.out.2)
              rw [HF.out, if_pos (by rw [decide_eq_true hin]; rfl)]
              rw [HT.out] at h1 ⊢
              exact h1
            case measure => simp [intOf]; omega
          · clear hm hb hbit hu
            have hin2 : (8 * (n : Int)) ≤ (F : Int) + (j : Int) := by omega
            go_wp2
            go_roundw
            case rel => exact ⟨j + 1, by omega, by go_num, by rw [HC.out, decide_eq_false hin]; simp, by rw [HF.out, if_neg (by rw [decide_eq_false hin]; simp)]; exact Hm.out, Hb.out⟩
            case measure => simp [intOf]; omega
        · have hu : (V + 1).testBit j = false := by simpa using hu
          have ht : (bits .and .i64 ((1 + (V : Int)) / 2 ^ j) 1 == 1) = false := by rw [hbit, hu]; rfl
          rw [hu] at HF HC
          clear hm hb hbit hu
          go_wp2
          go_roundw
          case rel => exact ⟨j + 1, by omega, by go_num, by rw [HC.out]; simp, by rw [HF.out, if_neg (by simp)]; exact Hm.out, Hb.out⟩
          case measure => simp [intOf]; omega
      · obtain rfl : j = K := by omega
        have E1 := Lib.hid (sum_kd HP.out zs)
        have E2 := Lib.hid (sum_kd HP.out (flipTo zs F (V + 1) j))
        have HL := Lib.hid (burst_law (r := 2 ^ j - 1) HP.out zs HA.out F (V + 1) n Hs.out.len hFn)
        clear hm hb
        generalize flipTo zs F (V + 1) j = cs at Hm E2 HL
        generalize chgTo n F (V + 1) j = ch at HL
        go_wp2_with fail
        refine (Sum_b _ _ _ _ zs _ Hb.out (Hs.out.keep Hb.out) (by omega)).mono ?_
        rw [E1.out.1, E1.out.2]
        rintro e w3 ⟨rfl, hb, hl⟩
        have B3 := Lib.hid hb
        have M3 := Lib.hid (Hm.out.keep hl)
        clear hb hl
        go_wp2_with fail
        refine (Sum_b _ _ _ _ cs _ B3.out M3.out.sl (by omega)).mono ?_
        rw [E2.out.1, E2.out.2]
        rintro e w4 ⟨rfl, hb, hl⟩
        have B4 := Lib.hid hb
        clear hb hl
        generalize regOf j P (2 ^ j - 1) zs = A1 at HL
        generalize regOf j P (2 ^ j - 1) cs = A2 at HL
        go_wp2_with (go_at_call 8; refine (awake03_b _ B4.out).mono ?_; rintro e w6 ⟨rfl, hb⟩; have B6 := Lib.hid hb; clear hb)
        go_ret
        refine ⟨ret_bool ?_, B6.out⟩
        have h1 := HL.out
        cases ch
        · have := h1.2 rfl
          subst this
          simp
        · have h2 : (A1 : Int) ≠ (A2 : Int) := fun h => by cases h1.1 (by omega)
          simpa using h2
  · have hB : Hid (∀ W : World, Calls Try.prog 8 #[] (w.alloc (.cells #[.int .i64 x0, .int .i64 x1] 33)) fun e w' => e = .returned (.bool true) ∧ Below w.heap.size w w') := fun _ => awake03_b _ B0.out
    by_cases h0 : n = 0
    · subst h0
      go_enter Try.func6, Try.ntmps6
      go_wp2_with (go_at_call 8; refine (hB.out w).mono ?_; rintro e w6 ⟨rfl, hb⟩)
      go_ret
      exact ⟨rfl, hb⟩
    · have hnz : ((n : Int) == 0) = false := by simp; omega
      have h5 : (500 : Int) < (n : Int) := by omega
      go_enter Try.func6, Try.ntmps6
      go_wp2_with (go_at_call 8; refine (hB.out w).mono ?_; rintro e w6 ⟨rfl, hb⟩)
      go_ret
      exact ⟨rfl, hb⟩

theorem walk (w : World) (k : Int) (b0 : -9223372036854775808 ≤ k ∧ k ≤ 9223372036854775807) (a : Option Addr) (n cap : Nat) (zs : List Int) (hs : Sl .u8 w a n zs) (hca : a = none → cap = 0)
    (ys : List Int) (hl : ys.length = 2) (hw : ∀ z ∈ ys, (Lit.int .i64 z).wf = true) :
    Calls Try.prog 6 #[.int .i64 k, .slice a n cap, .agg (ys.map (Value.int .i64)).toArray] w fun e w' => e = .returned (.bool true) ∧ Below w.heap.size w w' := by
  match ys, hl, hw with
  | [x0, x1], _, hw => exact walk2 w k b0 a n cap zs hs hca x0 x1 (wf_i64 (hw x0 (by simp))) (wf_i64 (hw x1 (by simp)))

theorem own : ownKnob Try.prog.godebug = none := by kernel_rfl
theorem laidOut : laidOutB Try.prog = true := by kernel_rfl
theorem read_int : Try.prog.readableRec 3 = true := by kernel_rfl
theorem read_bytes : Try.prog.readableRec 22 = true := by kernel_rfl
theorem read_arr2 : Try.prog.readableRec 33 = true := by kernel_rfl
theorem cells_b : Try.prog.cellsOf 5 = 1 := by kernel_rfl
theorem bytes_b : Try.prog.bytesOf 5 = 1 := by kernel_rfl
theorem cells_i : Try.prog.cellsOf 3 = 1 := by kernel_rfl
theorem bytes_i : Try.prog.bytesOf 3 = 8 := by kernel_rfl
theorem cells_a2 : Try.prog.cellsOf 33 = 2 := by kernel_rfl
theorem lt_int : 3 < Try.prog.types.size := of_decide_eq_true (by kernel_rfl)
theorem lt_bytes : 22 < Try.prog.types.size := of_decide_eq_true (by kernel_rfl)
theorem lt_arr2 : 33 < Try.prog.types.size := of_decide_eq_true (by kernel_rfl)

set_option maxRecDepth 100000 in
theorem lifted (os : Os) (started : os.Started) (H : Type) (enc : TypeId × Value → H) :
    ReturnsInHanded {} Try.checked os 6 .any (Rows.checkBurstsSpec.pre6 enc Try.prog Try.f6 Rows.checkBurstsRow.domain false) (Rows.checkBurstsSpec.post enc Try.prog Try.f6 false true false false) := by
  refine law_lifted (C := Try.checked) (rt := 4) [3, 22, 33] own started (by kernel_rfl) Try.func6 laidOut (by rw [Try.params6])
    (fun t ht => by simp only [List.mem_cons, List.not_mem_nil, or_false] at ht; rcases ht with rfl | rfl | rfl <;> first | exact ⟨read_int, lt_int⟩ | exact ⟨read_bytes, lt_bytes⟩ | exact ⟨read_arr2, lt_arr2⟩) rfl Try.underlying4 rfl
    (fun ds h => by match ds, h with | [d0, d1, d2], _ => rfl)
    (ChangeSpec.witness6 (enc := enc) (C := Try.checked) false ⟨#[], #[.int .i64 0, .slice none 0 0, .agg #[.int .i64 0, .int .i64 0]], []⟩ 8 (by kernel_rfl) (by kernel_rfl) (by kernel_rfl) (by kernel_rfl)) ?_
  intro W base args ds p hval hA hsz
  obtain ⟨v0, vs0, d0, ds0, p0, q0, hargs, rfl, rfl, h0, r0⟩ := trodAll_cons hA
  obtain ⟨v1, vs1, d1, ds1, p1, q1, rfl, rfl, rfl, h1, r1⟩ := trodAll_cons r0
  obtain ⟨v2, vs2, d2, ds2, p2, q2, rfl, rfl, rfl, h2, r2⟩ := trodAll_cons r1
  obtain ⟨rfl, rfl, rfl⟩ := trodAll_nil r2
  obtain rfl : args = #[v0, v1, v2] := by cases args; simp_all
  obtain ⟨x0, rfl, b0⟩ := open_i64 Try.underlying3 (hval 0 _ v0 rfl rfl) h0
  obtain ⟨a1, n1, c1, z1, rfl, s1, nn1⟩ := open_slc Try.underlying22 Try.underlying5 cells_b (by rw [bytes_b]; omega) (hval 1 _ v1 rfl rfl) h1 (fun el spa hd => sized_slice hsz (j := 1) rfl (by rw [hd]; rfl) Try.underlying22)
  obtain ⟨y2, rfl, l2, w2⟩ := open_arr Try.underlying33 Try.underlying3 cells_i cells_a2 (hval 2 _ v2 rfl rfl) h2
  exact walk W x0 b0 a1 n1 c1 z1 s1 nn1.1 y2 l2 w2

/-- THE STATEMENT -/
theorem proved : Rows.CheckBurstsSaid :=
  OpenClaim.holds_of_wide 6 Try.f6 rfl rfl rfl rfl rfl rfl rfl ⟨rfl, rfl, rfl, rfl, rfl⟩ rfl rfl rfl rfl rfl (by kernel_rfl) Try.func6 (by kernel_rfl)
    (of_decide_eq_true (by kernel_rfl)) (by unfold Func.isWrapper; first | (rw [if_pos (by decide +kernel)]; kernel_rfl) | (rw [if_neg (by decide +kernel)]; exact ⟨rfl, rfl⟩))
    (fun os started H enc _ => lifted os started H enc)
#print axioms proved
end Go.Proofs.Ythbganohmcomjaa.checkBursts
