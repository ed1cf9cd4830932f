/-
  Proved: the Go function LsbMonotone, called with any numbers and list, returns true and leaves its arguments as they were (more bits and fewer references are never worse, and all bits are always enough).
  Conditions: none beyond those of the given row.
-/
import Derived.Test.YtlpnpecohndpbaaLsbMath
import Derived.Test.YtlpnpecohndpbaaLsbAwake
import Derived.Test.YtlpnpecohndpbaaLift
import Derived.Test.YtlpnpecohndpbaaRows
namespace Go.Proofs.Ytlpnpecohndpbaa.lsbMonotone
open Go Go.RowKit Go.ChangeShapes Go.WideShapes Go.ChangeAt

/-- the references that the law makes -/
def refAt (W : Nat) (v : Int) (zs : List Int) (i : Nat) : Int := (v + zs.getD i 0 % 2000 - 1000) % 2 ^ W
def refTo (W : Nat) (v : Int) (zs : List Int) : Nat → List Int
  | 0 => []
  | i + 1 => refTo W v zs i ++ [refAt W v zs i]
theorem refTo_length (W : Nat) (v : Int) (zs : List Int) : ∀ i, (refTo W v zs i).length = i
  | 0 => rfl
  | i + 1 => by simp [refTo, refTo_length W v zs i]
theorem refAt_range (W : Nat) (v : Int) (zs : List Int) (i : Nat) : 0 ≤ refAt W v zs i ∧ refAt W v zs i < 2 ^ W := by
  have := ipow_pos W
  exact ⟨Int.emod_nonneg _ (by omega), Int.emod_lt_of_pos _ (by omega)⟩
theorem refTo_range (W : Nat) (v : Int) (zs : List Int) : ∀ i, ∀ r ∈ refTo W v zs i, 0 ≤ r ∧ r < 2 ^ W
  | 0, r, h => by cases h
  | i + 1, r, h => by
    simp only [refTo, List.mem_append, List.mem_singleton] at h
    rcases h with h | rfl
    · exact refTo_range W v zs i r h
    · exact refAt_range W v zs i

theorem plain (W : Nat) (v : Int) (rs : List Int) (hW : lsWide W = true) (hv : 0 ≤ v ∧ v < 2 ^ W) (hr : ∀ r ∈ rs, 0 ≤ r ∧ r < 2 ^ W) : ∃ K : Nat, lsLeast W rs v = K ∧ 3 ≤ K ∧ K ≤ W ∧ lsFits W rs W v = true ∧ (4 ≤ K → lsFits W rs ((K : Int) - 1) v = false) ∧ (∀ J : Nat, K ≤ J → J ≤ W → lsFits W rs J v = true) ∧ (rs = [] → K = 3) ∧ ∀ m, lsLeast W (rs.take m) v ≤ K := by
  have hw2 : 8 ≤ W ∧ W ≤ 32 := by rcases lsWide_of hW with h | h | h <;> omega
  have ha := lsFits_all hW hv hr
  obtain ⟨a, b, c, d⟩ := lsLeast_le (by omega) (by omega) ha
  obtain ⟨K, hK⟩ := Int.eq_ofNat_of_zero_le (show 0 ≤ lsLeast W rs v by omega)
  rw [hK] at a b c d
  refine ⟨K, hK, by omega, by omega, ha, fun h => d _ (by omega) (by omega), lsFits_up hW (by omega) hv c, fun h => ?_, fun m => (lsLeast_le (by omega) (by omega) (lsFits_sub c (fun r hr => List.mem_of_mem_take hr))).2.1⟩
  subst h
  have h3 : lsFits W [] ((3 : Nat) : Int) v = true := lsFits_iff.2 ⟨lsSay_nat hW (by omega) hv, fun r hr => by cases hr⟩
  have := (lsLeast_le (by omega) (by omega) h3).2.1
  rw [hK] at this
  omega

theorem u32_wf {z : Int} (h : 0 ≤ z ∧ z ≤ 4294967295) : (Lit.int .i64 z).wf = true := by simp [Lit.wf, IntKind.min, IntKind.max, IntKind.signed, IntKind.bits]; omega
theorem info_i : (Try.prog.info? 3).map (fun i => (i.zero, i.size, i.bytes)) = some (some (.int .i64 0), 1, 8) := by kernel_rfl

set_option maxRecDepth 100000 in
set_option maxHeartbeats 6400000 in
theorem walk2 (w : World) (x : Int) (b0 : -9223372036854775808 ≤ x ∧ x ≤ 9223372036854775807) (a : Option Addr) (n cap : Nat) (zs : List Int) (hs : Sl .i64 w a n zs) (hcap : n ≤ cap) (n0 n1 : Int) (b2 : -9223372036854775808 ≤ n0 ∧ n0 ≤ 9223372036854775807) (b3 : -9223372036854775808 ≤ n1 ∧ n1 ≤ 9223372036854775807) :
    Calls Try.prog 5 #[.int .i64 x, .slice a n cap, .agg #[.int .i64 n0, .int .i64 n1]] w fun e w' => e = .returned (.bool true) ∧ Below w.heap.size w w' := by
  have hre := hs.reach
  obtain ⟨N, hN, hN2, hN3, hR⟩ := wide3 x
  have M0 := Lib.hid (fun W => mod_any x 3 W (by omega) (by omega) b0.1 b0.2)
  generalize x % 3 = x3 at hR M0
  have pN := ipow_pos N
  have pN2 := ipow_le32 N hN2
  obtain ⟨v, HV, hv0, hv1⟩ : ∃ c : Int, Hid (n0 % 2 ^ N = c) ∧ 0 ≤ c ∧ c < 2 ^ N := ⟨_, rfl, Int.emod_nonneg _ (by omega), Int.emod_lt_of_pos _ (by omega)⟩
  have M1 : Hid (∀ W, Calls Try.prog 8 #[.int .i64 n0, .int .i64 (wrap64 (2 ^ N))] W fun e w' => e = .returned (.int .i64 v) ∧ W = w') := fun W => by
    rw [wrap_ipow N hN2, ← HV.out]; exact mod_any n0 (2 ^ N) W pN (by omega) b2.1 b2.2
  have M2 : Hid (∀ y : Int, -9223372036854775808 ≤ y → y ≤ 9223372036854775807 → ∀ W, Calls Try.prog 8 #[.int .i64 y, .int .i64 2000] W fun e w' => e = .returned (.int .i64 (y % 2000)) ∧ W = w') := fun y h1 h2 W => mod_any y 2000 W (by omega) (by omega) h1 h2
  have M3 : Hid (∀ i W, -9223372036854775808 ≤ v + zs.getD i 0 % 2000 - 1000 ∧ v + zs.getD i 0 % 2000 - 1000 ≤ 9223372036854775807 → Calls Try.prog 8 #[.int .i64 (v + zs.getD i 0 % 2000 - 1000), .int .i64 (wrap64 (2 ^ N))] W fun e w' => e = .returned (.int .i64 (refAt N v zs i)) ∧ W = w') := fun i W h => by
    rw [wrap_ipow N hN2]; exact mod_any _ (2 ^ N) W pN (by omega) h.1 h.2
  have HRA : Hid (∀ i, 0 ≤ refAt N v zs i ∧ refAt N v zs i ≤ 4294967295) := fun i => by have := refAt_range N v zs i; exact ⟨this.1, by omega⟩
  have HRT := Lib.hid (fun i => plain N v (refTo N v zs i) hN ⟨hv0, hv1⟩ (refTo_range N v zs i))
  have v2 : v ≤ 4294967295 := by omega
  have B0 := Lib.hid ((Below.refl w.heap.size w).alloc (Nat.le_refl _) (.cells #[Value.int .i64 n0, Value.int .i64 n1] 36))
  have Hs := Lib.hid (hs.alloc (.cells #[Value.int .i64 n0, Value.int .i64 n1] 36))
  have HC : Hid ((w.alloc (.cells #[Value.int .i64 n0, Value.int .i64 n1] 36)).heap.size = w.heap.size + 1) := by show _ = _; simp
  have HL := hs.len
  have HBX : Hid (∀ w', Below (w.heap.size + 1) (w.alloc (.cells #[Value.int .i64 n0, Value.int .i64 n1] 36)) w' → w'.cell? ⟨w.heap.size, 1, none⟩ = some (.int .i64 n1)) := fun w' hb => by
    rw [World.cell?_of_block (hb.block w.heap.size (by omega)), World.cell?_alloc_at _ _ _ _ rfl]; rfl
  clear hs pN pN2 hv1
  by_cases hn : n ≤ 60
  · go_enter Try.func5, Try.ntmps5
    go_wp2_with fail
    refine (M0.out _).mono ?_
    rintro e w' ⟨rfl, rfl⟩
    go_wp2_with fail
    refine (M1.out _).mono ?_
    rintro e w' ⟨rfl, rfl⟩
    go_wp2_with fail
    go_loopw [9, 10] (fun r k wr => ∃ (j : Nat) (ao : Option Addr) (co : Nat), j ≤ n ∧ k = .int .i64 j ∧ r = .slice ao j co ∧ Mk .i64 3 (w.heap.size + 1) wr (.slice ao j co) j (refTo N v zs j) ∧ Below (w.heap.size + 1) (w.alloc (.cells #[Value.int .i64 n0, Value.int .i64 n1] 36)) wr) (fun _ k _ => n - (intOf k).toNat)
    case atStart => exact ⟨0, none, 0, by omega, by simp, rfl, Mk.nil _ _ _ _, Below.refl _ _⟩
    case round =>
      obtain ⟨j, ao, co, hj, rfl, rfl, hm, hb⟩ := hrel
      have Hm := Lib.hid hm
      have Hb := Lib.hid hb
      clear hm hb
      by_cases hlt : j < n
      · have Hs1 := Lib.hid (Hs.out.keep (by rw [HC.out]; exact Hb.out))
        obtain ⟨b, off, rfl⟩ := Hs.out.head (by omega)
        have hc := Hs1.out.at (i := j) (by omega)
        have hz := Hs.out.i64 j
        have z0 := Int.emod_nonneg (zs.getD j 0) (show (2000 : Int) ≠ 0 by omega)
        have z1 := Int.emod_lt_of_pos (zs.getD j 0) (show (0 : Int) < 2000 by omega)
        have M2j := Lib.hid (M2.out (zs.getD j 0) hz.1 hz.2)
        have M3j := Lib.hid (fun W => M3.out j W (by omega))
        have HF : Hid (refTo N v zs (j + 1) = refTo N v zs j ++ [refAt N v zs j]) := rfl
        have hra := HRA.out j
        generalize refAt N v zs j = q at HF M3j hra
        generalize zs.getD j 0 = z at hc hz z0 z1 M2j M3j
        have hbs : w.heap.size + 1 ≤ wr.heap.size := by have := Hb.out.size; simp at this; omega
        go_wp2_with (first
          | (go_at_call 8; (with_reducible refine (M2j.out _).mono ?_); rintro e w' ⟨rfl, rfl⟩)
          | (go_at_call 8; (with_reducible refine (M3j.out _).mono ?_); rintro e w' ⟨rfl, rfl⟩)
          | (at_builtin; refine wpList_push_mk rfl (.tmp 34) (.tmp 47) 23 rfl .i64 3 (w.heap.size + 1) 8 Try.underlying23 info_i (.slice ao j co) j (refTo N v zs j) rfl Hm.out q 3 (u32_wf hra) wr.heap.size rfl rfl (by omega) (by omega) hbs ?_; intro g c2 w2 hm2 hg2 hf2)
          | fail)
        go_roundw
        case rel => exact ⟨j + 1, some ⟨g, 0, none⟩, c2, by omega, by go_num, rfl, by rw [HF.out]; exact hm2, Hb.out.trans (Below.of_row hg2 (fun g h => (Hm.out.own_ge g h).1) hbs)⟩
        case measure => simp [intOf]; omega
      · obtain rfl : j = n := by omega
        have hlen := refTo_length N v zs j
        obtain ⟨K, hK, k3, kN, f1, f2, f3, f4, f5⟩ := HRT.out j
        generalize refTo N v zs j = rs at *
        have hlc := Hm.out.le_cap
        have hbs : w.heap.size + 1 ≤ wr.heap.size := by have := Hb.out.size; simp at this; omega
        have LL : Hid (∀ W, Sl .i64 W ao j rs → Calls Try.prog 16 #[.int .i64 N, .slice ao j co, .int .i64 v] W fun e w' => e = .returned (.int .i64 K) ∧ W = w') := fun W h => by
          rw [← hK]; exact lsLeast_any N v ao j co rs W h
        have FN : Hid (∀ (J : Nat) W, K ≤ J → J ≤ N → Sl .i64 W ao j rs → Calls Try.prog 14 #[.int .i64 N, .slice ao j co, .int .i64 J, .int .i64 v] W fun e w' => e = .returned (.bool true) ∧ W = w') := fun J W h1 h2 h => by
          rw [← f3 J h1 h2]; exact lsFits_any N J v ao j co rs W h
        have FK : Hid (4 ≤ K → ∀ W, Sl .i64 W ao j rs → Calls Try.prog 14 #[.int .i64 N, .slice ao j co, .int .i64 ((K : Int) - 1), .int .i64 v] W fun e w' => e = .returned (.bool false) ∧ W = w') := fun h4 W h => by
          rw [← f2 h4]; exact lsFits_any N ((K : Int) - 1) v ao j co rs W h
        have LT : Hid (∀ (T : Nat) W ct, T ≤ j → Sl .i64 W ao j rs → Calls Try.prog 16 #[.int .i64 N, .slice ao T ct, .int .i64 v] W fun e w' => (∃ y : Int, y ≤ K ∧ e = .returned (.int .i64 y)) ∧ W = w') := fun T W ct hT h =>
          (lsLeast_any N v ao T ct (rs.take T) W (h.take hT)).mono fun e w' h2 => ⟨⟨_, f5 T, h2.1⟩, h2.2⟩
        have F4 : Hid (j = 0 → K = 3) := fun h0 => f4 (List.eq_nil_of_length_eq_zero (by omega))
        clear f1 f2 f3 f4 f5 hK hlen
        go_wp2_with fail
        refine (LL.out _ Hm.out.sl).mono ?_
        rintro e w' ⟨rfl, rfl⟩
        go_wp2_with fail
        refine (awake07_any _).mono ?_
        rintro e w6 ⟨rfl, hb6⟩
        have S6 := Lib.hid (Hm.out.sl.keep hb6)
        have B6 := Lib.hid (Hb.out.trans (hb6.mono hbs))
        have hbox := HBX.out _ B6.out
        have BF := Lib.hid (B0.out.trans (B6.out.mono (by omega)))
        clear hb6
        by_cases k4 : 4 ≤ K
        · have FK1 := Lib.hid (FK.out k4)
          have e1 : decide (N < K) = false := decide_eq_false (by omega)
          have e2 : decide ((K : Int) < 3) = false := decide_eq_false (by omega)
          go_wp2_with (first
            | (go_at_call 14; (with_reducible refine (FN.out N _ kN (Nat.le_refl _) S6.out).mono ?_); rintro e w' ⟨rfl, rfl⟩)
            | (go_at_call 14; (with_reducible refine (FK1.out _ S6.out).mono ?_); rintro e w' ⟨rfl, rfl⟩)
            | fail)
          have HkN := Lib.hid kN
          clear kN
          go_loop [12] (fun q => ∃ J : Nat, K ≤ J ∧ J ≤ N + 1 ∧ q = .int .i64 J) (fun q => N + 1 - (intOf q).toNat)
          case atStart => exact ⟨K, by omega, by have := HkN.out; omega, by simp⟩
          case round =>
            obtain ⟨J, hJ1, hJ2, rfl⟩ := hrel
            by_cases hJ : J ≤ N
            · have FJ := Lib.hid (fun W h => FN.out J W hJ1 hJ h)
              have HJ := Lib.hid hJ1
              clear hJ1
              go_wp2_with (first
                | (go_at_call 14; (with_reducible refine (FJ.out _ S6.out).mono ?_); rintro e w' ⟨rfl, rfl⟩)
                | fail)
              go_round
              case rel => exact ⟨J + 1, Nat.le_succ_of_le HJ.out, by omega, by go_num⟩
              case measure => simp [intOf]; omega
            · obtain rfl : J = N + 1 := by omega
              by_cases hz : j = 0
              · have K3 := F4.out hz
                omega
              · obtain ⟨g, rfl⟩ := Hm.out.head0 (by omega)
                obtain ⟨T, HT, hT1⟩ : ∃ T : Nat, Hid (n1 % (j : Int) = (T : Int)) ∧ T < j := ⟨(n1 % (j : Int)).toNat, by have := Int.emod_nonneg n1 (show (j : Int) ≠ 0 by omega); show _ = _; omega, by have := Int.emod_nonneg n1 (show (j : Int) ≠ 0 by omega); have := Int.emod_lt_of_pos n1 (show (0 : Int) < (j : Int) by omega); omega⟩
                go_wp2_with (first
                  | (go_at_call 8; refine (mod_any _ _ _ (by omega) (by omega) b3.1 b3.2).mono ?_; rintro e w' ⟨rfl, rfl⟩; rw [HT.out])
                  | (go_at_call 16; refine (LT.out T _ _ (by omega) S6.out).mono ?_; rintro e w' ⟨⟨y, hy, rfl⟩, rfl⟩)
                  | fail)
                go_ret
                exact ⟨ret_bool (by first | rfl | exact decide_eq_true hy), BF.out⟩
        · obtain rfl : K = 3 := by omega
          go_wp2_with (first
            | (go_at_call 14; (with_reducible refine (FN.out N _ kN (Nat.le_refl _) S6.out).mono ?_); rintro e w' ⟨rfl, rfl⟩)
            | fail)
          have HkN := Lib.hid kN
          go_loop [12] (fun q => ∃ J : Nat, 3 ≤ J ∧ J ≤ N + 1 ∧ q = .int .i64 J) (fun q => N + 1 - (intOf q).toNat)
          case atStart => exact ⟨3, by omega, by have := HkN.out; omega, by simp⟩
          case round =>
            obtain ⟨J, hJ1, hJ2, rfl⟩ := hrel
            by_cases hJ : J ≤ N
            · have FJ := Lib.hid (fun W h => FN.out J W hJ1 hJ h)
              have HJ := Lib.hid hJ1
              clear hJ1
              go_wp2_with (first
                | (go_at_call 14; (with_reducible refine (FJ.out _ S6.out).mono ?_); rintro e w' ⟨rfl, rfl⟩)
                | fail)
              go_round
              case rel => exact ⟨J + 1, Nat.le_succ_of_le HJ.out, by omega, by go_num⟩
              case measure => simp [intOf]; omega
            · obtain rfl : J = N + 1 := by omega
              by_cases hz : j = 0
              · have K3 := F4.out hz
                subst hz
                go_wp2
                go_ret
                exact ⟨rfl, BF.out⟩
              · obtain ⟨g, rfl⟩ := Hm.out.head0 (by omega)
                obtain ⟨T, HT, hT1⟩ : ∃ T : Nat, Hid (n1 % (j : Int) = (T : Int)) ∧ T < j := ⟨(n1 % (j : Int)).toNat, by have := Int.emod_nonneg n1 (show (j : Int) ≠ 0 by omega); show _ = _; omega, by have := Int.emod_nonneg n1 (show (j : Int) ≠ 0 by omega); have := Int.emod_lt_of_pos n1 (show (0 : Int) < (j : Int) by omega); omega⟩
                go_wp2_with (first
                  | (go_at_call 8; refine (mod_any _ _ _ (by omega) (by omega) b3.1 b3.2).mono ?_; rintro e w' ⟨rfl, rfl⟩; rw [HT.out])
                  | (go_at_call 16; refine (LT.out T _ _ (by omega) S6.out).mono ?_; rintro e w' ⟨⟨y, hy, rfl⟩, rfl⟩)
                  | fail)
                go_ret
                exact ⟨ret_bool (by first | rfl | exact decide_eq_true hy), BF.out⟩
  · have hn2 : 60 < n := by omega
    obtain ⟨b, off, rfl⟩ := Hs.out.head (by omega)
    go_enter Try.func5, Try.ntmps5
    go_wp2_with fail
    refine (M0.out _).mono ?_
    rintro e w' ⟨rfl, rfl⟩
    go_wp2_with fail
    refine (M1.out _).mono ?_
    rintro e w' ⟨rfl, rfl⟩
    go_wp2_with fail
    go_loopw [9, 10] (fun r k wr => ∃ (j : Nat) (ao : Option Addr) (co : Nat), j ≤ 60 ∧ k = .int .i64 j ∧ r = .slice ao j co ∧ Mk .i64 3 (w.heap.size + 1) wr (.slice ao j co) j (refTo N v zs j) ∧ Below (w.heap.size + 1) (w.alloc (.cells #[Value.int .i64 n0, Value.int .i64 n1] 36)) wr) (fun _ k _ => 60 - (intOf k).toNat)
    case atStart => exact ⟨0, none, 0, by omega, by simp, rfl, Mk.nil _ _ _ _, Below.refl _ _⟩
    case round =>
      obtain ⟨j, ao, co, hj, rfl, rfl, hm, hb⟩ := hrel
      have Hm := Lib.hid hm
      have Hb := Lib.hid hb
      clear hm hb
      by_cases hlt : j < 60
      · have Hs1 := Lib.hid (Hs.out.keep (by rw [HC.out]; exact Hb.out))
        skip
        have hc := Hs1.out.at (i := j) (by omega)
        have hz := Hs.out.i64 j
        have z0 := Int.emod_nonneg (zs.getD j 0) (show (2000 : Int) ≠ 0 by omega)
        have z1 := Int.emod_lt_of_pos (zs.getD j 0) (show (0 : Int) < 2000 by omega)
        have M2j := Lib.hid (M2.out (zs.getD j 0) hz.1 hz.2)
        have M3j := Lib.hid (fun W => M3.out j W (by omega))
        have HF : Hid (refTo N v zs (j + 1) = refTo N v zs j ++ [refAt N v zs j]) := rfl
        have hra := HRA.out j
        generalize refAt N v zs j = q at HF M3j hra
        generalize zs.getD j 0 = z at hc hz z0 z1 M2j M3j
        have hbs : w.heap.size + 1 ≤ wr.heap.size := by have := Hb.out.size; simp at this; omega
        go_wp2_with (first
          | (go_at_call 8; (with_reducible refine (M2j.out _).mono ?_); rintro e w' ⟨rfl, rfl⟩)
          | (go_at_call 8; (with_reducible refine (M3j.out _).mono ?_); rintro e w' ⟨rfl, rfl⟩)
          | (at_builtin; refine wpList_push_mk rfl (.tmp 34) (.tmp 47) 23 rfl .i64 3 (w.heap.size + 1) 8 Try.underlying23 info_i (.slice ao j co) j (refTo N v zs j) rfl Hm.out q 3 (u32_wf hra) wr.heap.size rfl rfl (by omega) (by omega) hbs ?_; intro g c2 w2 hm2 hg2 hf2)
          | fail)
        go_roundw
        case rel => exact ⟨j + 1, some ⟨g, 0, none⟩, c2, by omega, by go_num, rfl, by rw [HF.out]; exact hm2, Hb.out.trans (Below.of_row hg2 (fun g h => (Hm.out.own_ge g h).1) hbs)⟩
        case measure => simp [intOf]; omega
      · obtain rfl : j = 60 := by omega
        have hlen := refTo_length N v zs 60
        obtain ⟨K, hK, k3, kN, f1, f2, f3, f4, f5⟩ := HRT.out 60
        generalize refTo N v zs 60 = rs at *
        have hlc := Hm.out.le_cap
        have hbs : w.heap.size + 1 ≤ wr.heap.size := by have := Hb.out.size; simp at this; omega
        have LL : Hid (∀ W, Sl .i64 W ao 60 rs → Calls Try.prog 16 #[.int .i64 N, .slice ao 60 co, .int .i64 v] W fun e w' => e = .returned (.int .i64 K) ∧ W = w') := fun W h => by
          rw [← hK]; exact lsLeast_any N v ao 60 co rs W h
        have FN : Hid (∀ (J : Nat) W, K ≤ J → J ≤ N → Sl .i64 W ao 60 rs → Calls Try.prog 14 #[.int .i64 N, .slice ao 60 co, .int .i64 J, .int .i64 v] W fun e w' => e = .returned (.bool true) ∧ W = w') := fun J W h1 h2 h => by
          rw [← f3 J h1 h2]; exact lsFits_any N J v ao 60 co rs W h
        have FK : Hid (4 ≤ K → ∀ W, Sl .i64 W ao 60 rs → Calls Try.prog 14 #[.int .i64 N, .slice ao 60 co, .int .i64 ((K : Int) - 1), .int .i64 v] W fun e w' => e = .returned (.bool false) ∧ W = w') := fun h4 W h => by
          rw [← f2 h4]; exact lsFits_any N ((K : Int) - 1) v ao 60 co rs W h
        have LT : Hid (∀ (T : Nat) W ct, T ≤ 60 → Sl .i64 W ao 60 rs → Calls Try.prog 16 #[.int .i64 N, .slice ao T ct, .int .i64 v] W fun e w' => (∃ y : Int, y ≤ K ∧ e = .returned (.int .i64 y)) ∧ W = w') := fun T W ct hT h =>
          (lsLeast_any N v ao T ct (rs.take T) W (h.take hT)).mono fun e w' h2 => ⟨⟨_, f5 T, h2.1⟩, h2.2⟩
        have F4 : Hid (60 = 0 → K = 3) := fun h0 => f4 (List.eq_nil_of_length_eq_zero (by omega))
        clear f1 f2 f3 f4 f5 hK hlen
        go_wp2_with fail
        refine (LL.out _ Hm.out.sl).mono ?_
        rintro e w' ⟨rfl, rfl⟩
        go_wp2_with fail
        refine (awake07_any _).mono ?_
        rintro e w6 ⟨rfl, hb6⟩
        have S6 := Lib.hid (Hm.out.sl.keep hb6)
        have B6 := Lib.hid (Hb.out.trans (hb6.mono hbs))
        have hbox := HBX.out _ B6.out
        have BF := Lib.hid (B0.out.trans (B6.out.mono (by omega)))
        clear hb6
        by_cases k4 : 4 ≤ K
        · have FK1 := Lib.hid (FK.out k4)
          have e1 : decide (N < K) = false := decide_eq_false (by omega)
          have e2 : decide ((K : Int) < 3) = false := decide_eq_false (by omega)
          go_wp2_with (first
            | (go_at_call 14; (with_reducible refine (FN.out N _ kN (Nat.le_refl _) S6.out).mono ?_); rintro e w' ⟨rfl, rfl⟩)
            | (go_at_call 14; (with_reducible refine (FK1.out _ S6.out).mono ?_); rintro e w' ⟨rfl, rfl⟩)
            | fail)
          have HkN := Lib.hid kN
          clear kN
          go_loop [12] (fun q => ∃ J : Nat, K ≤ J ∧ J ≤ N + 1 ∧ q = .int .i64 J) (fun q => N + 1 - (intOf q).toNat)
          case atStart => exact ⟨K, by omega, by have := HkN.out; omega, by simp⟩
          case round =>
            obtain ⟨J, hJ1, hJ2, rfl⟩ := hrel
            by_cases hJ : J ≤ N
            · have FJ := Lib.hid (fun W h => FN.out J W hJ1 hJ h)
              have HJ := Lib.hid hJ1
              clear hJ1
              go_wp2_with (first
                | (go_at_call 14; (with_reducible refine (FJ.out _ S6.out).mono ?_); rintro e w' ⟨rfl, rfl⟩)
                | fail)
              go_round
              case rel => exact ⟨J + 1, Nat.le_succ_of_le HJ.out, by omega, by go_num⟩
              case measure => simp [intOf]; omega
            · obtain rfl : J = N + 1 := by omega
              obtain ⟨g, rfl⟩ := Hm.out.head0 (by omega)
              obtain ⟨T, HT, hT1⟩ : ∃ T : Nat, Hid (n1 % (60 : Int) = (T : Int)) ∧ T < 60 := ⟨(n1 % (60 : Int)).toNat, by have := Int.emod_nonneg n1 (show (60 : Int) ≠ 0 by omega); show _ = _; omega, by have := Int.emod_nonneg n1 (show (60 : Int) ≠ 0 by omega); have := Int.emod_lt_of_pos n1 (show (0 : Int) < (60 : Int) by omega); omega⟩
              go_wp2_with (first
                | (go_at_call 8; refine (mod_any _ _ _ (by omega) (by omega) b3.1 b3.2).mono ?_; rintro e w' ⟨rfl, rfl⟩; rw [HT.out])
                | (go_at_call 16; refine (LT.out T _ _ (by omega) S6.out).mono ?_; rintro e w' ⟨⟨y, hy, rfl⟩, rfl⟩)
                | fail)
              go_ret
              exact ⟨ret_bool (by first | rfl | exact decide_eq_true hy), BF.out⟩
        · obtain rfl : K = 3 := by omega
          go_wp2_with (first
            | (go_at_call 14; (with_reducible refine (FN.out N _ kN (Nat.le_refl _) S6.out).mono ?_); rintro e w' ⟨rfl, rfl⟩)
            | fail)
          have HkN := Lib.hid kN
          go_loop [12] (fun q => ∃ J : Nat, 3 ≤ J ∧ J ≤ N + 1 ∧ q = .int .i64 J) (fun q => N + 1 - (intOf q).toNat)
          case atStart => exact ⟨3, by omega, by have := HkN.out; omega, by simp⟩
          case round =>
            obtain ⟨J, hJ1, hJ2, rfl⟩ := hrel
            by_cases hJ : J ≤ N
            · have FJ := Lib.hid (fun W h => FN.out J W hJ1 hJ h)
              have HJ := Lib.hid hJ1
              clear hJ1
              go_wp2_with (first
                | (go_at_call 14; (with_reducible refine (FJ.out _ S6.out).mono ?_); rintro e w' ⟨rfl, rfl⟩)
                | fail)
              go_round
              case rel => exact ⟨J + 1, Nat.le_succ_of_le HJ.out, by omega, by go_num⟩
              case measure => simp [intOf]; omega
            · obtain rfl : J = N + 1 := by omega
              obtain ⟨g, rfl⟩ := Hm.out.head0 (by omega)
              obtain ⟨T, HT, hT1⟩ : ∃ T : Nat, Hid (n1 % (60 : Int) = (T : Int)) ∧ T < 60 := ⟨(n1 % (60 : Int)).toNat, by have := Int.emod_nonneg n1 (show (60 : Int) ≠ 0 by omega); show _ = _; omega, by have := Int.emod_nonneg n1 (show (60 : Int) ≠ 0 by omega); have := Int.emod_lt_of_pos n1 (show (0 : Int) < (60 : Int) by omega); omega⟩
              go_wp2_with (first
                | (go_at_call 8; refine (mod_any _ _ _ (by omega) (by omega) b3.1 b3.2).mono ?_; rintro e w' ⟨rfl, rfl⟩; rw [HT.out])
                | (go_at_call 16; refine (LT.out T _ _ (by omega) S6.out).mono ?_; rintro e w' ⟨⟨y, hy, rfl⟩, rfl⟩)
                | fail)
              go_ret
              exact ⟨ret_bool (by first | rfl | exact decide_eq_true hy), BF.out⟩

theorem walk (w : World) (x : Int) (b0 : -9223372036854775808 ≤ x ∧ x ≤ 9223372036854775807) (a : Option Addr) (n cap : Nat) (zs : List Int) (hs : Sl .i64 w a n zs) (hcap : n ≤ cap) (ys : List Int) (hl : ys.length = 2) (hw : ∀ z ∈ ys, (Lit.int .i64 z).wf = true) :
    Calls Try.prog 5 #[.int .i64 x, .slice a n cap, .agg (ys.map (Value.int .i64)).toArray] w fun e w' => e = .returned (.bool true) ∧ Below w.heap.size w w' := by
  match ys, hl, hw with
  | [x0, x1], _, hw => exact walk2 w x b0 a n cap zs hs hcap x0 x1 (wf_i64 (hw x0 (by simp))) (wf_i64 (hw x1 (by simp)))

theorem own : ownKnob Try.prog.godebug = none := by kernel_rfl
theorem laidOut : laidOutB Try.prog = true := by kernel_rfl
theorem read_int : Try.prog.readableRec 3 = true := by kernel_rfl
theorem read_ints : Try.prog.readableRec 23 = true := by kernel_rfl
theorem read_arr2 : Try.prog.readableRec 36 = true := by kernel_rfl
theorem cells_i : Try.prog.cellsOf 3 = 1 := by kernel_rfl
theorem bytes_i : Try.prog.bytesOf 3 = 8 := by kernel_rfl
theorem cells_a2 : Try.prog.cellsOf 36 = 2 := by kernel_rfl
theorem lt_int : 3 < Try.prog.types.size := of_decide_eq_true (by kernel_rfl)
theorem lt_ints : 23 < Try.prog.types.size := of_decide_eq_true (by kernel_rfl)
theorem lt_arr2 : 36 < Try.prog.types.size := of_decide_eq_true (by kernel_rfl)

set_option maxRecDepth 100000 in
theorem lifted (os : Os) (started : os.Started) (H : Type) (enc : TypeId × Value → H) :
    ReturnsInHanded {} Try.checked os 5 .any (Rows.lsbMonotoneSpec.pre6 enc Try.prog Try.f5 Rows.lsbMonotoneRow.domain false) (Rows.lsbMonotoneSpec.post enc Try.prog Try.f5 false true false false) := by
  refine law_lifted (C := Try.checked) (rt := 4) [3, 23, 36] own started (by kernel_rfl) Try.func5 laidOut (by rw [Try.params5])
    (fun t ht => by simp only [List.mem_cons, List.not_mem_nil, or_false] at ht; rcases ht with rfl | rfl | rfl <;> first | exact ⟨read_int, lt_int⟩ | exact ⟨read_ints, lt_ints⟩ | exact ⟨read_arr2, lt_arr2⟩) rfl Try.underlying4 rfl
    (fun ds h => by match ds, h with | [d0, d1, d2], _ => rfl)
    (ChangeSpec.witness6 (enc := enc) (C := Try.checked) false ⟨#[], #[.int .i64 0, .slice none 0 0, .agg #[.int .i64 0, .int .i64 0]], []⟩ 8 (by kernel_rfl) (by kernel_rfl) (by kernel_rfl) (by kernel_rfl)) ?_
  intro W base args ds p hval hA hsz
  obtain ⟨v0, vs0, d0, ds0, p0, q0, hargs, rfl, rfl, h0, r0⟩ := trodAll_cons hA
  obtain ⟨v1, vs1, d1, ds1, p1, q1, rfl, rfl, rfl, h1, r1⟩ := trodAll_cons r0
  obtain ⟨v2, vs2, d2, ds2, p2, q2, rfl, rfl, rfl, h2, r2⟩ := trodAll_cons r1
  obtain ⟨rfl, rfl, rfl⟩ := trodAll_nil r2
  obtain rfl : args = #[v0, v1, v2] := by cases args; simp_all
  obtain ⟨x0, rfl, b0⟩ := open_i64 Try.underlying3 (hval 0 _ v0 rfl rfl) h0
  obtain ⟨a1, n1, c1, z1, rfl, s1, nn1⟩ := open_slr Try.underlying23 Try.underlying3 cells_i (by rw [bytes_i]; omega) (hval 1 _ v1 rfl rfl) h1 (fun el spa hd => sized_slice hsz (j := 1) rfl (by rw [hd]; rfl) Try.underlying23)
  obtain ⟨y2, rfl, l2, w2⟩ := open_arr Try.underlying36 Try.underlying3 cells_i cells_a2 (hval 2 _ v2 rfl rfl) h2
  exact walk W x0 b0 a1 n1 c1 z1 s1 nn1.2.1 y2 l2 w2

/-- THE STATEMENT -/
theorem proved : Rows.LsbMonotoneSaid :=
  OpenClaim.holds_of_wide 5 Try.f5 rfl rfl rfl rfl rfl rfl rfl ⟨rfl, rfl, rfl, rfl, rfl⟩ rfl rfl rfl rfl rfl (by kernel_rfl) Try.func5 (by kernel_rfl)
    (of_decide_eq_true (by kernel_rfl)) (by unfold Func.isWrapper; first | (rw [if_pos (by decide +kernel)]; kernel_rfl) | (rw [if_neg (by decide +kernel)]; exact ⟨rfl, rfl⟩))
    (fun os started H enc _ => lifted os started H enc)
#print axioms proved
end Go.Proofs.Ytlpnpecohndpbaa.lsbMonotone
