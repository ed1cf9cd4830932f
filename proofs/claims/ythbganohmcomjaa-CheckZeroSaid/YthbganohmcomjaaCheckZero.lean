/-
  Proved: the Go function CheckZero, called with any number, bytes and number, returns true and leaves its arguments as they were (bytes that are followed by their check value lead to the register 0, and no other bytes in its place do).
  Conditions: none beyond those of the given row.
-/
import Derived.Test.YthbganohmcomjaaChkBurst
import Derived.Test.YthbganohmcomjaaChkAwake
import Derived.Test.YthbganohmcomjaaLift
import Derived.Test.YthbganohmcomjaaRows
namespace Go.Proofs.Ythbganohmcomjaa.checkZero
open Go Go.RowKit Go.ChangeShapes Go.WideShapes Go.ChangeAt

theorem info_b : (Try.prog.info? 5).map (fun i => (i.zero, i.size, i.bytes)) = some (some (.int .u8 0), 1, 1) := by kernel_rfl

theorem nat_mod (x m : Int) (hm : 1 ≤ m) : ∃ A : Nat, (A : Int) = x % m ∧ (A : Int) < m := by
  have := Int.emod_nonneg x (show m ≠ 0 by omega)
  have := Int.emod_lt_of_pos x (show (0 : Int) < m by omega)
  exact ⟨(x % m).toNat, by omega, by omega⟩

/-- the bytes of a number of K bits, from the top -/
def byts (K v t : Nat) : List Int := (List.range t).map fun s => ((v / 2 ^ (K - 8 * (s + 1)) % 256 : Nat) : Int)
theorem byts_succ (K v t : Nat) : byts K v (t + 1) = byts K v t ++ [((v / 2 ^ (K - 8 * (t + 1)) % 256 : Nat) : Int)] := by
  unfold byts; rw [List.range_succ, List.map_append]; rfl
theorem byts_len (K v t : Nat) : (byts K v t).length = t := by unfold byts; simp
theorem byts_bit (K v M i : Nat) (hK : K = 8 * M) (hi : i < K) : bitOf (byts K v M) i = v.testBit (K - 1 - i) := by
  unfold bitOf byts
  rw [List.getD_eq_getElem?_getD, List.getElem?_map, List.getElem?_range (by omega)]
  simp only [Option.map_some, Option.getD_some, Int.toNat_natCast]
  rw [show 256 = 2 ^ 8 from rfl, Nat.testBit_mod_two_pow, Nat.testBit_div_two_pow]
  rw [decide_eq_true (by omega), show 7 - i % 8 + (K - 8 * (i / 8 + 1)) = K - 1 - i by omega]
  rfl
theorem zero_law {K P r M : Nat} (hk : Kd K P) (hr : r < 2 ^ K) (hK : K = 8 * M) (zs : List Int) (v : Nat) (hv : v < 2 ^ K) : regOf K P r (zs ++ byts K v M) = 0 ↔ v = regOf K P r zs := by
  rw [regOf_append, show regOf K P (regOf K P r zs) (byts K v M) = regs K P (regOf K P r zs) (bitOf (byts K v M)) K by unfold regOf; rw [byts_len, ← hK]]
  exact own_zero hk.one hk.odd hk.lt (regOf_lt hk.lt hr zs) v hv _ fun i hi => byts_bit K v M i hK hi

theorem sel_run (y : Int) (h0 : 0 ≤ y) (h1 : y < 3) : ∃ M : Nat, 1 ≤ M ∧ M ≤ 3 ∧ ∀ W, Sem.run Try.prog (Instr.index 35 (.agg #[.int .i64 8, .int .i64 16, .int .i64 24]) (.int .i64 y)) W = .ok (.int .i64 ((8 * M : Nat) : Int)) W := by
  rcases (show y = 0 ∨ y = 1 ∨ y = 2 by omega) with rfl | rfl | rfl
  · exact ⟨1, by omega, by omega, fun W => by kernel_rfl⟩
  · exact ⟨2, by omega, by omega, fun W => by kernel_rfl⟩
  · exact ⟨3, by omega, by omega, fun W => by kernel_rfl⟩

set_option maxRecDepth 100000 in
set_option maxHeartbeats 3200000 in
theorem walk (w : World) (k : Int) (b0 : -9223372036854775808 ≤ k ∧ k ≤ 9223372036854775807) (a : Option Addr) (n cap : Nat) (zs : List Int) (hs : Sl .u8 w a n zs) (hca : a = none → cap = 0)
    (x : Int) (b1 : -9223372036854775808 ≤ x ∧ x ≤ 9223372036854775807) :
    Calls Try.prog 7 #[.int .i64 k, .slice a n cap, .int .i64 x] w fun e w' => e = .returned (.bool true) ∧ Below w.heap.size w w' := by
  have hr := hs.reach
  have Hs := Lib.hid hs
  clear hs
  by_cases hn : n ≤ 1000
  · have m0 := Int.emod_nonneg k (show (3 : Int) ≠ 0 by omega)
    have m1 := Int.emod_lt_of_pos k (show (0 : Int) < 3 by omega)
    obtain ⟨M, hM1, hM3, hrun⟩ := sel_run (k % 3) m0 m1
    have C0 : Hid (∀ W, Calls Try.prog 14 #[.int .i64 k, .int .i64 3] W fun e w' => e = .returned (.int .i64 (k % 3)) ∧ W = w') := fun W => mod_any k 3 W (by omega) (by omega) b0.1 b0.2
    generalize k % 3 = y at m0 m1 hrun C0
    obtain ⟨P, hP⟩ := kd_of (8 * M) (by omega)
    have hKe : Hid (8 * M = 8 * M) := Lib.hid rfl
    generalize hK : 8 * M = K at hP hrun
    have HK := Lib.hid hK.symm
    have hk8 : 8 ≤ K := by omega
    have hk2 := hP.most
    have p24 := pw24 K hk2
    have p8 : 256 ≤ 2 ^ K := Nat.pow_le_pow_right (n := 2) (i := 8) (by decide) hk8
    obtain ⟨V, hV, hV2⟩ := nat_mod x ((2 : Int) ^ K - 1) (by rw [ipow_nat]; omega)
    have hVK : V + 1 < 2 ^ K := by rw [ipow_nat] at hV2; omega
    have C1 : Hid (∀ W, Calls Try.prog 14 #[.int .i64 x, .int .i64 (wrap64 (wrap64 (2 ^ K) - 1))] W fun e w' => e = .returned (.int .i64 V) ∧ W = w') := fun W => by
      rw [wrap_imask K (by omega), hV]; exact mod_any x _ W (by rw [ipow_nat]; omega) (by rw [ipow_nat]; omega) b1.1 b1.2
    have E1 := Lib.hid (sum_kd hP zs)
    have hA := regOf_lt hP.lt (show 2 ^ K - 1 < 2 ^ K by omega) zs
    have hW : bits .xor .i64 ((regOf K P (2 ^ K - 1) zs : Nat) : Int) (1 + (V : Int)) = ((regOf K P (2 ^ K - 1) zs ^^^ (V + 1) : Nat) : Int) := by
      rw [show 1 + (V : Int) = ((V + 1 : Nat) : Int) by omega]; exact i64_xor_nat _ _ (by omega) (by omega)
    have hWlt := Nat.xor_lt_two_pow hA hVK
    have hWne : regOf K P (2 ^ K - 1) zs ^^^ (V + 1) ≠ regOf K P (2 ^ K - 1) zs := fun h => by
      have := (xor_eq_zero _ _).2 h
      rw [Nat.xor_comm, ← Nat.xor_assoc, Nat.xor_self, Nat.zero_xor] at this
      omega
    have Z1 := Lib.hid (zero_law hP (show 2 ^ K - 1 < 2 ^ K by omega) hK.symm zs (regOf K P (2 ^ K - 1) zs) hA)
    have Z2 := Lib.hid (zero_law hP (show 2 ^ K - 1 < 2 ^ K by omega) hK.symm zs _ hWlt)
    have E2 := Lib.hid (fun v => sum_kd hP (zs ++ byts K v M))
    generalize regOf K P (2 ^ K - 1) zs = A at hA hW hWlt hWne Z1 Z2 E1
    generalize A ^^^ (V + 1) = A2 at hW hWlt hWne Z2
    have HNE := Lib.hid hWne
    have hA24 : A < 16777216 := by omega
    have hVb : V < 16777216 := by omega
    have hB24 : A2 < 16777216 := by omega
    have B0 := Lib.hid (Below.refl w.heap.size w)
    have HP := Lib.hid hP
    clear hV hV2 hVK p8 p24 hA hWlt hWne hK hP hKe
    go_enter Try.func7, Try.ntmps7
    go_wp2_with (first
      | (go_at_call 14; ((with_reducible refine (C0.out _).mono ?_); rintro e w' ⟨rfl, rfl⟩))
      | (go_at_call 14; ((with_reducible refine (C1.out _).mono ?_); rintro e w' ⟨rfl, rfl⟩))
      | (go_at_call 10; refine (Sum_b _ _ _ _ zs _ B0.out (Hs.out.keep B0.out) (by omega)).mono ?_; rw [E1.out.1, E1.out.2]; rintro e w1 ⟨rfl, hb, _⟩; replace B0 := Lib.hid hb; clear hb)
      | (go_at_call 8; refine (awake03_b _ B0.out).mono ?_; rintro e w2 ⟨rfl, hb⟩; replace B0 := Lib.hid hb; have hB2 := hb.size; clear hb)
      | (at_builtin; refine wpList_append_at rfl (.const (.slice none 0 0)) (.tmp 47) 22 rfl .u8 5 w.heap.size 1 Try.underlying22 info_b (.slice none 0 0) 0 [] rfl (Mk.nil .u8 5 _ _) a n cap zs rfl (Hs.out.keep B0.out) hca (by omega) (by omega) hB2 ?_; intro ao1 cap1 w3 hm hg hf hn1; rw [Nat.zero_add, List.nil_append] at hm; have M1 := Lib.hid hm; have B3 := Lib.hid (B0.out.trans (Below.of_row hg (fun g h => by cases h) hB2)); have hB3 : w.heap.size ≤ w3.heap.size := B3.out.size; clear hm hg hf hn1)
      | (at_builtin; refine wpList_append_at rfl (.const (.slice none 0 0)) (.tmp 49) 22 rfl .u8 5 w.heap.size 1 Try.underlying22 info_b (.slice none 0 0) 0 [] rfl (Mk.nil .u8 5 _ _) a n cap zs rfl (Hs.out.keep B3.out) hca (by omega) (by omega) hB3 ?_; intro ao2 cap2 w4 hm hg hf hn1; rw [Nat.zero_add, List.nil_append] at hm; rw [Nat.zero_add] at hf; have T4 := Lib.hid ((Two.mk M1.out (Mk.nil .u8 5 _ _) (fun _ _ h => by cases h)).push2 hm hg hf); have B4 := Lib.hid (B3.out.trans (Below.of_row hg (fun g h => by cases h) hB3)); clear hm hg hf hn1)
      | fail)
    clear hW
    go_loopw [11, 12, 13] (fun c1 c2 i wr => ∃ (t : Nat) (z : Int) (o1 o2 : Option Addr) (p1 p2 : Nat), t ≤ M ∧ z = (K : Int) - 8 * (t + 1) ∧ i = .int .i64 z ∧ c1 = .slice o1 (n + t) p1 ∧ c2 = .slice o2 (n + t) p2 ∧ Two .u8 .u8 5 5 w.heap.size wr (.slice o1 (n + t) p1) (n + t) (zs ++ byts K A t) (.slice o2 (n + t) p2) (n + t) (zs ++ byts K A2 t) ∧ Below w.heap.size w wr) (fun _ _ i _ => (intOf i + 8).toNat)
    case atStart => exact ⟨0, _, ao1, ao2, cap1, cap2, by omega, by omega, rfl, rfl, rfl, by simpa [byts] using T4.out, B4.out⟩
    case round =>
      obtain ⟨t, z, o1, o2, p1, p2, ht, hz, rfl, rfl, rfl, htw, hb⟩ := hrel
      have Ht := Lib.hid htw
      have Hb := Lib.hid hb
      have hsz := hb.size
      have hK := HK.out
      clear htw hb
      by_cases hlt : t < M
      · obtain ⟨I, rfl⟩ := Int.eq_ofNat_of_zero_le (show 0 ≤ z by omega)
        have hI : Hid (K - 8 * (t + 1) = I) := (by omega : K - 8 * (t + 1) = I)
        have hI0 : (0 : Int) ≤ (I : Int) := by omega
        have hI24 : I ≤ 24 := by omega
        have S1 := Lib.hid (byts_succ K A t)
        have S2 := Lib.hid (byts_succ K A2 t)
        rw [hI.out] at S1 S2
        have q1 : ((A / 2 ^ I % 256 : Nat) : Int) = (A : Int) / 2 ^ I % 256 := by simp
        have q2 : ((A2 / 2 ^ I % 256 : Nat) : Int) = (A2 : Int) / 2 ^ I % 256 := by simp
        rw [q1] at S1
        rw [q2] at S2
        have W1 : Hid ((Lit.int .u8 ((A : Int) / 2 ^ I % 256)).wf = true) := by rw [← q1]; exact Lib.hid (byte_wf (by omega) (by omega))
        have W2 : Hid ((Lit.int .u8 ((A2 : Int) / 2 ^ I % 256)).wf = true) := by rw [← q2]; exact Lib.hid (byte_wf (by omega) (by omega))
        have HZ := Lib.hid hz
        clear hz hK q1 q2
        go_wp2_with (first
          | (at_builtin; refine wpList_push_at rfl (.tmp 57) (.tmp 63) 22 rfl .u8 5 w.heap.size 1 Try.underlying22 info_b (.slice o1 (n + t) p1) (n + t) (zs ++ byts K A t) rfl (Ht.out.alloc _).m1 _ wr.heap.size 0 1 (Sl.one .u8 wr _ 5 W1.out) rfl (by omega) (by omega) (by simp; omega) ?_; intro g1 c1 w5 hm hg hf; rw [List.append_assoc, ← S1.out] at hm; have T5 := Lib.hid ((Ht.out.alloc _).push1 hm hg (fun g h => by cases h; rcases hf with h1 | h1; exact .inl h1; exact .inr (Nat.le_of_eq h1.symm))); have B5 := Lib.hid ((Hb.out.alloc hsz _).trans (Below.of_row hg (fun g h => (Ht.out.m1.own_ge g h).1) (by simp; omega))); have hB5 : w.heap.size ≤ w5.heap.size := B5.out.size; clear hm hg hf)
          | (at_builtin; refine wpList_push_at rfl (.tmp 65) (.tmp 71) 22 rfl .u8 5 w.heap.size 1 Try.underlying22 info_b (.slice o2 (n + t) p2) (n + t) (zs ++ byts K A2 t) rfl (T5.out.alloc _).m2 _ w5.heap.size 0 1 (Sl.one .u8 w5 _ 5 W2.out) rfl (by omega) (by omega) (by simp; omega) ?_; intro g2 c2 w6 hm hg hf; rw [List.append_assoc, ← S2.out] at hm; have T6 := Lib.hid ((T5.out.alloc _).push2 hm hg (fun g h => by cases h; rcases hf with h1 | h1; exact .inl h1; exact .inr (Nat.le_of_eq h1.symm))); have B6 := Lib.hid ((B5.out.alloc hB5 _).trans (Below.of_row hg (fun g h => (T5.out.m2.own_ge g h).1) (by simp; omega))); clear hm hg hf)
          | fail)
        go_roundw
        case rel =>
          have := HZ.out
          exact ⟨t + 1, _, some ⟨g1, 0, none⟩, some ⟨g2, 0, none⟩, c1, c2, by omega, by omega, rfl, rfl, rfl, T6.out, B6.out⟩
        case measure => simp [intOf]; omega
      · obtain rfl : t = M := by omega
        have hzn : z < 0 := by omega
        have F1 := Lib.hid (E2.out A)
        have F2 := Lib.hid (E2.out A2)
        have hR1 := Z1.out.2 trivial
        have hR2 : regOf K P (2 ^ K - 1) (zs ++ byts K A2 t) ≠ 0 := fun h => HNE.out (Z2.out.1 h)
        rw [hR1] at F1
        generalize zs ++ byts K A t = l1 at Ht F1
        generalize zs ++ byts K A2 t = l2 at Ht F2 hR2
        generalize regOf K P (2 ^ K - 1) l2 = q at F2 hR2
        have Hq : Hid (((q : Int) != 0) = true) := by simpa [Hid] using hR2
        clear hz hK hR1 hR2 Z1 Z2
        go_wp2_with fail
        refine (Sum_b _ _ _ _ l1 _ Hb.out Ht.out.m1.sl (by omega)).mono ?_
        rw [F1.out.1, F1.out.2]
        rintro e w7 ⟨rfl, hb, hl⟩
        have B7 := Lib.hid hb
        have T7 := Lib.hid (Ht.out.keep hl)
        clear hb hl
        go_wp2_with fail
        refine (Sum_b _ _ _ _ l2 _ B7.out T7.out.m2.sl (by omega)).mono ?_
        rw [F2.out.1, F2.out.2]
        rintro e w8 ⟨rfl, hb, _⟩
        have B8 := Lib.hid hb
        clear hb
        go_wp2
        go_ret
        exact ⟨ret_bool (by rw [Hq.out]), B8.out⟩
  · go_enter Try.func7, Try.ntmps7
    go_wp2_with (go_at_call 8; refine (awake03_any _).mono ?_; rintro e w' ⟨rfl, hb⟩)
    go_ret
    exact ⟨rfl, hb⟩

theorem own : ownKnob Try.prog.godebug = none := by kernel_rfl
theorem laidOut : laidOutB Try.prog = true := by kernel_rfl
theorem read_int : Try.prog.readableRec 3 = true := by kernel_rfl
theorem read_bytes : Try.prog.readableRec 22 = true := by kernel_rfl
theorem cells_b : Try.prog.cellsOf 5 = 1 := by kernel_rfl
theorem bytes_b : Try.prog.bytesOf 5 = 1 := by kernel_rfl
theorem lt_int : 3 < Try.prog.types.size := of_decide_eq_true (by kernel_rfl)
theorem lt_bytes : 22 < Try.prog.types.size := of_decide_eq_true (by kernel_rfl)

set_option maxRecDepth 100000 in
theorem lifted (os : Os) (started : os.Started) (H : Type) (enc : TypeId × Value → H) :
    ReturnsInHanded {} Try.checked os 7 .any (Rows.checkZeroSpec.pre6 enc Try.prog Try.f7 Rows.checkZeroRow.domain false) (Rows.checkZeroSpec.post enc Try.prog Try.f7 false true false false) := by
  refine law_lifted (C := Try.checked) (rt := 4) [3, 22, 3] own started (by kernel_rfl) Try.func7 laidOut (by rw [Try.params7])
    (fun t ht => by simp only [List.mem_cons, List.not_mem_nil, or_false] at ht; rcases ht with rfl | rfl | rfl <;> first | exact ⟨read_int, lt_int⟩ | exact ⟨read_bytes, lt_bytes⟩) rfl Try.underlying4 rfl
    (fun ds h => by match ds, h with | [d0, d1, d2], _ => rfl)
    (ChangeSpec.witness6 (enc := enc) (C := Try.checked) false ⟨#[], #[.int .i64 0, .slice none 0 0, .int .i64 0], []⟩ 8 (by kernel_rfl) (by kernel_rfl) (by kernel_rfl) (by kernel_rfl)) ?_
  intro W base args ds p hval hA hsz
  obtain ⟨v0, vs0, d0, ds0, p0, q0, hargs, rfl, rfl, h0, r0⟩ := trodAll_cons hA
  obtain ⟨v1, vs1, d1, ds1, p1, q1, rfl, rfl, rfl, h1, r1⟩ := trodAll_cons r0
  obtain ⟨v2, vs2, d2, ds2, p2, q2, rfl, rfl, rfl, h2, r2⟩ := trodAll_cons r1
  obtain ⟨rfl, rfl, rfl⟩ := trodAll_nil r2
  obtain rfl : args = #[v0, v1, v2] := by cases args; simp_all
  obtain ⟨x0, rfl, b0⟩ := open_i64 Try.underlying3 (hval 0 _ v0 rfl rfl) h0
  obtain ⟨a1, n1, c1, z1, rfl, s1, nn1⟩ := open_slc Try.underlying22 Try.underlying5 cells_b (by rw [bytes_b]; omega) (hval 1 _ v1 rfl rfl) h1 (fun el spa hd => sized_slice hsz (j := 1) rfl (by rw [hd]; rfl) Try.underlying22)
  obtain ⟨x2, rfl, b2⟩ := open_i64 Try.underlying3 (hval 2 _ v2 rfl rfl) h2
  exact walk W x0 b0 a1 n1 c1 z1 s1 nn1.1 x2 b2

/-- THE STATEMENT -/
theorem proved : Rows.CheckZeroSaid :=
  OpenClaim.holds_of_wide 7 Try.f7 rfl rfl rfl rfl rfl rfl rfl ⟨rfl, rfl, rfl, rfl, rfl⟩ rfl rfl rfl rfl rfl (by kernel_rfl) Try.func7 (by kernel_rfl)
    (of_decide_eq_true (by kernel_rfl)) (by unfold Func.isWrapper; first | (rw [if_pos (by decide +kernel)]; kernel_rfl) | (rw [if_neg (by decide +kernel)]; exact ⟨rfl, rfl⟩))
    (fun os started H enc _ => lifted os started H enc)
#print axioms proved
end Go.Proofs.Ythbganohmcomjaa.checkZero
