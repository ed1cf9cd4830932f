/-
  Proved: the Go function CheckGoesOn, called with any number and any two strings of bytes, returns true and leaves its arguments as they were (the register behind both strings is that behind the first one and then the second one).
  Conditions: none beyond those of the given row.
-/
import Derived.Test.YthbganohmcomjaaChkAwake
import Derived.Test.YthbganohmcomjaaLift
import Derived.Test.YthbganohmcomjaaRows
namespace Go.Proofs.Ythbganohmcomjaa.checkGoesOn
open Go Go.RowKit Go.ChangeShapes Go.WideShapes Go.ChangeAt

theorem info_b : (Try.prog.info? 5).map (fun i => (i.zero, i.size, i.bytes)) = some (some (.int .u8 0), 1, 1) := by kernel_rfl

set_option maxRecDepth 100000 in
set_option maxHeartbeats 1600000 in
theorem walk (w : World) (k : Int) (b0 : -9223372036854775808 ≤ k ∧ k ≤ 9223372036854775807) (a : Option Addr) (n cap : Nat) (xs : List Int) (hs : Sl .u8 w a n xs) (hca : a = none → cap = 0) (a2 : Option Addr) (m cap2 : Nat) (ys : List Int) (hs2 : Sl .u8 w a2 m ys) (hca2 : a2 = none → cap2 = 0) :
    Calls Try.prog 4 #[.int .i64 k, .slice a n cap, .slice a2 m cap2] w fun e w' => e = .returned (.bool true) ∧ Below w.heap.size w w' := by
  have hr := hs.reach
  have hr2 := hs2.reach
  have Hs := Lib.hid hs
  have Hs2 := Lib.hid hs2
  clear hs hs2
  by_cases hn : n + m ≤ 2000
  · obtain ⟨P, hP⟩ := widN_kd k
    have C := Lib.hid (fun W => width_any k W b0)
    generalize widN k = K at hP C
    have hk2 := hP.most
    have hlt := Nat.two_pow_pos K
    have hlt2 := pw24 K hk2
    have E1 := Lib.hid (sum_kd hP (xs ++ ys))
    have E2 := Lib.hid (sum_kd hP xs)
    have E3 := Lib.hid (next_kd hP (regOf_lt hP.lt (show 2 ^ K - 1 < 2 ^ K by omega) xs) ys)
    have E4 := Lib.hid (regOf_append K P (2 ^ K - 1) xs ys)
    clear hP hlt hlt2
    have hB : w.heap.size ≤ w.heap.size := Nat.le_refl _
    go_enter Try.func4, Try.ntmps4
    go_wp2_with (first
      | (go_at_call 9; refine (C.out _).mono ?_; rintro e w' ⟨rfl, rfl⟩)
      | (at_builtin; refine wpList_append_mk rfl (.const (.slice none 0 0)) _ 22 rfl .u8 5 w.heap.size 1 Try.underlying22 info_b (.slice none 0 0) 0 [] rfl (Mk.nil .u8 5 _ w) a n cap xs rfl Hs.out hca (by omega) (by omega) hB ?_; intro ao1 cap1 w1 hm1 hb1 hn1; have B1 := Lib.hid hb1; have S2 := Lib.hid (Hs2.out.keep hb1); have hB1 : w.heap.size ≤ w1.heap.size := hb1.size; rw [Nat.zero_add, List.nil_append] at hm1; have M1 := Lib.hid hm1; clear hb1 hm1 hn1)
      | (at_builtin; refine wpList_append_mk rfl _ _ 22 rfl .u8 5 w.heap.size 1 Try.underlying22 info_b (.slice ao1 n cap1) n xs rfl M1.out a2 m cap2 ys rfl S2.out hca2 (by omega) (by omega) hB1 ?_; intro ao2 cap2 w2 hm2 hb2 hn2; have B2 := Lib.hid (B1.out.trans hb2); have M2 := Lib.hid hm2.sl; clear hb2 hm2)
      | fail)
    refine (Sum_b _ _ _ _ (xs ++ ys) _ B2.out M2.out (by omega)).mono ?_
    rw [E1.out.1, E1.out.2]
    rintro e w3 ⟨rfl, hb, _⟩
    have B3 := Lib.hid hb
    clear hb
    go_wp2_with fail
    refine (Sum_b _ _ _ _ xs _ B3.out (Hs.out.keep B3.out) (by omega)).mono ?_
    rw [E2.out.1, E2.out.2]
    rintro e w4 ⟨rfl, hb, _⟩
    have B4 := Lib.hid hb
    clear hb
    go_wp2_with fail
    refine (Next_b _ _ _ _ _ ys _ B4.out (Hs2.out.keep B4.out) (by omega)).mono ?_
    rw [E3.out.1, E3.out.2]
    rintro e w5 ⟨rfl, hb, _⟩
    have B5 := Lib.hid hb
    clear hb
    rw [E4.out]
    go_wp2_with (go_at_call 8; refine (awake03_b _ B5.out).mono ?_; rintro e w6 ⟨rfl, hb⟩; have B6 := Lib.hid hb; clear hb)
    go_ret
    exact ⟨rfl, B6.out⟩
  · go_enter Try.func4, Try.ntmps4
    go_wp2_with (go_at_call 8; refine (awake03_any _).mono ?_; rintro e w' ⟨rfl, hb⟩)
    go_ret
    exact ⟨rfl, hb⟩

theorem own : ownKnob Try.prog.godebug = none := by kernel_rfl
theorem laidOut : laidOutB Try.prog = true := by kernel_rfl
theorem read_int : Try.prog.readableRec 3 = true := by kernel_rfl
theorem read_bytes : Try.prog.readableRec 22 = true := by kernel_rfl
theorem cells_b : Try.prog.cellsOf 5 = 1 := by kernel_rfl
theorem bytes_b : Try.prog.bytesOf 5 = 1 := by kernel_rfl
theorem lt_int : 3 < Try.prog.types.size := of_decide_eq_true (by kernel_rfl)
theorem lt_bytes : 22 < Try.prog.types.size := of_decide_eq_true (by kernel_rfl)

set_option maxRecDepth 100000 in
theorem lifted (os : Os) (started : os.Started) (H : Type) (enc : TypeId × Value → H) :
    ReturnsInHanded {} Try.checked os 4 .any (Rows.checkGoesOnSpec.pre6 enc Try.prog Try.f4 Rows.checkGoesOnRow.domain false) (Rows.checkGoesOnSpec.post enc Try.prog Try.f4 false true false false) := by
  refine law_lifted (C := Try.checked) (rt := 4) [3, 22, 22] own started (by kernel_rfl) Try.func4 laidOut (by rw [Try.params4])
    (fun t ht => by simp only [List.mem_cons, List.not_mem_nil, or_false] at ht; rcases ht with rfl | rfl | rfl <;> first | exact ⟨read_int, lt_int⟩ | exact ⟨read_bytes, lt_bytes⟩) rfl Try.underlying4 rfl
    (fun ds h => by match ds, h with | [d0, d1, d2], _ => rfl)
    (ChangeSpec.witness6 (enc := enc) (C := Try.checked) false ⟨#[], #[.int .i64 0, .slice none 0 0, .slice none 0 0], []⟩ 8 (by kernel_rfl) (by kernel_rfl) (by kernel_rfl) (by kernel_rfl)) ?_
  intro W base args ds p hval hA hsz
  obtain ⟨v0, vs0, d0, ds0, p0, q0, hargs, rfl, rfl, h0, r0⟩ := trodAll_cons hA
  obtain ⟨v1, vs1, d1, ds1, p1, q1, rfl, rfl, rfl, h1, r1⟩ := trodAll_cons r0
  obtain ⟨v2, vs2, d2, ds2, p2, q2, rfl, rfl, rfl, h2, r2⟩ := trodAll_cons r1
  obtain ⟨rfl, rfl, rfl⟩ := trodAll_nil r2
  obtain rfl : args = #[v0, v1, v2] := by cases args; simp_all
  obtain ⟨x0, rfl, b0⟩ := open_i64 Try.underlying3 (hval 0 _ v0 rfl rfl) h0
  obtain ⟨a1, n1, c1, z1, rfl, s1, nn1⟩ := open_slc Try.underlying22 Try.underlying5 cells_b (by rw [bytes_b]; omega) (hval 1 _ v1 rfl rfl) h1 (fun el spa hd => sized_slice hsz (j := 1) rfl (by rw [hd]; rfl) Try.underlying22)
  obtain ⟨a2, n2, c2, z2, rfl, s2, nn2⟩ := open_slc Try.underlying22 Try.underlying5 cells_b (by rw [bytes_b]; omega) (hval 2 _ v2 rfl rfl) h2 (fun el spa hd => sized_slice hsz (j := 2) rfl (by rw [hd]; rfl) Try.underlying22)
  exact walk W x0 b0 a1 n1 c1 z1 s1 nn1.1 a2 n2 c2 z2 s2 nn2.1

/-- THE STATEMENT -/
theorem proved : Rows.CheckGoesOnSaid :=
  OpenClaim.holds_of_wide 4 Try.f4 rfl rfl rfl rfl rfl rfl rfl ⟨rfl, rfl, rfl, rfl, rfl⟩ rfl rfl rfl rfl rfl (by kernel_rfl) Try.func4 (by kernel_rfl)
    (of_decide_eq_true (by kernel_rfl)) (by unfold Func.isWrapper; first | (rw [if_pos (by decide +kernel)]; kernel_rfl) | (rw [if_neg (by decide +kernel)]; exact ⟨rfl, rfl⟩))
    (fun os started H enc _ => lifted os started H enc)
#print axioms proved
end Go.Proofs.Ythbganohmcomjaa.checkGoesOn
