/-
  Proved: the Go function CheckExact, called with any numbers and bytes, returns true and leaves its arguments as they were (Sum and Next return what the document's own functions return, for the kind as it is and for a valid one).
  Conditions: none beyond those of the given row.
-/
import Derived.Test.YthbganohmcomjaaChkRef
import Derived.Test.YthbganohmcomjaaChkAwake
import Derived.Test.YthbganohmcomjaaLift
import Derived.Test.YthbganohmcomjaaRows
namespace Go.Proofs.Ythbganohmcomjaa.checkExact
open Go Go.RowKit Go.ChangeShapes Go.WideShapes Go.ChangeAt

set_option maxRecDepth 100000 in
set_option maxHeartbeats 1600000 in
theorem walk (w : World) (k : Int) (b0 : -9223372036854775808 ≤ k ∧ k ≤ 9223372036854775807) (r : Int) (b1 : -9223372036854775808 ≤ r ∧ r ≤ 9223372036854775807) (a : Option Addr) (n cap : Nat) (zs : List Int) (hs : Sl .u8 w a n zs) :
    Calls Try.prog 3 #[.int .i64 k, .int .i64 r, .slice a n cap] w fun e w' => e = .returned (.bool true) ∧ Below w.heap.size w w' := by
  have hr := hs.reach
  have Hs := Lib.hid hs
  clear hs
  by_cases hn : n ≤ 2000
  · obtain ⟨P, hP⟩ := widN_kd k
    have C := Lib.hid (fun W => width_any k W b0)
    generalize widN k = K at hP C
    have hk2 := hP.most
    have H2 : Hid (wrap64 (2 ^ K) = 2 ^ K) := wrap_ipow K (by omega)
    have M : Hid (∀ W, Calls Try.prog 14 #[.int .i64 r, .int .i64 (wrap64 (2 ^ K))] W fun e w' => e = .returned (.int .i64 (r % 2 ^ K)) ∧ W = w') := fun W => by
      have h1 := ipow_pos K
      have h2 := ipow_le32 K (by omega)
      rw [H2.out]; exact mod_any r (2 ^ K) W h1 (by omega) b1.1 b1.2
    clear hP
    generalize r % 2 ^ K = q at M
    have B0 := Lib.hid (Below.refl w.heap.size w)
    go_enter Try.func3, Try.ntmps3
    go_wp2_with (first
      | (go_at_call 9; refine (C.out _).mono ?_; rintro e w' ⟨rfl, rfl⟩)
      | (go_at_call 14; refine (M.out _).mono ?_; rintro e w' ⟨rfl, rfl⟩)
      | (go_at_call 10; refine (Sum_b _ _ _ _ zs _ B0.out (Hs.out.keep B0.out) (by omega)).mono ?_; rintro e w' ⟨rfl, hb, _⟩; replace B0 := Lib.hid hb; clear hb)
      | (go_at_call 12; refine (Next_b _ _ _ _ _ zs _ B0.out (Hs.out.keep B0.out) (by omega)).mono ?_; rintro e w' ⟨rfl, hb, _⟩; replace B0 := Lib.hid hb; clear hb)
      | (go_at_call 11; refine (refSum_any _ _ _ _ zs _ (Hs.out.keep B0.out)).mono ?_; rintro e w' ⟨rfl, rfl⟩)
      | (go_at_call 13; refine (refNext_any _ _ _ _ _ zs _ (Hs.out.keep B0.out)).mono ?_; rintro e w' ⟨rfl, rfl⟩)
      | (go_at_call 8; refine (awake03_b _ B0.out).mono ?_; rintro e w' ⟨rfl, hb⟩; replace B0 := Lib.hid hb; clear hb))
    go_ret
    exact ⟨rfl, B0.out⟩
  · go_enter Try.func3, Try.ntmps3
    go_wp2_with (go_at_call 8; refine (awake03_any _).mono ?_; rintro e w' ⟨rfl, hb⟩)
    go_ret
    exact ⟨rfl, hb⟩

theorem own : ownKnob Try.prog.godebug = none := by kernel_rfl
theorem laidOut : laidOutB Try.prog = true := by kernel_rfl
theorem read_int : Try.prog.readableRec 3 = true := by kernel_rfl
theorem read_bytes : Try.prog.readableRec 22 = true := by kernel_rfl
theorem cells_b : Try.prog.cellsOf 5 = 1 := by kernel_rfl
theorem bytes_b : Try.prog.bytesOf 5 = 1 := by kernel_rfl
theorem lt_int : 3 < Try.prog.types.size := of_decide_eq_true (by kernel_rfl)
theorem lt_bytes : 22 < Try.prog.types.size := of_decide_eq_true (by kernel_rfl)

set_option maxRecDepth 100000 in
theorem lifted (os : Os) (started : os.Started) (H : Type) (enc : TypeId × Value → H) :
    ReturnsInHanded {} Try.checked os 3 .any (Rows.checkExactSpec.pre6 enc Try.prog Try.f3 Rows.checkExactRow.domain false) (Rows.checkExactSpec.post enc Try.prog Try.f3 false true false false) := by
  refine law_lifted (C := Try.checked) (rt := 4) [3, 3, 22] own started (by kernel_rfl) Try.func3 laidOut (by rw [Try.params3])
    (fun t ht => by simp only [List.mem_cons, List.not_mem_nil, or_false] at ht; rcases ht with rfl | rfl | rfl <;> first | exact ⟨read_int, lt_int⟩ | exact ⟨read_bytes, lt_bytes⟩) rfl Try.underlying4 rfl
    (fun ds h => by match ds, h with | [d0, d1, d2], _ => rfl)
    (ChangeSpec.witness6 (enc := enc) (C := Try.checked) false ⟨#[], #[.int .i64 0, .int .i64 0, .slice none 0 0], []⟩ 8 (by kernel_rfl) (by kernel_rfl) (by kernel_rfl) (by kernel_rfl)) ?_
  intro W base args ds p hval hA hsz
  obtain ⟨v0, vs0, d0, ds0, p0, q0, hargs, rfl, rfl, h0, r0⟩ := trodAll_cons hA
  obtain ⟨v1, vs1, d1, ds1, p1, q1, rfl, rfl, rfl, h1, r1⟩ := trodAll_cons r0
  obtain ⟨v2, vs2, d2, ds2, p2, q2, rfl, rfl, rfl, h2, r2⟩ := trodAll_cons r1
  obtain ⟨rfl, rfl, rfl⟩ := trodAll_nil r2
  obtain rfl : args = #[v0, v1, v2] := by cases args; simp_all
  obtain ⟨x0, rfl, b0⟩ := open_i64 Try.underlying3 (hval 0 _ v0 rfl rfl) h0
  obtain ⟨x1, rfl, b1⟩ := open_i64 Try.underlying3 (hval 1 _ v1 rfl rfl) h1
  obtain ⟨a2, n2, c2, z2, rfl, s2, _⟩ := open_sl Try.underlying22 Try.underlying5 cells_b (by rw [bytes_b]; omega) (hval 2 _ v2 rfl rfl) h2 (fun el spa hd => sized_slice hsz (j := 2) rfl (by rw [hd]; rfl) Try.underlying22)
  exact walk W x0 b0 x1 b1 a2 n2 c2 z2 s2

/-- THE STATEMENT -/
theorem proved : Rows.CheckExactSaid :=
  OpenClaim.holds_of_wide 3 Try.f3 rfl rfl rfl rfl rfl rfl rfl ⟨rfl, rfl, rfl, rfl, rfl⟩ rfl rfl rfl rfl rfl (by kernel_rfl) Try.func3 (by kernel_rfl)
    (of_decide_eq_true (by kernel_rfl)) (by unfold Func.isWrapper; first | (rw [if_pos (by decide +kernel)]; kernel_rfl) | (rw [if_neg (by decide +kernel)]; exact ⟨rfl, rfl⟩))
    (fun os started H enc _ => lifted os started H enc)
#print axioms proved
end Go.Proofs.Ythbganohmcomjaa.checkExact
