/-
  awake of the statements of layer 5: true, and it only makes memory.
-/
import Derived.Test.YtfeeifemfhhijaaPkParse
namespace Go.Proofs.Ytfeeifemfhhijaa
open Go Go.RowKit

theorem v0 : ((⟨2, 0, 0, 0, 64, 0, 0, 0, 0, 0, 0, 0, 5, 0, 0⟩ : Hd)).Valid := validB_of (by decide +kernel)
theorem p0 : parB (pktL (⟨2, 0, 0, 0, 64, 0, 0, 0, 0, 0, 0, 0, 5, 0, 0⟩ : Hd) [1]) = true := by decide +kernel
theorem e0 : fldL (pktL (⟨2, 0, 0, 0, 64, 0, 0, 0, 0, 0, 0, 0, 5, 0, 0⟩ : Hd) [1]) = (⟨2, 0, 0, 0, 64, 0, 0, 0, 0, 0, 0, 0, 5, 0, 0⟩ : Hd) := by kernel_rfl
theorem n0 : headN (⟨2, 0, 0, 0, 64, 0, 0, 0, 0, 0, 0, 0, 5, 0, 0⟩ : Hd) = 40 := by decide
theorem build0 (W : World) (B : Nat) (hB : B = W.heap.size) : Calls Try.prog 9 #[.agg #[.int .i64 2, .int .i64 0, .int .i64 0, .int .i64 0, .int .i64 64, .int .i64 0, .int .i64 0, .int .i64 0, .int .i64 0, .int .i64 0, .int .i64 0, .int .i64 0, .int .i64 5, .int .i64 0, .int .i64 0], .slice (some ⟨B, 0, none⟩) 1 1] (W.alloc (.cells #[.int .u8 1] 5)) fun e w' => ∃ g cp, e = .returned (.tuple #[.slice (some ⟨g, 0, none⟩) 41 cp, .int .i64 0]) ∧ Mk .u8 5 W.heap.size w' (.slice (some ⟨g, 0, none⟩) 41 cp) 41 (pktL (⟨2, 0, 0, 0, 64, 0, 0, 0, 0, 0, 0, 0, 5, 0, 0⟩ : Hd) [1]) ∧ Below W.heap.size W w' := by
  refine (Build_ok (⟨2, 0, 0, 0, 64, 0, 0, 0, 0, 0, 0, 0, 5, 0, 0⟩ : Hd) _ 1 1 [1] _ v0 (Sl.lit .u8 W [1] 5 1 B hB rfl (by omega) (by simp [Lit.wf, IntKind.min, IntKind.max, IntKind.signed, IntKind.bits])) (fun h => by cases h) (by decide)).mono ?_
  rintro e w' ⟨g, cp, rfl, hm, hb⟩
  exact ⟨g, cp, rfl, hm.mono (by simp <;> omega), ((Below.refl _ _).alloc (Nat.le_refl _) _).trans (hb.mono (by simp))⟩
theorem parse0 (W : World) (g cap : Nat) (hs : Sl .u8 W (some ⟨g, 0, none⟩) 41 (pktL (⟨2, 0, 0, 0, 64, 0, 0, 0, 0, 0, 0, 0, 5, 0, 0⟩ : Hd) [1])) (hc : 41 ≤ cap) : Calls Try.prog 28 #[.slice (some ⟨g, 0, none⟩) 41 cap] W fun e w' => ∃ o cp, e = .returned (.tuple #[.agg #[.int .i64 2, .int .i64 0, .int .i64 0, .int .i64 0, .int .i64 64, .int .i64 0, .int .i64 0, .int .i64 0, .int .i64 0, .int .i64 0, .int .i64 0, .int .i64 0, .int .i64 5, .int .i64 0, .int .i64 0], .slice o 1 cp, .int .i64 0]) ∧ Below W.heap.size W w' := by
  have h := Parse_ok _ 41 cap _ W hs hc (by omega) (by omega) p0
  rw [e0, n0] at h
  refine h.mono ?_
  rintro e w' ⟨o, cp, rfl, _, _, hb⟩
  exact ⟨o, cp, rfl, hb⟩
theorem valid0 (W : World) : Calls Try.prog 14 #[.agg #[.int .i64 2, .int .i64 0, .int .i64 0, .int .i64 0, .int .i64 64, .int .i64 0, .int .i64 0, .int .i64 0, .int .i64 0, .int .i64 0, .int .i64 0, .int .i64 0, .int .i64 5, .int .i64 0, .int .i64 0]] W fun e w' => e = .returned (.bool true) ∧ Below W.heap.size W w' := by
  have h := Valid_any (⟨2, 0, 0, 0, 64, 0, 0, 0, 0, 0, 0, 0, 5, 0, 0⟩ : Hd) W v0.fits
  rw [validB_true v0] at h
  exact h
theorem head0 (W : World) : Calls Try.prog 17 #[.agg #[.int .i64 2, .int .i64 0, .int .i64 0, .int .i64 0, .int .i64 64, .int .i64 0, .int .i64 0, .int .i64 0, .int .i64 0, .int .i64 0, .int .i64 0, .int .i64 0, .int .i64 5, .int .i64 0, .int .i64 0]] W fun e w' => ∃ o cp, e = .returned (.slice o 40 cp) ∧ Below W.heap.size W w' := by
  refine (Head_any (⟨2, 0, 0, 0, 64, 0, 0, 0, 0, 0, 0, 0, 5, 0, 0⟩ : Hd) W v0).mono ?_
  rintro e w' ⟨o, cp, rfl, _, _, hb⟩
  exact ⟨o, cp, rfl, hb⟩
theorem box0 (W wk : World) (hb : Below (W.heap.size + 1) (W.alloc (.cells #[.int .i64 2, .int .i64 0, .int .i64 0, .int .i64 0, .int .i64 64, .int .i64 0, .int .i64 0, .int .i64 0, .int .i64 0, .int .i64 0, .int .i64 0, .int .i64 0, .int .i64 5, .int .i64 0, .int .i64 0] 23)) wk) (i : Nat) : wk.cell? ⟨W.heap.size, i, none⟩ = (#[.int .i64 2, .int .i64 0, .int .i64 0, .int .i64 0, .int .i64 64, .int .i64 0, .int .i64 0, .int .i64 0, .int .i64 0, .int .i64 0, .int .i64 0, .int .i64 0, .int .i64 5, .int .i64 0, .int .i64 0] : Array Value)[i]? := hbox_cells (⟨2, 0, 0, 0, 64, 0, 0, 0, 0, 0, 0, 0, 5, 0, 0⟩ : Hd) W wk hb i

set_option maxRecDepth 100000 in
set_option maxHeartbeats 3200000 in
theorem awake_any (w : World) : Calls Try.prog 13 #[] w fun e w' => e = .returned (.bool true) ∧ Below w.heap.size w w' := by
  have C1 := Lib.hid build0
  have C2 := Lib.hid parse0
  have C3 := Lib.hid valid0
  have C4 := Lib.hid head0
  have C5 := Lib.hid box0
  go_enter Try.func13, Try.ntmps13
  go_wp2_with (first
    | (go_at_call 9; refine (C1.out _ _ rfl).mono ?_; rintro e w2 ⟨g2, c2, rfl, hm, hb⟩; have S2 := Lib.hid hm.sl; have hc2 := hm.le_cap; have B2 := Lib.hid hb; clear hm hb)
    | (go_at_call 28; refine (C2.out _ _ _ S2.out hc2).mono ?_; rintro e w3 ⟨o3, c3, rfl, hb⟩; have B3 := Lib.hid (B2.out.trans (hb.mono B2.out.size)); clear hb)
    | (go_at_call 14; refine (C3.out _).mono ?_; rintro e w4 ⟨rfl, hb⟩; have hb4 : Below (w3.heap.size + 1) (w3.alloc (.cells #[.int .i64 2, .int .i64 0, .int .i64 0, .int .i64 0, .int .i64 64, .int .i64 0, .int .i64 0, .int .i64 0, .int .i64 0, .int .i64 0, .int .i64 0, .int .i64 0, .int .i64 5, .int .i64 0, .int .i64 0] 23)) w4 := hb.mono (by simp); have hc4 := C5.out w3 w4 hb4; have hz4 : w3.heap.size < w4.heap.size := Nat.lt_of_lt_of_le (by simp) hb4.size; have B4 := Lib.hid ((B3.out.alloc B3.out.size _).trans (hb4.mono (by have := B3.out.size; omega))); clear hb hb4)
    | (go_at_call 17; refine (C4.out _).mono ?_; rintro e w5 ⟨o5, c5, rfl, hb⟩; have B5 := Lib.hid (B4.out.trans (hb.mono B4.out.size)); clear hb)
    | fail)
  go_ret
  exact ⟨rfl, B5.out⟩
end Go.Proofs.Ytfeeifemfhhijaa
