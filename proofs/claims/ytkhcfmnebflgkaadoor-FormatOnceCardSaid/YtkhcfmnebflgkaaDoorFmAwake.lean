/-
  awake of the statements of layer 8: a byte is decoded, and a whole header is encoded.
-/
import Derived.Test.YtkhcfmnebflgkaaDoorFmDecP
namespace Go.Proofs.YtkhcfmnebflgkaaDoor
open Go Go.RowKit

/-- what the byte 0x53 says -/
theorem dec53 {w W : World} {e : Ending} (h : DecR 1 [83] false w e W) : ∃ a cap, e = .returned (.tuple #[.agg #[.int .i64 0, .int .i64 1, .int .i64 10, .int .i64 0, .int .i64 0, .int .i64 0, .int .i64 0, .int .i64 1, .int .i64 0, .int .i64 0, .int .i64 0, .int .i64 0, .int .i64 0, .int .i64 0, .int .i64 0, .int .i64 0, .int .i64 0, .int .i64 0, .int .i64 0, .int .i64 0, .int .i64 0, .int .i64 0, .int .i64 0, .int .i64 0, .int .i64 3, .slice a 0 cap], .int .i64 0]) ∧ Below w.heap.size w W := by
  obtain ⟨hb, h⟩ := h
  rw [if_pos (show decE 1 [83] false = 0 by decide +kernel)] at h
  obtain ⟨a, cap, _, _, he⟩ := h
  exact ⟨a, cap, he.trans (by kernel_rfl), hb⟩
def awS : Sm := ⟨0, 5, 0, 0, 0, 0, 0, ⟨2, 0, 0, 0, 0, 0, 0, 0, 0, 0, 0, 0, 0, 0, 0⟩, 0, 0, 0, none, 0, 0, []⟩
theorem awS_fits : awS.h.Fits := by
  constructor <;> (simp only [awS]; omega)
theorem awS_len : (encL awS).length = 33 := by decide +kernel
theorem awS_ok : smB awS = true := by decide +kernel

set_option maxRecDepth 100000 in
set_option maxHeartbeats 3200000 in
theorem awake08_any (w : World) (hs : St w) :
    Calls Tryd.prog 12 #[] w fun e w' => e = .returned (.bool true) ∧ Below w.heap.size w w' := by
  have B1 := Lib.hid ((Below.refl w.heap.size w).alloc (Nat.le_refl _) (.cells #[.int .u8 83] 5))
  have S1 := Lib.hid (Sl.one .u8 w 83 5 (byte_wf (by decide) (by decide)))
  have H1 := Lib.hid (hs.keep B1.out)
  clear hs
  go_enter Tryd.func12, Tryd.ntmps12
  go_wp2_with fail
  generalize hW1 : w.alloc (.cells #[.int .u8 83] 5) = W1 at B1 S1 H1 ⊢
  clear hW1
  refine (Decode_any 1 _ 1 1 [83] false W1 S1.out (Nat.le_refl _) (fun h => by cases h) H1.out).mono ?_
  rintro e W2 h2
  obtain ⟨a, cap, rfl, hb⟩ := dec53 h2
  have B2 := Lib.hid (B1.out.trans (hb.mono B1.out.size))
  have H2 := Lib.hid (H1.out.keep hb)
  clear h2 hb S1 B1 H1
  dsimp only
  refine ‹∀ (a : Act) (w : World), wpList _ _ _ _ a w → _› _ _ ?_
  refine wpList_run (.tuple #[.agg #[.int .i64 0, .int .i64 1, .int .i64 10, .int .i64 0, .int .i64 0, .int .i64 0, .int .i64 0, .int .i64 1, .int .i64 0, .int .i64 0, .int .i64 0, .int .i64 0, .int .i64 0, .int .i64 0, .int .i64 0, .int .i64 0, .int .i64 0, .int .i64 0, .int .i64 0, .int .i64 0, .int .i64 0, .int .i64 0, .int .i64 0, .int .i64 0, .int .i64 3, .slice a 0 cap], .int .i64 0]) W2 rfl (by kernel_rfl) ?_
  refine wpList_run (.agg #[.int .i64 0, .int .i64 1, .int .i64 10, .int .i64 0, .int .i64 0, .int .i64 0, .int .i64 0, .int .i64 1, .int .i64 0, .int .i64 0, .int .i64 0, .int .i64 0, .int .i64 0, .int .i64 0, .int .i64 0, .int .i64 0, .int .i64 0, .int .i64 0, .int .i64 0, .int .i64 0, .int .i64 0, .int .i64 0, .int .i64 0, .int .i64 0, .int .i64 3, .slice a 0 cap]) W2 rfl (by kernel_rfl) ?_
  refine wpList_run (.int .i64 0) W2 rfl (by kernel_rfl) ?_
  refine wpList_run (.pointer (some ⟨W2.heap.size, 0, none⟩)) (W2.alloc (.cells #[.int .i64 0, .int .i64 0, .int .i64 0, .int .i64 0, .int .i64 0, .int .i64 0, .int .i64 0, .int .i64 0, .int .i64 0, .int .i64 0, .int .i64 0, .int .i64 0, .int .i64 0, .int .i64 0, .int .i64 0, .int .i64 0, .int .i64 0, .int .i64 0, .int .i64 0, .int .i64 0, .int .i64 0, .int .i64 0, .int .i64 0, .int .i64 0, .int .i64 0, .slice none 0 0] 28)) rfl (by kernel_rfl) ?_
  refine wpList_store_blk (n := 26) rfl rfl _ _ rfl rfl rfl (heap_alloc_new W2 _) rfl rfl info_sm (by simp [Value.oneCell']) ?_
  intro W3 K3 G3
  refine wpList_run (.int .i64 0) W3 rfl (by kernel_rfl) ?_
  simp only [Act.put, List.setIfInBounds_toArray, List.set_cons_zero, List.set_cons_succ]
  have b3 : Below W2.heap.size W2 W3 := ((Below.refl W2.heap.size W2).alloc (Nat.le_refl _) _).trans (Below.of_row G3 (fun g e => by rw [← Option.some.inj e]; exact Nat.le_refl _) (by simp))
  have B3 := Lib.hid (B2.out.trans (b3.mono B2.out.size))
  have H3 := Lib.hid (H2.out.keep b3)
  have P3 : Hid (Blk 28 W3 W2.heap.size #[.int .i64 0, .int .i64 1, .int .i64 10, .int .i64 0, .int .i64 0, .int .i64 0, .int .i64 0, .int .i64 1, .int .i64 0, .int .i64 0, .int .i64 0, .int .i64 0, .int .i64 0, .int .i64 0, .int .i64 0, .int .i64 0, .int .i64 0, .int .i64 0, .int .i64 0, .int .i64 0, .int .i64 0, .int .i64 0, .int .i64 0, .int .i64 0, .int .i64 3, .slice a 0 cap]) := Lib.hid K3
  clear K3 G3 b3 B2 H2
  generalize W2.heap.size = P at P3 ⊢
  have E3 := Lib.hid (enc_ok awS W3 awS_fits awS_ok H3.out ⟨⟨rfl, by decide, by simp [awS], fun i hi => absurd hi (by simp [awS])⟩, fun _ => rfl, Nat.le_refl _⟩)
  have hL := awS_len
  generalize encL awS = L at E3 hL
  go_upto_region 2 with fail
  refine wp_region_lit ?_
  refine wpList_run (.agg #[.int .i64 2, .int .i64 0, .int .i64 0, .int .i64 0, .int .i64 0, .int .i64 0, .int .i64 0, .int .i64 0, .int .i64 0, .int .i64 0, .int .i64 0, .int .i64 0, .int .i64 0, .int .i64 0, .int .i64 0]) W3 rfl (by kernel_rfl) ?_
  refine wpList_run (.agg #[.int .i64 0, .int .i64 5, .int .i64 0, .int .i64 0, .int .i64 0, .int .i64 0, .int .i64 0, .int .i64 2, .int .i64 0, .int .i64 0, .int .i64 0, .int .i64 0, .int .i64 0, .int .i64 0, .int .i64 0, .int .i64 0, .int .i64 0, .int .i64 0, .int .i64 0, .int .i64 0, .int .i64 0, .int .i64 0, .int .i64 0, .int .i64 0, .int .i64 0, .slice none 0 0]) W3 rfl (by kernel_rfl) ?_
  simp only [Act.put, List.setIfInBounds_toArray, List.set_cons_zero, List.set_cons_succ]
  go_wp2_with (first | (go_at_call 10; refine (show Calls Tryd.prog 10 #[.agg #[.int .i64 0, .int .i64 5, .int .i64 0, .int .i64 0, .int .i64 0, .int .i64 0, .int .i64 0, .int .i64 2, .int .i64 0, .int .i64 0, .int .i64 0, .int .i64 0, .int .i64 0, .int .i64 0, .int .i64 0, .int .i64 0, .int .i64 0, .int .i64 0, .int .i64 0, .int .i64 0, .int .i64 0, .int .i64 0, .int .i64 0, .int .i64 0, .int .i64 0, .slice none 0 0]] W3 _ from E3.out).mono ?_; rintro e W4 ⟨a4, m4, c4, rfl, _, hm, hb⟩; have P4 := Lib.hid (P3.out.keep hb); have B4 := Lib.hid (B3.out.trans (hb.mono B3.out.size)); have L4 := hm.len; have c9 := cells_of P4.out; rw [hL] at L4; subst L4; clear hm hb P3 B3 H3 E3) | fail)
  go_ret
  exact ⟨rfl, B4.out⟩
end Go.Proofs.YtkhcfmnebflgkaaDoor
