/-
  Head of the document's own functions of layer 5, for headers with RTP.
-/
import Derived.Test.YtfeeifemfhhijaaPkHead
namespace Go.Proofs.Ytfeeifemfhhijaa
open Go Go.RowKit
attribute [local go_sem ↓] Go.wp_at_zero Go.wp_at_succ

set_option maxRecDepth 100000 in
set_option maxHeartbeats 6400000 in
theorem rHead_two (h : Hd) (w : World) (v : h.Valid) (hk : h.kind = 2) :
    Calls Try.prog 18 #[(.agg #[.int .i64 h.kind, .int .i64 h.tos, .int .i64 h.id, .int .i64 h.fixed, .int .i64 h.ttl, .int .i64 h.frm, .int .i64 h.to, .int .i64 h.fromPort, .int .i64 h.toPort, .int .i64 h.check, .int .i64 h.marker, .int .i64 h.type, .int .i64 h.seq, .int .i64 h.time, .int .i64 h.source])] w fun e w' => ∃ o cp, e = .returned (.slice o 40 cp) ∧ Mk .u8 5 (w.heap.size + 1) w' (.slice o 40 cp) 40 (headL h) ∧ (o = none → cp = 0) ∧ Below w.heap.size w w' := by
  have VV := rValid_any h (w.alloc (.cells #[.int .i64 h.kind, .int .i64 h.tos, .int .i64 h.id, .int .i64 h.fixed, .int .i64 h.ttl, .int .i64 h.frm, .int .i64 h.to, .int .i64 h.fromPort, .int .i64 h.toPort, .int .i64 h.check, .int .i64 h.marker, .int .i64 h.type, .int .i64 h.seq, .int .i64 h.time, .int .i64 h.source] 23)) v.fits
  rw [validB_true v] at VV
  replace VV := Lib.hid VV
  have HC := Lib.hid (box_cells h w)
  have BW := Lib.hid ((Below.refl w.heap.size w).alloc (Nat.le_refl _) (.cells #[.int .i64 h.kind, .int .i64 h.tos, .int .i64 h.id, .int .i64 h.fixed, .int .i64 h.ttl, .int .i64 h.frm, .int .i64 h.to, .int .i64 h.fromPort, .int .i64 h.toPort, .int .i64 h.check, .int .i64 h.marker, .int .i64 h.type, .int .i64 h.seq, .int .i64 h.time, .int .i64 h.source] 23))
  have hl : headL h = ipL h ++ [128, 128 * h.marker + h.type] ++ putB 2 h.seq 2 ++ putB 4 h.time 4 ++ putB 4 h.source 4 := by unfold headL; rw [if_pos hk]
  replace hl := Lib.hid hl
  obtain ⟨⟨a1, a2, a3, a4, a5, a6, a7, a8, a9, a10, a11, a12, a13, a14, a15, a16, a17, a18⟩, ⟨hk1, _⟩ | ⟨hk3, ⟨r1, r2, r3, r4, r5, r6, r7, r8, r9, r10⟩⟩⟩ := v
  · omega
  have hk2 : (h.kind == 2) = true := by rw [hk]; rfl
  clear hk hk3
  have L1 : Hid (∀ z ∈ [69, h.tos, 0, 0], (Lit.int .u8 z).wf = true) := fun z hz => by simp at hz; exact byte_wf (by omega) (by omega)
  have L2 : Hid (∀ z ∈ [64 * h.fixed, 0, h.ttl, 17, 0, 0], (Lit.int .u8 z).wf = true) := fun z hz => by simp at hz; exact byte_wf (by omega) (by omega)
  have L3 : Hid (∀ z ∈ [(0 : Int), 0], (Lit.int .u8 z).wf = true) := fun z hz => by simp at hz; exact byte_wf (by omega) (by omega)
  have L4 : Hid (∀ z ∈ [128, 128 * h.marker + h.type], (Lit.int .u8 z).wf = true) := fun z hz => by simp at hz; exact byte_wf (by omega) (by omega)
  go_enter Try.func18, Try.ntmps18
  go_upto_region 6 with (first
    | (go_at_call 15; refine VV.out.mono ?_; rintro e w2 ⟨rfl, hb⟩; have hb2 : Below (w.heap.size + 1) (w.alloc (.cells #[.int .i64 h.kind, .int .i64 h.tos, .int .i64 h.id, .int .i64 h.fixed, .int .i64 h.ttl, .int .i64 h.frm, .int .i64 h.to, .int .i64 h.fromPort, .int .i64 h.toPort, .int .i64 h.check, .int .i64 h.marker, .int .i64 h.type, .int .i64 h.seq, .int .i64 h.time, .int .i64 h.source] 23)) w2 := hb.mono (by simp); have B2 := Lib.hid hb2; have hc := HC.out w2 hb2; have hz2 : w.heap.size < w2.heap.size := Nat.lt_of_lt_of_le (by simp) hb2.size; clear hb hb2)
    | (go_at_call 41; refine (Put_lit (w.heap.size + 1) (some ⟨w2.heap.size, 0, none⟩) 4 4 2 6 2 h.id [69, h.tos, 0, 0] _ (Mk.lit .u8 5 _ w2 [69, h.tos, 0, 0] 4 (by omega) rfl (by omega) L1.out) (fun h => by cases h) (by first | omega | (simp <;> omega)) rfl rfl (by omega) (by omega)).mono ?_; rintro e w3 ⟨o3, c3, rfl, hg, hn⟩; have M3 := Lib.hid hg.row; have hb3 := (B2.out.alloc (by omega) _).trans (hg.below (Mk.lit .u8 5 _ w2 [69, h.tos, 0, 0] 4 (by omega) rfl (by omega) L1.out) (by first | omega | (simp <;> omega))); have B3 := Lib.hid hb3; have hc3 := HC.out w3 hb3; have hz3 : w.heap.size < w3.heap.size := Nat.lt_of_lt_of_le (by simp) hb3.size; clear hg hn hb3 hc hz2)
    | (at_builtin; refine wpList_append_at rfl (.tmp 15) (.tmp 23) 24 rfl .u8 5 (w.heap.size + 1) 1 Try.underlying24 info_u8 (.slice o3 6 c3) 6 _ rfl (M3.out.alloc _) _ 6 6 [64 * h.fixed, 0, h.ttl, 17, 0, 0] rfl (Sl.lit .u8 w3 [64 * h.fixed, 0, h.ttl, 17, 0, 0] 5 6 _ rfl rfl (by omega) L2.out) (fun h => by cases h) (by omega) (by omega) (by first | omega | (simp <;> omega)) ?_; intro o4 c4 w4 hm hg hf hn; have M4 : Hid (Mk .u8 5 (w.heap.size + 1) w4 (.slice o4 12 c4) 12 _) := Lib.hid hm; have hb4 := (B3.out.alloc (by omega) _).trans (Below.of_row hg (fun g h => (M3.out.own_ge g h).1) (by first | omega | (simp <;> omega))); have B4 := Lib.hid hb4; have hc4 := HC.out w4 hb4; have hz4 : w.heap.size < w4.heap.size := Nat.lt_of_lt_of_le (by simp) hb4.size; have N4 := Lib.hid hn; clear hm hg hf hn hb4 hc3 hz3)
    | fail)
  go_region_held3 (fun w' => w'.cell? ⟨w.heap.size, 5, none⟩ = some (.int .i64 h.frm) ∧ w'.cell? ⟨w.heap.size, 6, none⟩ = some (.int .i64 h.to)) (first | exact ⟨hc4 5, hc4 6⟩ | exact ⟨hc5 5, hc5 6⟩ | exact ⟨hc6 5, hc6 6⟩ | go_keep)
    (first
      | (go_at_call 41; ((with_reducible refine (Put_lit (w.heap.size + 1) o4 12 c4 4 16 4 h.frm _ _ M4.out.drew (fun h => (N4.out h).2) (by first | omega | (simp <;> omega)) rfl rfl (by omega) (by omega)).mono ?_); rintro e w5 ⟨o5, c5, rfl, hg, hn⟩; have M5 := Lib.hid hg.row; have hb5 := B4.out.drew.trans (hg.below M4.out.drew (by first | omega | (simp <;> omega))); have B5 := Lib.hid hb5; have N5 := Lib.hid hn; have hc5 := HC.out w5 hb5; have hz5 : w.heap.size < w5.heap.size := Nat.lt_of_lt_of_le (by simp) hb5.size; clear hg hn hb5))
      | (go_at_call 41; ((with_reducible refine (Put_lit (w.heap.size + 1) o5 16 c5 4 20 4 h.to _ _ M5.out N5.out (by first | omega | (simp <;> omega)) rfl rfl (by omega) (by omega)).mono ?_); rintro e w6 ⟨o6, c6, rfl, hg, hn⟩; have M6 := Lib.hid hg.row; have hb6 := B5.out.trans (hg.below M5.out (by first | omega | (simp <;> omega))); have B6 := Lib.hid hb6; have N6 := Lib.hid hn; have hc6 := HC.out w6 hb6; have hz6 : w.heap.size < w6.heap.size := Nat.lt_of_lt_of_le (by simp) hb6.size; clear hg hn hb6))
      | fail)
  clear hc4 hc5 hz4 hz5
  go_upto_region 7 with fail
  go_region_held3 (fun w' => w'.cell? ⟨w.heap.size, 7, none⟩ = some (.int .i64 h.fromPort) ∧ w'.cell? ⟨w.heap.size, 8, none⟩ = some (.int .i64 h.toPort)) (first | exact ⟨hc6 7, hc6 8⟩ | exact ⟨hc7 7, hc7 8⟩ | exact ⟨hc8 7, hc8 8⟩ | go_keep)
    (first
      | (go_at_call 41; ((with_reducible refine (Put_lit (w.heap.size + 1) o6 20 c6 2 22 2 h.fromPort _ _ M6.out.drew N6.out (by first | omega | (simp <;> omega)) rfl rfl (by omega) (by omega)).mono ?_); rintro e w7 ⟨o7, c7, rfl, hg, hn⟩; have M7 := Lib.hid hg.row; have hb7 := B6.out.drew.trans (hg.below M6.out.drew (by first | omega | (simp <;> omega))); have B7 := Lib.hid hb7; have N7 := Lib.hid hn; have hc7 := HC.out w7 hb7; have hz7 : w.heap.size < w7.heap.size := Nat.lt_of_lt_of_le (by simp) hb7.size; clear hg hn hb7))
      | (go_at_call 41; ((with_reducible refine (Put_lit (w.heap.size + 1) o7 22 c7 2 24 2 h.toPort _ _ M7.out N7.out (by first | omega | (simp <;> omega)) rfl rfl (by omega) (by omega)).mono ?_); rintro e w8 ⟨o8, c8, rfl, hg, hn⟩; have M8 := Lib.hid hg.row; have hb8 := B7.out.trans (hg.below M7.out (by first | omega | (simp <;> omega))); have B8 := Lib.hid hb8; have N8 := Lib.hid hn; have hc8 := HC.out w8 hb8; have hz8 : w.heap.size < w8.heap.size := Nat.lt_of_lt_of_le (by simp) hb8.size; clear hg hn hb8))
      | fail)
  clear hc6 hc7 hz6 hz7
  go_upto_region 8 with fail
  go_region_held3 (fun w' => w'.cell? ⟨w.heap.size, 9, none⟩ = some (.int .i64 h.check)) (first | exact hc8 9 | exact hc9 9 | exact hc10 9 | go_keep)
    (first
      | (go_at_call 41; ((with_reducible refine (Put_lit (w.heap.size + 1) (some ⟨g9, 0, none⟩) 26 c9 2 28 2 h.check _ _ M9.out (fun h => by cases h) (by first | omega | (simp <;> omega)) rfl rfl (by omega) (by omega)).mono ?_); rintro e w10 ⟨o10, c10, rfl, hg, hn⟩; have M10 := Lib.hid hg.row; have hb10 := B9.out.trans (hg.below M9.out (by first | omega | (simp <;> omega))); have B10 := Lib.hid hb10; have N10 := Lib.hid hn; have hc10 := HC.out w10 hb10; have hz10 : w.heap.size < w10.heap.size := Nat.lt_of_lt_of_le (by simp) hb10.size; clear hg hn hb10))
      | (refine step_some_mk rfl (.tmp 39) (.tmp 40) 24 rfl .u8 5 (w.heap.size + 1) 1 Try.underlying24 info_u8 (.slice o8 24 c8) 24 _ rfl (M8.out.alloc _).drew _ 0 2 2 [0, 0] (Sl.lit .u8 w8 [0, 0] 5 2 _ rfl rfl (by omega) L3.out).drew (by omega) rfl (by omega) (by omega) (by first | omega | (simp <;> omega)) ?_; intro g9 c9 w9 hm hg hf; have M9 : Hid (Mk .u8 5 (w.heap.size + 1) w9 (.slice (some ⟨g9, 0, none⟩) 26 c9) 26 _) := Lib.hid hm; have hb9 := (B8.out.alloc (by omega) _).drew.trans (Below.of_row hg (fun g h => (M8.out.own_ge g h).1) (by first | omega | (simp <;> omega))); have B9 := Lib.hid hb9; have hc9 := HC.out w9 hb9; have hz9 : w.heap.size < w9.heap.size := Nat.lt_of_lt_of_le (by simp) hb9.size; clear hm hg hf hb9)
      | fail)
  clear hc8 hc9 hz8 hz9
  go_upto_region 11 with (first
    | (at_builtin; refine wpList_append_at rfl (.tmp 48) (.tmp 56) 24 rfl .u8 5 (w.heap.size + 1) 1 Try.underlying24 info_u8 (.slice o10 28 c10) 28 _ rfl (M10.out.alloc _) _ 2 2 [128, 128 * h.marker + h.type] rfl (Sl.lit .u8 w10 [128, 128 * h.marker + h.type] 5 2 _ rfl rfl (by omega) L4.out) (fun h => by cases h) (by omega) (by omega) (by first | omega | (simp <;> omega)) ?_; intro o11 c11 w11 hm hg hf hn; have M11 : Hid (Mk .u8 5 (w.heap.size + 1) w11 (.slice o11 30 c11) 30 _) := Lib.hid hm; have hb11 := (B10.out.alloc (by omega) _).trans (Below.of_row hg (fun g h => (M10.out.own_ge g h).1) (by first | omega | (simp <;> omega))); have B11 := Lib.hid hb11; have hc11 := HC.out w11 hb11; have hz11 : w.heap.size < w11.heap.size := Nat.lt_of_lt_of_le (by simp) hb11.size; have N11 := Lib.hid hn; clear hm hg hf hn hb11 hc10 hz10)
    | fail)
  go_region_held3 (fun w' => w'.cell? ⟨w.heap.size, 12, none⟩ = some (.int .i64 h.seq) ∧ w'.cell? ⟨w.heap.size, 13, none⟩ = some (.int .i64 h.time) ∧ w'.cell? ⟨w.heap.size, 14, none⟩ = some (.int .i64 h.source)) (first | exact ⟨hc11 12, hc11 13, hc11 14⟩ | exact ⟨hc12 12, hc12 13, hc12 14⟩ | exact ⟨hc13 12, hc13 13, hc13 14⟩ | exact ⟨hc14 12, hc14 13, hc14 14⟩ | go_keep)
    (first
      | (go_at_call 41; ((with_reducible refine (Put_lit (w.heap.size + 1) o11 30 c11 2 32 2 h.seq _ _ M11.out.drew (fun h => (N11.out h).2) (by first | omega | (simp <;> omega)) rfl rfl (by omega) (by omega)).mono ?_); rintro e w12 ⟨o12, c12, rfl, hg, hn⟩; have M12 := Lib.hid hg.row; have hb12 := B11.out.drew.trans (hg.below M11.out.drew (by first | omega | (simp <;> omega))); have B12 := Lib.hid hb12; have N12 := Lib.hid hn; have hc12 := HC.out w12 hb12; have hz12 : w.heap.size < w12.heap.size := Nat.lt_of_lt_of_le (by simp) hb12.size; clear hg hn hb12))
      | (go_at_call 41; ((with_reducible refine (Put_lit (w.heap.size + 1) o12 32 c12 4 36 4 h.time _ _ M12.out N12.out (by first | omega | (simp <;> omega)) rfl rfl (by omega) (by omega)).mono ?_); rintro e w13 ⟨o13, c13, rfl, hg, hn⟩; have M13 := Lib.hid hg.row; have hb13 := B12.out.trans (hg.below M12.out (by first | omega | (simp <;> omega))); have B13 := Lib.hid hb13; have N13 := Lib.hid hn; have hc13 := HC.out w13 hb13; have hz13 : w.heap.size < w13.heap.size := Nat.lt_of_lt_of_le (by simp) hb13.size; clear hg hn hb13))
      | (go_at_call 41; ((with_reducible refine (Put_lit (w.heap.size + 1) o13 36 c13 4 40 4 h.source _ _ M13.out N13.out (by first | omega | (simp <;> omega)) rfl rfl (by omega) (by omega)).mono ?_); rintro e w14 ⟨o14, c14, rfl, hg, hn⟩; have M14 := Lib.hid hg.row; have hb14 := B13.out.trans (hg.below M13.out (by first | omega | (simp <;> omega))); have B14 := Lib.hid hb14; have N14 := Lib.hid hn; have hc14 := HC.out w14 hb14; have hz14 : w.heap.size < w14.heap.size := Nat.lt_of_lt_of_le (by simp) hb14.size; clear hg hn hb14))
      | fail)
  clear hc11 hc12 hc13 hz11 hz12 hz13
  go_wp2
  go_ret
  exact ⟨o14, c14, rfl, by rw [hl.out]; exact M14.out, N14.out, BW.out.trans (B14.out.mono (by omega))⟩

end Go.Proofs.Ytfeeifemfhhijaa
