/-
  Head of the document's own functions of layer 5.
-/
import Derived.Test.YtfeeifemfhhijaaPkPlain
import Derived.Test.YtfeeifemfhhijaaPkRef
import Derived.Deep.QuietTactic
import Derived.BigQuiet
import Derived.Deep.RegionHeld3
import Derived.Deep.DrawnRows
import Derived.Deep.DeepCutAuto
namespace Go.Proofs.Ytfeeifemfhhijaa
open Go Go.RowKit
attribute [local go_sem ↓] Go.wp_at_zero Go.wp_at_succ

/-- a header in a block of the call's own: its cells, at every later world -/
theorem box_cells (h : Hd) (w wk : World) (hb : Below (w.heap.size + 1) (w.alloc (.cells #[.int .i64 h.kind, .int .i64 h.tos, .int .i64 h.id, .int .i64 h.fixed, .int .i64 h.ttl, .int .i64 h.frm, .int .i64 h.to, .int .i64 h.fromPort, .int .i64 h.toPort, .int .i64 h.check, .int .i64 h.marker, .int .i64 h.type, .int .i64 h.seq, .int .i64 h.time, .int .i64 h.source] 23)) wk) (i : Nat) :
    wk.cell? ⟨w.heap.size, i, none⟩ = (#[.int .i64 h.kind, .int .i64 h.tos, .int .i64 h.id, .int .i64 h.fixed, .int .i64 h.ttl, .int .i64 h.frm, .int .i64 h.to, .int .i64 h.fromPort, .int .i64 h.toPort, .int .i64 h.check, .int .i64 h.marker, .int .i64 h.type, .int .i64 h.seq, .int .i64 h.time, .int .i64 h.source] : Array Value)[i]? := by
  rw [hb.cell (p := ⟨w.heap.size, i, none⟩) (by simp)]
  exact World.cell?_alloc_at (w := w) _ _ w.heap.size i rfl

set_option maxRecDepth 100000 in
set_option maxHeartbeats 6400000 in
theorem rHead_one (h : Hd) (w : World) (v : h.Valid) (hk : h.kind = 1) :
    Calls Try.prog 18 #[(.agg #[.int .i64 h.kind, .int .i64 h.tos, .int .i64 h.id, .int .i64 h.fixed, .int .i64 h.ttl, .int .i64 h.frm, .int .i64 h.to, .int .i64 h.fromPort, .int .i64 h.toPort, .int .i64 h.check, .int .i64 h.marker, .int .i64 h.type, .int .i64 h.seq, .int .i64 h.time, .int .i64 h.source])] w fun e w' => ∃ o cp, e = .returned (.slice o 28 cp) ∧ Mk .u8 5 (w.heap.size + 1) w' (.slice o 28 cp) 28 (ipL h) ∧ (o = none → cp = 0) ∧ Below w.heap.size w w' := by
  have VV := rValid_any h (w.alloc (.cells #[.int .i64 h.kind, .int .i64 h.tos, .int .i64 h.id, .int .i64 h.fixed, .int .i64 h.ttl, .int .i64 h.frm, .int .i64 h.to, .int .i64 h.fromPort, .int .i64 h.toPort, .int .i64 h.check, .int .i64 h.marker, .int .i64 h.type, .int .i64 h.seq, .int .i64 h.time, .int .i64 h.source] 23)) v.fits
  rw [validB_true v] at VV
  replace VV := Lib.hid VV
  have HC := Lib.hid (box_cells h w)
  have BW := Lib.hid ((Below.refl w.heap.size w).alloc (Nat.le_refl _) (.cells #[.int .i64 h.kind, .int .i64 h.tos, .int .i64 h.id, .int .i64 h.fixed, .int .i64 h.ttl, .int .i64 h.frm, .int .i64 h.to, .int .i64 h.fromPort, .int .i64 h.toPort, .int .i64 h.check, .int .i64 h.marker, .int .i64 h.type, .int .i64 h.seq, .int .i64 h.time, .int .i64 h.source] 23))
  obtain ⟨⟨a1, a2, a3, a4, a5, a6, a7, a8, a9, a10, a11, a12, a13, a14, a15, a16, a17, a18⟩, _⟩ := v
  have hk2 : (h.kind == 2) = false := by rw [hk]; rfl
  clear hk
  have L1 : Hid (∀ z ∈ [69, h.tos, 0, 0], (Lit.int .u8 z).wf = true) := fun z hz => by simp at hz; exact byte_wf (by omega) (by omega)
  have L2 : Hid (∀ z ∈ [64 * h.fixed, 0, h.ttl, 17, 0, 0], (Lit.int .u8 z).wf = true) := fun z hz => by simp at hz; exact byte_wf (by omega) (by omega)
  have L3 : Hid (∀ z ∈ [(0 : Int), 0], (Lit.int .u8 z).wf = true) := fun z hz => by simp at hz; exact byte_wf (by omega) (by omega)
  go_enter Try.func18, Try.ntmps18
  go_upto_region 6 with (first
    | (go_at_call 15; refine VV.out.mono ?_; rintro e w2 ⟨rfl, hb⟩; have hb2 : Below (w.heap.size + 1) (w.alloc (.cells #[.int .i64 h.kind, .int .i64 h.tos, .int .i64 h.id, .int .i64 h.fixed, .int .i64 h.ttl, .int .i64 h.frm, .int .i64 h.to, .int .i64 h.fromPort, .int .i64 h.toPort, .int .i64 h.check, .int .i64 h.marker, .int .i64 h.type, .int .i64 h.seq, .int .i64 h.time, .int .i64 h.source] 23)) w2 := hb.mono (by simp); have B2 := Lib.hid hb2; have hc := HC.out w2 hb2; have hz2 : w.heap.size < w2.heap.size := Nat.lt_of_lt_of_le (by simp) hb2.size; clear hb hb2)
    | (go_at_call 41; refine (Put_lit (w.heap.size + 1) (some ⟨w2.heap.size, 0, none⟩) 4 4 2 6 2 h.id [69, h.tos, 0, 0] _ (Mk.lit .u8 5 _ w2 [69, h.tos, 0, 0] 4 (by omega) rfl (by omega) L1.out) (fun h => by cases h) (by first | omega | (simp <;> omega)) rfl rfl (by omega) (by omega)).mono ?_; rintro e w3 ⟨o3, c3, rfl, hg, hn⟩; have M3 := Lib.hid hg.row; have hb3 := (B2.out.alloc (by omega) _).trans (hg.below (Mk.lit .u8 5 _ w2 [69, h.tos, 0, 0] 4 (by omega) rfl (by omega) L1.out) (by first | omega | (simp <;> omega))); have B3 := Lib.hid hb3; have hc3 := HC.out w3 hb3; have hz3 : w.heap.size < w3.heap.size := Nat.lt_of_lt_of_le (by simp) hb3.size; clear hg hn hb3 hc hz2)
    | (at_builtin; refine wpList_append_at rfl (.tmp 15) (.tmp 23) 24 rfl .u8 5 (w.heap.size + 1) 1 Try.underlying24 info_u8 (.slice o3 6 c3) 6 _ rfl (M3.out.alloc _) _ 6 6 [64 * h.fixed, 0, h.ttl, 17, 0, 0] rfl (Sl.lit .u8 w3 [64 * h.fixed, 0, h.ttl, 17, 0, 0] 5 6 _ rfl rfl (by omega) L2.out) (fun h => by cases h) (by omega) (by omega) (by first | omega | (simp <;> omega)) ?_; intro o4 c4 w4 hm hg hf hn; have M4 : Hid (Mk .u8 5 (w.heap.size + 1) w4 (.slice o4 12 c4) 12 _) := Lib.hid hm; have hb4 := (B3.out.alloc (by omega) _).trans (Below.of_row hg (fun g h => (M3.out.own_ge g h).1) (by first | omega | (simp <;> omega))); have B4 := Lib.hid hb4; have hc4 := HC.out w4 hb4; have hz4 : w.heap.size < w4.heap.size := Nat.lt_of_lt_of_le (by simp) hb4.size; have N4 := Lib.hid hn; clear hm hg hf hn hb4 hc3 hz3)
    | fail)
  go_region_held3 (fun w' => w'.cell? ⟨w.heap.size, 5, none⟩ = some (.int .i64 h.frm) ∧ w'.cell? ⟨w.heap.size, 6, none⟩ = some (.int .i64 h.to)) (first | exact ⟨hc4 5, hc4 6⟩ | exact ⟨hc5 5, hc5 6⟩ | exact ⟨hc6 5, hc6 6⟩ | go_keep)
    (first
      | (go_at_call 41; ((with_reducible refine (Put_lit (w.heap.size + 1) o4 12 c4 4 16 4 h.frm _ _ M4.out.drew (fun h => (N4.out h).2) (by first | omega | (simp <;> omega)) rfl rfl (by omega) (by omega)).mono ?_); rintro e w5 ⟨o5, c5, rfl, hg, hn⟩; have M5 := Lib.hid hg.row; have hb5 := B4.out.drew.trans (hg.below M4.out.drew (by first | omega | (simp <;> omega))); have B5 := Lib.hid hb5; have N5 := Lib.hid hn; have hc5 := HC.out w5 hb5; have hz5 : w.heap.size < w5.heap.size := Nat.lt_of_lt_of_le (by simp) hb5.size; clear hg hn hb5))
      | (go_at_call 41; ((with_reducible refine (Put_lit (w.heap.size + 1) o5 16 c5 4 20 4 h.to _ _ M5.out N5.out (by first | omega | (simp <;> omega)) rfl rfl (by omega) (by omega)).mono ?_); rintro e w6 ⟨o6, c6, rfl, hg, hn⟩; have M6 := Lib.hid hg.row; have hb6 := B5.out.trans (hg.below M5.out (by first | omega | (simp <;> omega))); have B6 := Lib.hid hb6; have N6 := Lib.hid hn; have hc6 := HC.out w6 hb6; have hz6 : w.heap.size < w6.heap.size := Nat.lt_of_lt_of_le (by simp) hb6.size; clear hg hn hb6))
      | fail)
  clear hc4 hc5 hz4 hz5
  go_upto_region 7 with fail
  go_region_held3 (fun w' => w'.cell? ⟨w.heap.size, 7, none⟩ = some (.int .i64 h.fromPort) ∧ w'.cell? ⟨w.heap.size, 8, none⟩ = some (.int .i64 h.toPort)) (first | exact ⟨hc6 7, hc6 8⟩ | exact ⟨hc7 7, hc7 8⟩ | exact ⟨hc8 7, hc8 8⟩ | go_keep)
    (first
      | (go_at_call 41; ((with_reducible refine (Put_lit (w.heap.size + 1) o6 20 c6 2 22 2 h.fromPort _ _ M6.out.drew N6.out (by first | omega | (simp <;> omega)) rfl rfl (by omega) (by omega)).mono ?_); rintro e w7 ⟨o7, c7, rfl, hg, hn⟩; have M7 := Lib.hid hg.row; have hb7 := B6.out.drew.trans (hg.below M6.out.drew (by first | omega | (simp <;> omega))); have B7 := Lib.hid hb7; have N7 := Lib.hid hn; have hc7 := HC.out w7 hb7; have hz7 : w.heap.size < w7.heap.size := Nat.lt_of_lt_of_le (by simp) hb7.size; clear hg hn hb7))
      | (go_at_call 41; ((with_reducible refine (Put_lit (w.heap.size + 1) o7 22 c7 2 24 2 h.toPort _ _ M7.out N7.out (by first | omega | (simp <;> omega)) rfl rfl (by omega) (by omega)).mono ?_); rintro e w8 ⟨o8, c8, rfl, hg, hn⟩; have M8 := Lib.hid hg.row; have hb8 := B7.out.trans (hg.below M7.out (by first | omega | (simp <;> omega))); have B8 := Lib.hid hb8; have N8 := Lib.hid hn; have hc8 := HC.out w8 hb8; have hz8 : w.heap.size < w8.heap.size := Nat.lt_of_lt_of_le (by simp) hb8.size; clear hg hn hb8))
      | fail)
  clear hc6 hc7 hz6 hz7
  go_upto_region 8 with fail
  go_region_held3 (fun w' => w'.cell? ⟨w.heap.size, 9, none⟩ = some (.int .i64 h.check)) (first | exact hc8 9 | exact hc9 9 | exact hc10 9 | go_keep)
    (first
      | (go_at_call 41; ((with_reducible refine (Put_lit (w.heap.size + 1) (some ⟨g9, 0, none⟩) 26 c9 2 28 2 h.check _ _ M9.out (fun h => by cases h) (by first | omega | (simp <;> omega)) rfl rfl (by omega) (by omega)).mono ?_); rintro e w10 ⟨o10, c10, rfl, hg, hn⟩; have M10 := Lib.hid hg.row; have hb10 := B9.out.trans (hg.below M9.out (by first | omega | (simp <;> omega))); have B10 := Lib.hid hb10; have N10 := Lib.hid hn; have hc10 := HC.out w10 hb10; have hz10 : w.heap.size < w10.heap.size := Nat.lt_of_lt_of_le (by simp) hb10.size; clear hg hn hb10))
      | (refine step_some_mk rfl (.tmp 39) (.tmp 40) 24 rfl .u8 5 (w.heap.size + 1) 1 Try.underlying24 info_u8 (.slice o8 24 c8) 24 _ rfl (M8.out.alloc _).drew _ 0 2 2 [0, 0] (Sl.lit .u8 w8 [0, 0] 5 2 _ rfl rfl (by omega) L3.out).drew (by omega) rfl (by omega) (by omega) (by first | omega | (simp <;> omega)) ?_; intro g9 c9 w9 hm hg hf; have M9 : Hid (Mk .u8 5 (w.heap.size + 1) w9 (.slice (some ⟨g9, 0, none⟩) 26 c9) 26 _) := Lib.hid hm; have hb9 := (B8.out.alloc (by omega) _).drew.trans (Below.of_row hg (fun g h => (M8.out.own_ge g h).1) (by first | omega | (simp <;> omega))); have B9 := Lib.hid hb9; have hc9 := HC.out w9 hb9; have hz9 : w.heap.size < w9.heap.size := Nat.lt_of_lt_of_le (by simp) hb9.size; clear hm hg hf hb9)
      | fail)
  clear hc8 hc9 hz8 hz9
  go_wp2
  go_ret
  exact ⟨o10, c10, rfl, M10.out, N10.out, BW.out.trans (B10.out.mono (by omega))⟩

theorem rHead_not (h : Hd) (w : World) (f : h.Fits) (v : ¬ h.Valid) :
    Calls Try.prog 18 #[(.agg #[.int .i64 h.kind, .int .i64 h.tos, .int .i64 h.id, .int .i64 h.fixed, .int .i64 h.ttl, .int .i64 h.frm, .int .i64 h.to, .int .i64 h.fromPort, .int .i64 h.toPort, .int .i64 h.check, .int .i64 h.marker, .int .i64 h.type, .int .i64 h.seq, .int .i64 h.time, .int .i64 h.source])] w fun e w' => e = .returned (.slice none 0 0) ∧ Below w.heap.size w w' := by
  have VV := rValid_any h (w.alloc (.cells #[.int .i64 h.kind, .int .i64 h.tos, .int .i64 h.id, .int .i64 h.fixed, .int .i64 h.ttl, .int .i64 h.frm, .int .i64 h.to, .int .i64 h.fromPort, .int .i64 h.toPort, .int .i64 h.check, .int .i64 h.marker, .int .i64 h.type, .int .i64 h.seq, .int .i64 h.time, .int .i64 h.source] 23)) f
  rw [validB_false v] at VV
  replace VV := Lib.hid VV
  have BW := Lib.hid ((Below.refl w.heap.size w).alloc (Nat.le_refl _) (.cells #[.int .i64 h.kind, .int .i64 h.tos, .int .i64 h.id, .int .i64 h.fixed, .int .i64 h.ttl, .int .i64 h.frm, .int .i64 h.to, .int .i64 h.fromPort, .int .i64 h.toPort, .int .i64 h.check, .int .i64 h.marker, .int .i64 h.type, .int .i64 h.seq, .int .i64 h.time, .int .i64 h.source] 23))
  clear f v
  go_enter Try.func18, Try.ntmps18
  go_wp2_with (first
    | (go_at_call 15; refine VV.out.mono ?_; rintro e w2 ⟨rfl, hb⟩; have B2 := Lib.hid (BW.out.trans (hb.mono (by simp))); clear hb)
    | fail)
  go_ret
  exact ⟨rfl, B2.out⟩
end Go.Proofs.Ytfeeifemfhhijaa
