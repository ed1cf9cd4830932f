/-
  Predict of layer 6.
-/
import Derived.Test.YtphekpkkeiaccaaFlPB
namespace Go.Proofs.Ytphekpkkeiaccaa
open Go Go.RowKit

set_option maxRecDepth 100000 in
set_option maxHeartbeats 3200000 in
theorem Predict_inv (s f n : Int) (h : Hd) (w : World) (b : h.Fits) (v : validB h = false) :
    Calls Try.prog 17 #[.agg #[.int .i64 s, .int .i64 f], (.agg #[.int .i64 h.kind, .int .i64 h.tos, .int .i64 h.id, .int .i64 h.fixed, .int .i64 h.ttl, .int .i64 h.frm, .int .i64 h.to, .int .i64 h.fromPort, .int .i64 h.toPort, .int .i64 h.check, .int .i64 h.marker, .int .i64 h.type, .int .i64 h.seq, .int .i64 h.time, .int .i64 h.source]), .int .i64 n] w fun e w' => e = .returned (.agg #[.int .i64 (predH s f h n).kind, .int .i64 (predH s f h n).tos, .int .i64 (predH s f h n).id, .int .i64 (predH s f h n).fixed, .int .i64 (predH s f h n).ttl, .int .i64 (predH s f h n).frm, .int .i64 (predH s f h n).to, .int .i64 (predH s f h n).fromPort, .int .i64 (predH s f h n).toPort, .int .i64 (predH s f h n).check, .int .i64 (predH s f h n).marker, .int .i64 (predH s f h n).type, .int .i64 (predH s f h n).seq, .int .i64 (predH s f h n).time, .int .i64 (predH s f h n).source]) ∧ Below w.heap.size w w' := by
  have E : Hid (predH s f h n = ⟨0, 0, 0, 0, 0, 0, 0, 0, 0, 0, 0, 0, 0, 0, 0⟩) := Lib.hid (by unfold predH; rw [if_neg (by simp [v])]; rfl)
  have P0 := Lib.hid (PB.laid w s f h)
  have BW := Lib.hid ((((Below.refl w.heap.size w).alloc (Nat.le_refl _) (.cells #[.int .i64 s, .int .i64 f] 26)).alloc (by simp) (.cells #[.int .i64 h.kind, .int .i64 h.tos, .int .i64 h.id, .int .i64 h.fixed, .int .i64 h.ttl, .int .i64 h.frm, .int .i64 h.to, .int .i64 h.fromPort, .int .i64 h.toPort, .int .i64 h.check, .int .i64 h.marker, .int .i64 h.type, .int .i64 h.seq, .int .i64 h.time, .int .i64 h.source] 23)).alloc (by simp; omega) (.cells #[.int .i64 0, .int .i64 0, .int .i64 0, .int .i64 0, .int .i64 0, .int .i64 0, .int .i64 0, .int .i64 0, .int .i64 0, .int .i64 0, .int .i64 0, .int .i64 0, .int .i64 0, .int .i64 0, .int .i64 0] 23))
  have CV := Lib.hid (fun W => Valid_any h W b)
  have CD := Lib.hid (isDynamic_any s f)
  rw [v] at CV
  clear v
  go_enter Try.func17, Try.ntmps17
  go_wp2_with (first
    | (go_at_call 35; refine (CV.out _).mono ?_; rintro e w1 ⟨rfl, hb⟩; have P1 := Lib.hid (P0.out.below hb); have B1 := Lib.hid (BW.out.trans (hb.mono BW.out.size)); clear hb; have cd := cells_of P1.out.d; have ch := cells_of P1.out.h; have cz := cells_of P1.out.z; have fz := frozen_of P1.out.z)
    | (go_at_call 36; refine (CD.out _).mono ?_; rintro e w2 ⟨rfl, hb⟩; have P2 := Lib.hid (P1.out.below hb); have B2 := Lib.hid (B1.out.trans (hb.mono B1.out.size)); clear hb cd ch; have cd := cells_of P2.out.d; have ch := cells_of P2.out.h; have hz2 : w.heap.size + 1 + 1 < w2.heap.size := lt_of_block P2.out.z; have cz := cells_of P2.out.z; have fz := frozen_of P2.out.z)
    | (go_at_call 33; refine (Low_any _ _ _).mono ?_; rintro e w' ⟨rfl, rfl⟩)
    | fail)
  clear cd ch cz fz
  refine at_put (Q := bodyPost _ _ _ _ _) ⟨0, 0, 0, 0, 0, 0, 0, 0, 0, 0, 0, 0, 0, 0, 0⟩ ⟨0, 0, 0, 0, 0, 0, 0, 0, 0, 0, 0, 0, 0, 0, 0⟩ _ (w.heap.size + 1 + 1) P1.out.z ?_
  intro w7 K7 G7
  have hc7 := cells_of K7
  refine bodyPost_ret (v := .agg #[.int .i64 0, .int .i64 0, .int .i64 0, .int .i64 0, .int .i64 0, .int .i64 0, .int .i64 0, .int .i64 0, .int .i64 0, .int .i64 0, .int .i64 0, .int .i64 0, .int .i64 0, .int .i64 0, .int .i64 0]) (by simp [results, Try.results17, go_sem, hc7]) rfl ?_
  exact ⟨by simp only [E.out], B1.out.trans (Below.of_row G7 (fun q hq => by cases hq; omega) B1.out.size)⟩

set_option maxRecDepth 100000 in
set_option maxHeartbeats 3200000 in
theorem Predict_dyn (s f n : Int) (h : Hd) (w : World) (b : h.Fits) (v : validB h = true) (vd : dynB s f = false) :
    Calls Try.prog 17 #[.agg #[.int .i64 s, .int .i64 f], (.agg #[.int .i64 h.kind, .int .i64 h.tos, .int .i64 h.id, .int .i64 h.fixed, .int .i64 h.ttl, .int .i64 h.frm, .int .i64 h.to, .int .i64 h.fromPort, .int .i64 h.toPort, .int .i64 h.check, .int .i64 h.marker, .int .i64 h.type, .int .i64 h.seq, .int .i64 h.time, .int .i64 h.source]), .int .i64 n] w fun e w' => e = .returned (.agg #[.int .i64 (predH s f h n).kind, .int .i64 (predH s f h n).tos, .int .i64 (predH s f h n).id, .int .i64 (predH s f h n).fixed, .int .i64 (predH s f h n).ttl, .int .i64 (predH s f h n).frm, .int .i64 (predH s f h n).to, .int .i64 (predH s f h n).fromPort, .int .i64 (predH s f h n).toPort, .int .i64 (predH s f h n).check, .int .i64 (predH s f h n).marker, .int .i64 (predH s f h n).type, .int .i64 (predH s f h n).seq, .int .i64 (predH s f h n).time, .int .i64 (predH s f h n).source]) ∧ Below w.heap.size w w' := by
  have E : Hid (predH s f h n = ⟨0, 0, 0, 0, 0, 0, 0, 0, 0, 0, 0, 0, 0, 0, 0⟩) := Lib.hid (by unfold predH; rw [if_neg (by simp [v, vd])]; rfl)
  have P0 := Lib.hid (PB.laid w s f h)
  have BW := Lib.hid ((((Below.refl w.heap.size w).alloc (Nat.le_refl _) (.cells #[.int .i64 s, .int .i64 f] 26)).alloc (by simp) (.cells #[.int .i64 h.kind, .int .i64 h.tos, .int .i64 h.id, .int .i64 h.fixed, .int .i64 h.ttl, .int .i64 h.frm, .int .i64 h.to, .int .i64 h.fromPort, .int .i64 h.toPort, .int .i64 h.check, .int .i64 h.marker, .int .i64 h.type, .int .i64 h.seq, .int .i64 h.time, .int .i64 h.source] 23)).alloc (by simp; omega) (.cells #[.int .i64 0, .int .i64 0, .int .i64 0, .int .i64 0, .int .i64 0, .int .i64 0, .int .i64 0, .int .i64 0, .int .i64 0, .int .i64 0, .int .i64 0, .int .i64 0, .int .i64 0, .int .i64 0, .int .i64 0] 23))
  have CV := Lib.hid (fun W => Valid_any h W b)
  have CD := Lib.hid (isDynamic_any s f)
  rw [v] at CV
  rw [vd] at CD
  clear v vd
  go_enter Try.func17, Try.ntmps17
  go_wp2_with (first
    | (go_at_call 35; refine (CV.out _).mono ?_; rintro e w1 ⟨rfl, hb⟩; have P1 := Lib.hid (P0.out.below hb); have B1 := Lib.hid (BW.out.trans (hb.mono BW.out.size)); clear hb; have cd := cells_of P1.out.d; have ch := cells_of P1.out.h; skip)
    | (go_at_call 36; refine (CD.out _).mono ?_; rintro e w2 ⟨rfl, hb⟩; have P2 := Lib.hid (P1.out.below hb); have B2 := Lib.hid (B1.out.trans (hb.mono B1.out.size)); clear hb cd ch; have cd := cells_of P2.out.d; have ch := cells_of P2.out.h; have hz2 : w.heap.size + 1 + 1 < w2.heap.size := lt_of_block P2.out.z; have cz := cells_of P2.out.z; have fz := frozen_of P2.out.z)
    | (go_at_call 33; refine (Low_any _ _ _).mono ?_; rintro e w' ⟨rfl, rfl⟩)
    | fail)
  clear cd ch cz fz
  refine at_put (Q := bodyPost _ _ _ _ _) ⟨0, 0, 0, 0, 0, 0, 0, 0, 0, 0, 0, 0, 0, 0, 0⟩ ⟨0, 0, 0, 0, 0, 0, 0, 0, 0, 0, 0, 0, 0, 0, 0⟩ _ (w.heap.size + 1 + 1) P2.out.z ?_
  intro w7 K7 G7
  have hc7 := cells_of K7
  refine bodyPost_ret (v := .agg #[.int .i64 0, .int .i64 0, .int .i64 0, .int .i64 0, .int .i64 0, .int .i64 0, .int .i64 0, .int .i64 0, .int .i64 0, .int .i64 0, .int .i64 0, .int .i64 0, .int .i64 0, .int .i64 0, .int .i64 0]) (by simp [results, Try.results17, go_sem, hc7]) rfl ?_
  exact ⟨by simp only [E.out], B2.out.trans (Below.of_row G7 (fun q hq => by cases hq; omega) B2.out.size)⟩

set_option maxRecDepth 100000 in
set_option maxHeartbeats 3200000 in
theorem Predict_udp (s f n : Int) (h : Hd) (w : World) (b : h.Fits) (v : validB h = true) (vd : dynB s f = true) (k1 : h.kind = 1) :
    Calls Try.prog 17 #[.agg #[.int .i64 s, .int .i64 f], (.agg #[.int .i64 h.kind, .int .i64 h.tos, .int .i64 h.id, .int .i64 h.fixed, .int .i64 h.ttl, .int .i64 h.frm, .int .i64 h.to, .int .i64 h.fromPort, .int .i64 h.toPort, .int .i64 h.check, .int .i64 h.marker, .int .i64 h.type, .int .i64 h.seq, .int .i64 h.time, .int .i64 h.source]), .int .i64 n] w fun e w' => e = .returned (.agg #[.int .i64 (predH s f h n).kind, .int .i64 (predH s f h n).tos, .int .i64 (predH s f h n).id, .int .i64 (predH s f h n).fixed, .int .i64 (predH s f h n).ttl, .int .i64 (predH s f h n).frm, .int .i64 (predH s f h n).to, .int .i64 (predH s f h n).fromPort, .int .i64 (predH s f h n).toPort, .int .i64 (predH s f h n).check, .int .i64 (predH s f h n).marker, .int .i64 (predH s f h n).type, .int .i64 (predH s f h n).seq, .int .i64 (predH s f h n).time, .int .i64 (predH s f h n).source]) ∧ Below w.heap.size w w' := by
  have E : Hid (predH s f h n = ⟨h.kind, h.tos, lowV 16 n, h.fixed, h.ttl, h.frm, h.to, h.fromPort, h.toPort, 0, 0, h.type, h.seq, h.time, h.source⟩) := Lib.hid (by unfold predH; rw [if_pos ⟨v, vd⟩, if_neg (by omega)])
  have P0 := Lib.hid (PB.laid w s f h)
  have BW := Lib.hid ((((Below.refl w.heap.size w).alloc (Nat.le_refl _) (.cells #[.int .i64 s, .int .i64 f] 26)).alloc (by simp) (.cells #[.int .i64 h.kind, .int .i64 h.tos, .int .i64 h.id, .int .i64 h.fixed, .int .i64 h.ttl, .int .i64 h.frm, .int .i64 h.to, .int .i64 h.fromPort, .int .i64 h.toPort, .int .i64 h.check, .int .i64 h.marker, .int .i64 h.type, .int .i64 h.seq, .int .i64 h.time, .int .i64 h.source] 23)).alloc (by simp; omega) (.cells #[.int .i64 0, .int .i64 0, .int .i64 0, .int .i64 0, .int .i64 0, .int .i64 0, .int .i64 0, .int .i64 0, .int .i64 0, .int .i64 0, .int .i64 0, .int .i64 0, .int .i64 0, .int .i64 0, .int .i64 0] 23))
  have CV := Lib.hid (fun W => Valid_any h W b)
  have CD := Lib.hid (isDynamic_any s f)
  rw [v] at CV
  rw [vd] at CD
  have K1 : (h.kind == 1) = true := by rw [k1]; rfl
  clear v vd k1
  go_enter Try.func17, Try.ntmps17
  go_upto_region 7 with (first
    | (go_at_call 35; refine (CV.out _).mono ?_; rintro e w1 ⟨rfl, hb⟩; have P1 := Lib.hid (P0.out.below hb); have B1 := Lib.hid (BW.out.trans (hb.mono BW.out.size)); clear hb; have cd := cells_of P1.out.d; have ch := cells_of P1.out.h; skip)
    | (go_at_call 36; refine (CD.out _).mono ?_; rintro e w2 ⟨rfl, hb⟩; have P2 := Lib.hid (P1.out.below hb); have B2 := Lib.hid (B1.out.trans (hb.mono B1.out.size)); clear hb cd ch; have cd := cells_of P2.out.d; have ch := cells_of P2.out.h; have hz2 : w.heap.size + 1 + 1 < w2.heap.size := lt_of_block P2.out.z; skip)
    | (go_at_call 33; refine (Low_any _ _ _).mono ?_; rintro e w' ⟨rfl, rfl⟩)
    | fail)
  have P3 := Lib.hid (P2.out.alloc (.cells #[.int .i64 h.kind, .int .i64 h.tos, .int .i64 (lowV 16 n), .int .i64 h.fixed, .int .i64 h.ttl, .int .i64 h.frm, .int .i64 h.to, .int .i64 h.fromPort, .int .i64 h.toPort, .int .i64 0, .int .i64 0, .int .i64 h.type, .int .i64 h.seq, .int .i64 h.time, .int .i64 h.source] 23))
  have B3 := Lib.hid (B2.out.alloc (by omega) (.cells #[.int .i64 h.kind, .int .i64 h.tos, .int .i64 (lowV 16 n), .int .i64 h.fixed, .int .i64 h.ttl, .int .i64 h.frm, .int .i64 h.to, .int .i64 h.fromPort, .int .i64 h.toPort, .int .i64 0, .int .i64 0, .int .i64 h.type, .int .i64 h.seq, .int .i64 h.time, .int .i64 h.source] 23))
  have K3 := heap_alloc_new w2 (.cells #[.int .i64 h.kind, .int .i64 h.tos, .int .i64 (lowV 16 n), .int .i64 h.fixed, .int .i64 h.ttl, .int .i64 h.frm, .int .i64 h.to, .int .i64 h.fromPort, .int .i64 h.toPort, .int .i64 0, .int .i64 0, .int .i64 h.type, .int .i64 h.seq, .int .i64 h.time, .int .i64 h.source] 23)
  clear cd ch P0 P1 P2 B1 B2
  generalize w2.alloc (.cells #[.int .i64 h.kind, .int .i64 h.tos, .int .i64 (lowV 16 n), .int .i64 h.fixed, .int .i64 h.ttl, .int .i64 h.frm, .int .i64 h.to, .int .i64 h.fromPort, .int .i64 h.toPort, .int .i64 0, .int .i64 0, .int .i64 h.type, .int .i64 h.seq, .int .i64 h.time, .int .i64 h.source] 23) = w3 at P3 B3 K3 ⊢
  have hcx := cells_of K3
  have hcz := cells_of P3.out.z
  have hfz := frozen_of P3.out.z
  go_wp2
  clear hcx hcz hfz
  refine at_put (Q := bodyPost _ _ _ _ _) ⟨h.kind, h.tos, lowV 16 n, h.fixed, h.ttl, h.frm, h.to, h.fromPort, h.toPort, 0, 0, h.type, h.seq, h.time, h.source⟩ ⟨0, 0, 0, 0, 0, 0, 0, 0, 0, 0, 0, 0, 0, 0, 0⟩ _ (w.heap.size + 1 + 1) P3.out.z ?_
  intro w7 K7 G7
  have hc7 := cells_of K7
  refine bodyPost_ret (v := .agg #[.int .i64 h.kind, .int .i64 h.tos, .int .i64 (lowV 16 n), .int .i64 h.fixed, .int .i64 h.ttl, .int .i64 h.frm, .int .i64 h.to, .int .i64 h.fromPort, .int .i64 h.toPort, .int .i64 0, .int .i64 0, .int .i64 h.type, .int .i64 h.seq, .int .i64 h.time, .int .i64 h.source]) (by simp [results, Try.results17, go_sem, hc7]) rfl ?_
  exact ⟨by simp only [E.out], B3.out.trans (Below.of_row G7 (fun q hq => by cases hq; omega) B3.out.size)⟩

set_option maxRecDepth 100000 in
set_option maxHeartbeats 3200000 in
theorem Predict_rtp0 (s f n : Int) (h : Hd) (w : World) (b : h.Fits) (v : validB h = true) (vd : dynB s f = true) (k2 : h.kind = 2) (hf : f ≠ 1) :
    Calls Try.prog 17 #[.agg #[.int .i64 s, .int .i64 f], (.agg #[.int .i64 h.kind, .int .i64 h.tos, .int .i64 h.id, .int .i64 h.fixed, .int .i64 h.ttl, .int .i64 h.frm, .int .i64 h.to, .int .i64 h.fromPort, .int .i64 h.toPort, .int .i64 h.check, .int .i64 h.marker, .int .i64 h.type, .int .i64 h.seq, .int .i64 h.time, .int .i64 h.source]), .int .i64 n] w fun e w' => e = .returned (.agg #[.int .i64 (predH s f h n).kind, .int .i64 (predH s f h n).tos, .int .i64 (predH s f h n).id, .int .i64 (predH s f h n).fixed, .int .i64 (predH s f h n).ttl, .int .i64 (predH s f h n).frm, .int .i64 (predH s f h n).to, .int .i64 (predH s f h n).fromPort, .int .i64 (predH s f h n).toPort, .int .i64 (predH s f h n).check, .int .i64 (predH s f h n).marker, .int .i64 (predH s f h n).type, .int .i64 (predH s f h n).seq, .int .i64 (predH s f h n).time, .int .i64 (predH s f h n).source]) ∧ Below w.heap.size w w' := by
  have E : Hid (predH s f h n = ⟨h.kind, h.tos, h.id, h.fixed, h.ttl, h.frm, h.to, h.fromPort, h.toPort, 0, 0, h.type, lowV 16 n, lowV 32 (h.time + s * stepV h n), h.source⟩) := Lib.hid (by unfold predH; rw [if_pos ⟨v, vd⟩, if_pos k2, if_neg hf])
  have P0 := Lib.hid (PB.laid w s f h)
  have BW := Lib.hid ((((Below.refl w.heap.size w).alloc (Nat.le_refl _) (.cells #[.int .i64 s, .int .i64 f] 26)).alloc (by simp) (.cells #[.int .i64 h.kind, .int .i64 h.tos, .int .i64 h.id, .int .i64 h.fixed, .int .i64 h.ttl, .int .i64 h.frm, .int .i64 h.to, .int .i64 h.fromPort, .int .i64 h.toPort, .int .i64 h.check, .int .i64 h.marker, .int .i64 h.type, .int .i64 h.seq, .int .i64 h.time, .int .i64 h.source] 23)).alloc (by simp; omega) (.cells #[.int .i64 0, .int .i64 0, .int .i64 0, .int .i64 0, .int .i64 0, .int .i64 0, .int .i64 0, .int .i64 0, .int .i64 0, .int .i64 0, .int .i64 0, .int .i64 0, .int .i64 0, .int .i64 0, .int .i64 0] 23))
  have CV := Lib.hid (fun W => Valid_any h W b)
  have CD := Lib.hid (isDynamic_any s f)
  rw [v] at CV
  rw [vd] at CD
  have K1 : (h.kind == 1) = false := by rw [k2]; rfl
  have F1 : (f == 1) = false := by simpa using hf
  have CS := Lib.hid (step_any h n)
  have CT := Lib.hid (fun W => Low_any 32 (wrap64 (h.time + wrap64 (s * stepV h n))) W)
  rw [low_add_wrap] at CT
  generalize stepV h n = st at CS CT E
  generalize lowV 32 (h.time + s * st) = tv at CT E
  clear v vd k2 hf
  go_enter Try.func17, Try.ntmps17
  go_upto_region 8 with (first
    | (go_at_call 35; refine (CV.out _).mono ?_; rintro e w1 ⟨rfl, hb⟩; have P1 := Lib.hid (P0.out.below hb); have B1 := Lib.hid (BW.out.trans (hb.mono BW.out.size)); clear hb; have cd := cells_of P1.out.d; have ch := cells_of P1.out.h; skip)
    | (go_at_call 36; refine (CD.out _).mono ?_; rintro e w2 ⟨rfl, hb⟩; have P2 := Lib.hid (P1.out.below hb); have B2 := Lib.hid (B1.out.trans (hb.mono B1.out.size)); clear hb cd ch; have cd := cells_of P2.out.d; have ch := cells_of P2.out.h; have hz2 : w.heap.size + 1 + 1 < w2.heap.size := lt_of_block P2.out.z; skip)
    | (go_at_call 33; refine (Low_any _ _ _).mono ?_; rintro e w' ⟨rfl, rfl⟩)
    | fail)
  have P3 := Lib.hid (P2.out.alloc (.cells #[.int .i64 h.kind, .int .i64 h.tos, .int .i64 h.id, .int .i64 h.fixed, .int .i64 h.ttl, .int .i64 h.frm, .int .i64 h.to, .int .i64 h.fromPort, .int .i64 h.toPort, .int .i64 0, .int .i64 0, .int .i64 h.type, .int .i64 h.seq, .int .i64 h.time, .int .i64 h.source] 23))
  have B3 := Lib.hid (B2.out.alloc (by omega) (.cells #[.int .i64 h.kind, .int .i64 h.tos, .int .i64 h.id, .int .i64 h.fixed, .int .i64 h.ttl, .int .i64 h.frm, .int .i64 h.to, .int .i64 h.fromPort, .int .i64 h.toPort, .int .i64 0, .int .i64 0, .int .i64 h.type, .int .i64 h.seq, .int .i64 h.time, .int .i64 h.source] 23))
  have K3 := Lib.hid (heap_alloc_new w2 (.cells #[.int .i64 h.kind, .int .i64 h.tos, .int .i64 h.id, .int .i64 h.fixed, .int .i64 h.ttl, .int .i64 h.frm, .int .i64 h.to, .int .i64 h.fromPort, .int .i64 h.toPort, .int .i64 0, .int .i64 0, .int .i64 h.type, .int .i64 h.seq, .int .i64 h.time, .int .i64 h.source] 23))
  clear cd ch P0 P1 P2 B1 B2
  generalize w2.alloc (.cells #[.int .i64 h.kind, .int .i64 h.tos, .int .i64 h.id, .int .i64 h.fixed, .int .i64 h.ttl, .int .i64 h.frm, .int .i64 h.to, .int .i64 h.fromPort, .int .i64 h.toPort, .int .i64 0, .int .i64 0, .int .i64 h.type, .int .i64 h.seq, .int .i64 h.time, .int .i64 h.source] 23) = w3 at P3 B3 K3 ⊢
  have ch := cells_of P3.out.h
  go_upto_region 9 with (first
    | (go_at_call 37; refine (CS.out _).mono ?_; rintro e w4 ⟨rfl, hb⟩; have P4 := Lib.hid (P3.out.below hb); have K4 := Lib.hid ((hb.block _ (lt_of_block K3.out)).trans K3.out); have B4 := Lib.hid (B3.out.trans (hb.mono B3.out.size)); clear hb ch)
    | fail)
  have hc4 := cells_of K4.out
  have hf4 := frozen_of K4.out
  have ch := cells_of P4.out.h
  have cd := cells_of P4.out.d
  go_upto_region 11 with (first
    | (go_at_call 33; with_reducible refine (CT.out _).mono ?_; rintro e w' ⟨rfl, rfl⟩)
    | (go_at_call 33; refine (Low_any _ _ _).mono ?_; rintro e w' ⟨rfl, rfl⟩)
    | fail)
  clear hc4 hf4 ch cd
  have K5 := blk_set (blk_set K4.out 12 (.int .i64 (lowV 16 n))) 13 (.int .i64 tv)
  simp only [List.setIfInBounds_toArray, List.set_cons_succ, List.set_cons_zero] at K5
  have P5 := Lib.hid ((P4.out.set w2.heap.size hz2 12 (.int .i64 (lowV 16 n))).set w2.heap.size hz2 13 (.int .i64 tv))
  have B5 := Lib.hid (below_set (below_set B4.out (show w.heap.size ≤ w2.heap.size by omega) B4.out.size 12 (.int .i64 (lowV 16 n))) (show w.heap.size ≤ w2.heap.size by omega) (by simp; exact B4.out.size) 13 (.int .i64 tv))
  generalize (w4.setCell ⟨w2.heap.size, 12, none⟩ (.int .i64 (lowV 16 n))).setCell ⟨w2.heap.size, 13, none⟩ (.int .i64 tv) = w5 at K5 P5 B5 ⊢
  clear P4 K4 B4 P3 K3 B3
  have cd := cells_of P5.out.d
  go_upto_region 13 with fail
  clear cd
  have hcx := cells_of K5
  have hcz := cells_of P5.out.z
  have hfz := frozen_of P5.out.z
  go_wp2
  clear hcx hcz hfz
  refine at_put (Q := bodyPost _ _ _ _ _) ⟨h.kind, h.tos, h.id, h.fixed, h.ttl, h.frm, h.to, h.fromPort, h.toPort, 0, 0, h.type, lowV 16 n, tv, h.source⟩ ⟨0, 0, 0, 0, 0, 0, 0, 0, 0, 0, 0, 0, 0, 0, 0⟩ _ (w.heap.size + 1 + 1) P5.out.z ?_
  intro w7 K7 G7
  have hc7 := cells_of K7
  refine bodyPost_ret (v := .agg #[.int .i64 h.kind, .int .i64 h.tos, .int .i64 h.id, .int .i64 h.fixed, .int .i64 h.ttl, .int .i64 h.frm, .int .i64 h.to, .int .i64 h.fromPort, .int .i64 h.toPort, .int .i64 0, .int .i64 0, .int .i64 h.type, .int .i64 (lowV 16 n), .int .i64 tv, .int .i64 h.source]) (by simp [results, Try.results17, go_sem, hc7]) rfl ?_
  exact ⟨by simp only [E.out], B5.out.trans (Below.of_row G7 (fun q hq => by cases hq; omega) B5.out.size)⟩

set_option maxRecDepth 100000 in
set_option maxHeartbeats 3200000 in
theorem Predict_rtp1 (s f n : Int) (h : Hd) (w : World) (b : h.Fits) (v : validB h = true) (vd : dynB s f = true) (k2 : h.kind = 2) (hf : f = 1) :
    Calls Try.prog 17 #[.agg #[.int .i64 s, .int .i64 f], (.agg #[.int .i64 h.kind, .int .i64 h.tos, .int .i64 h.id, .int .i64 h.fixed, .int .i64 h.ttl, .int .i64 h.frm, .int .i64 h.to, .int .i64 h.fromPort, .int .i64 h.toPort, .int .i64 h.check, .int .i64 h.marker, .int .i64 h.type, .int .i64 h.seq, .int .i64 h.time, .int .i64 h.source]), .int .i64 n] w fun e w' => e = .returned (.agg #[.int .i64 (predH s f h n).kind, .int .i64 (predH s f h n).tos, .int .i64 (predH s f h n).id, .int .i64 (predH s f h n).fixed, .int .i64 (predH s f h n).ttl, .int .i64 (predH s f h n).frm, .int .i64 (predH s f h n).to, .int .i64 (predH s f h n).fromPort, .int .i64 (predH s f h n).toPort, .int .i64 (predH s f h n).check, .int .i64 (predH s f h n).marker, .int .i64 (predH s f h n).type, .int .i64 (predH s f h n).seq, .int .i64 (predH s f h n).time, .int .i64 (predH s f h n).source]) ∧ Below w.heap.size w w' := by
  have E : Hid (predH s f h n = ⟨h.kind, h.tos, folV h (stepV h n), h.fixed, h.ttl, h.frm, h.to, h.fromPort, h.toPort, 0, 0, h.type, lowV 16 n, lowV 32 (h.time + s * stepV h n), h.source⟩) := Lib.hid (by unfold predH; rw [if_pos ⟨v, vd⟩, if_pos k2, if_pos hf])
  have P0 := Lib.hid (PB.laid w s f h)
  have BW := Lib.hid ((((Below.refl w.heap.size w).alloc (Nat.le_refl _) (.cells #[.int .i64 s, .int .i64 f] 26)).alloc (by simp) (.cells #[.int .i64 h.kind, .int .i64 h.tos, .int .i64 h.id, .int .i64 h.fixed, .int .i64 h.ttl, .int .i64 h.frm, .int .i64 h.to, .int .i64 h.fromPort, .int .i64 h.toPort, .int .i64 h.check, .int .i64 h.marker, .int .i64 h.type, .int .i64 h.seq, .int .i64 h.time, .int .i64 h.source] 23)).alloc (by simp; omega) (.cells #[.int .i64 0, .int .i64 0, .int .i64 0, .int .i64 0, .int .i64 0, .int .i64 0, .int .i64 0, .int .i64 0, .int .i64 0, .int .i64 0, .int .i64 0, .int .i64 0, .int .i64 0, .int .i64 0, .int .i64 0] 23))
  have CV := Lib.hid (fun W => Valid_any h W b)
  have CD := Lib.hid (isDynamic_any s f)
  rw [v] at CV
  rw [vd] at CD
  have K1 : (h.kind == 1) = false := by rw [k2]; rfl
  have F1 : (f == 1) = true := by rw [hf]; rfl
  have CS := Lib.hid (step_any h n)
  have CF := Lib.hid (following_any h (stepV h n))
  have CT := Lib.hid (fun W => Low_any 32 (wrap64 (h.time + wrap64 (s * stepV h n))) W)
  rw [low_add_wrap] at CT
  generalize stepV h n = st at CS CT E CF
  generalize lowV 32 (h.time + s * st) = tv at CT E
  generalize folV h st = fv at CF E
  clear v vd k2 hf
  go_enter Try.func17, Try.ntmps17
  go_upto_region 8 with (first
    | (go_at_call 35; refine (CV.out _).mono ?_; rintro e w1 ⟨rfl, hb⟩; have P1 := Lib.hid (P0.out.below hb); have B1 := Lib.hid (BW.out.trans (hb.mono BW.out.size)); clear hb; have cd := cells_of P1.out.d; have ch := cells_of P1.out.h; skip)
    | (go_at_call 36; refine (CD.out _).mono ?_; rintro e w2 ⟨rfl, hb⟩; have P2 := Lib.hid (P1.out.below hb); have B2 := Lib.hid (B1.out.trans (hb.mono B1.out.size)); clear hb cd ch; have cd := cells_of P2.out.d; have ch := cells_of P2.out.h; have hz2 : w.heap.size + 1 + 1 < w2.heap.size := lt_of_block P2.out.z; skip)
    | (go_at_call 33; refine (Low_any _ _ _).mono ?_; rintro e w' ⟨rfl, rfl⟩)
    | fail)
  have P3 := Lib.hid (P2.out.alloc (.cells #[.int .i64 h.kind, .int .i64 h.tos, .int .i64 h.id, .int .i64 h.fixed, .int .i64 h.ttl, .int .i64 h.frm, .int .i64 h.to, .int .i64 h.fromPort, .int .i64 h.toPort, .int .i64 0, .int .i64 0, .int .i64 h.type, .int .i64 h.seq, .int .i64 h.time, .int .i64 h.source] 23))
  have B3 := Lib.hid (B2.out.alloc (by omega) (.cells #[.int .i64 h.kind, .int .i64 h.tos, .int .i64 h.id, .int .i64 h.fixed, .int .i64 h.ttl, .int .i64 h.frm, .int .i64 h.to, .int .i64 h.fromPort, .int .i64 h.toPort, .int .i64 0, .int .i64 0, .int .i64 h.type, .int .i64 h.seq, .int .i64 h.time, .int .i64 h.source] 23))
  have K3 := Lib.hid (heap_alloc_new w2 (.cells #[.int .i64 h.kind, .int .i64 h.tos, .int .i64 h.id, .int .i64 h.fixed, .int .i64 h.ttl, .int .i64 h.frm, .int .i64 h.to, .int .i64 h.fromPort, .int .i64 h.toPort, .int .i64 0, .int .i64 0, .int .i64 h.type, .int .i64 h.seq, .int .i64 h.time, .int .i64 h.source] 23))
  clear cd ch P0 P1 P2 B1 B2
  generalize w2.alloc (.cells #[.int .i64 h.kind, .int .i64 h.tos, .int .i64 h.id, .int .i64 h.fixed, .int .i64 h.ttl, .int .i64 h.frm, .int .i64 h.to, .int .i64 h.fromPort, .int .i64 h.toPort, .int .i64 0, .int .i64 0, .int .i64 h.type, .int .i64 h.seq, .int .i64 h.time, .int .i64 h.source] 23) = w3 at P3 B3 K3 ⊢
  have ch := cells_of P3.out.h
  go_upto_region 9 with (first
    | (go_at_call 37; refine (CS.out _).mono ?_; rintro e w4 ⟨rfl, hb⟩; have P4 := Lib.hid (P3.out.below hb); have K4 := Lib.hid ((hb.block _ (lt_of_block K3.out)).trans K3.out); have B4 := Lib.hid (B3.out.trans (hb.mono B3.out.size)); clear hb ch)
    | fail)
  have hc4 := cells_of K4.out
  have hf4 := frozen_of K4.out
  have ch := cells_of P4.out.h
  have cd := cells_of P4.out.d
  go_upto_region 11 with (first
    | (go_at_call 33; with_reducible refine (CT.out _).mono ?_; rintro e w' ⟨rfl, rfl⟩)
    | (go_at_call 33; refine (Low_any _ _ _).mono ?_; rintro e w' ⟨rfl, rfl⟩)
    | fail)
  clear hc4 hf4 ch cd
  have K5 := blk_set (blk_set K4.out 12 (.int .i64 (lowV 16 n))) 13 (.int .i64 tv)
  simp only [List.setIfInBounds_toArray, List.set_cons_succ, List.set_cons_zero] at K5
  have P5 := Lib.hid ((P4.out.set w2.heap.size hz2 12 (.int .i64 (lowV 16 n))).set w2.heap.size hz2 13 (.int .i64 tv))
  have B5 := Lib.hid (below_set (below_set B4.out (show w.heap.size ≤ w2.heap.size by omega) B4.out.size 12 (.int .i64 (lowV 16 n))) (show w.heap.size ≤ w2.heap.size by omega) (by simp; exact B4.out.size) 13 (.int .i64 tv))
  generalize (w4.setCell ⟨w2.heap.size, 12, none⟩ (.int .i64 (lowV 16 n))).setCell ⟨w2.heap.size, 13, none⟩ (.int .i64 tv) = w5 at K5 P5 B5 ⊢
  clear P4 K4 B4 P3 K3 B3
  have cd := cells_of P5.out.d
  have ch := cells_of P5.out.h
  replace K5 := Lib.hid K5
  go_upto_region 13 with (first
    | (go_at_call 38; refine (CF.out _).mono ?_; rintro e w6 ⟨rfl, hb⟩; have P6 := Lib.hid (P5.out.below hb); have K6 := Lib.hid ((hb.block _ (lt_of_block K5.out)).trans K5.out); have B6 := Lib.hid (B5.out.trans (hb.mono B5.out.size)); clear hb cd ch; have hc6 := cells_of K6.out; have hf6 := frozen_of K6.out)
    | fail)
  clear hc6 hf6
  have K8 := blk_set K6.out 2 (.int .i64 fv)
  simp only [List.setIfInBounds_toArray, List.set_cons_succ, List.set_cons_zero] at K8
  have P8 := Lib.hid (P6.out.set w2.heap.size hz2 2 (.int .i64 fv))
  have B8 := Lib.hid (below_set B6.out (show w.heap.size ≤ w2.heap.size by omega) B6.out.size 2 (.int .i64 fv))
  generalize w6.setCell ⟨w2.heap.size, 2, none⟩ (.int .i64 fv) = w8 at K8 P8 B8 ⊢
  clear P5 B5 P6 B6 K6
  have hcx := cells_of K8
  have hcz := cells_of P8.out.z
  have hfz := frozen_of P8.out.z
  go_wp2
  clear hcx hcz hfz
  refine at_put (Q := bodyPost _ _ _ _ _) ⟨h.kind, h.tos, fv, h.fixed, h.ttl, h.frm, h.to, h.fromPort, h.toPort, 0, 0, h.type, lowV 16 n, tv, h.source⟩ ⟨0, 0, 0, 0, 0, 0, 0, 0, 0, 0, 0, 0, 0, 0, 0⟩ _ (w.heap.size + 1 + 1) P8.out.z ?_
  intro w7 K7 G7
  have hc7 := cells_of K7
  refine bodyPost_ret (v := .agg #[.int .i64 h.kind, .int .i64 h.tos, .int .i64 fv, .int .i64 h.fixed, .int .i64 h.ttl, .int .i64 h.frm, .int .i64 h.to, .int .i64 h.fromPort, .int .i64 h.toPort, .int .i64 0, .int .i64 0, .int .i64 h.type, .int .i64 (lowV 16 n), .int .i64 tv, .int .i64 h.source]) (by simp [results, Try.results17, go_sem, hc7]) rfl ?_
  exact ⟨by simp only [E.out], B8.out.trans (Below.of_row G7 (fun q hq => by cases hq; omega) B8.out.size)⟩

theorem Predict_any (s f n : Int) (h : Hd) (w : World) (b : h.Fits) :
    Calls Try.prog 17 #[.agg #[.int .i64 s, .int .i64 f], (.agg #[.int .i64 h.kind, .int .i64 h.tos, .int .i64 h.id, .int .i64 h.fixed, .int .i64 h.ttl, .int .i64 h.frm, .int .i64 h.to, .int .i64 h.fromPort, .int .i64 h.toPort, .int .i64 h.check, .int .i64 h.marker, .int .i64 h.type, .int .i64 h.seq, .int .i64 h.time, .int .i64 h.source]), .int .i64 n] w fun e w' => e = .returned (.agg #[.int .i64 (predH s f h n).kind, .int .i64 (predH s f h n).tos, .int .i64 (predH s f h n).id, .int .i64 (predH s f h n).fixed, .int .i64 (predH s f h n).ttl, .int .i64 (predH s f h n).frm, .int .i64 (predH s f h n).to, .int .i64 (predH s f h n).fromPort, .int .i64 (predH s f h n).toPort, .int .i64 (predH s f h n).check, .int .i64 (predH s f h n).marker, .int .i64 (predH s f h n).type, .int .i64 (predH s f h n).seq, .int .i64 (predH s f h n).time, .int .i64 (predH s f h n).source]) ∧ Below w.heap.size w w' := by
  cases v : validB h with
  | false => exact Predict_inv s f n h w b v
  | true =>
    cases vd : dynB s f with
    | false => exact Predict_dyn s f n h w b v vd
    | true =>
      rcases (validB_of v).2 with ⟨k1, _⟩ | ⟨k2, _⟩
      · exact Predict_udp s f n h w b v vd k1
      · by_cases hf : f = 1
        · exact Predict_rtp1 s f n h w b v vd k2 hf
        · exact Predict_rtp0 s f n h w b v vd k2 hf
end Go.Proofs.Ytphekpkkeiaccaa
