/-
  Learn of layer 6, the program's.
-/
import Derived.Test.YtphekpkkeiaccaaFlPL
namespace Go.Proofs.Ytphekpkkeiaccaa
open Go Go.RowKit

set_option maxRecDepth 100000 in
set_option maxHeartbeats 3200000 in
theorem Learn_va (a b : Hd) (w : World) (fa : a.Fits) (fb : b.Fits) (va : validB a = false) :
    Calls Try.prog 19 #[(.agg #[.int .i64 a.kind, .int .i64 a.tos, .int .i64 a.id, .int .i64 a.fixed, .int .i64 a.ttl, .int .i64 a.frm, .int .i64 a.to, .int .i64 a.fromPort, .int .i64 a.toPort, .int .i64 a.check, .int .i64 a.marker, .int .i64 a.type, .int .i64 a.seq, .int .i64 a.time, .int .i64 a.source]), (.agg #[.int .i64 b.kind, .int .i64 b.tos, .int .i64 b.id, .int .i64 b.fixed, .int .i64 b.ttl, .int .i64 b.frm, .int .i64 b.to, .int .i64 b.fromPort, .int .i64 b.toPort, .int .i64 b.check, .int .i64 b.marker, .int .i64 b.type, .int .i64 b.seq, .int .i64 b.time, .int .i64 b.source])] w fun e w' => e = .returned (.agg #[.int .i64 (learnS a b), .int .i64 (learnF a b)]) ∧ Below w.heap.size w w' := by
  have E : Hid (learnB a b = false) := Lib.hid (decide_eq_false (by simp [va]))
  have P0 := Lib.hid (PL.laid w a b)
  have BW := Lib.hid (below_laid3 w (.cells #[.int .i64 a.kind, .int .i64 a.tos, .int .i64 a.id, .int .i64 a.fixed, .int .i64 a.ttl, .int .i64 a.frm, .int .i64 a.to, .int .i64 a.fromPort, .int .i64 a.toPort, .int .i64 a.check, .int .i64 a.marker, .int .i64 a.type, .int .i64 a.seq, .int .i64 a.time, .int .i64 a.source] 23) (.cells #[.int .i64 b.kind, .int .i64 b.tos, .int .i64 b.id, .int .i64 b.fixed, .int .i64 b.ttl, .int .i64 b.frm, .int .i64 b.to, .int .i64 b.fromPort, .int .i64 b.toPort, .int .i64 b.check, .int .i64 b.marker, .int .i64 b.type, .int .i64 b.seq, .int .i64 b.time, .int .i64 b.source] 23) (.cells #[.int .i64 0, .int .i64 0] 26))
  have CA := Lib.hid (fun W => Valid_any a W fa)
  have CB := Lib.hid (fun W => Valid_any b W fb)
  have CS := Lib.hid (flSame_any a b)
  rw [va] at CA
  clear va
  go_enter Try.func19, Try.ntmps19
  go_wp2_with (first
    | (go_at_call 35; ((with_reducible refine (CA.out _).mono ?_); rintro e w1 ⟨rfl, hb⟩; have P1 := Lib.hid (P0.out.below hb); have B1 := Lib.hid (BW.out.trans (hb.mono BW.out.size)); clear hb; have ca := cells_of P1.out.a; have cb := cells_of P1.out.b; have cz := cells_of P1.out.z; have fz := frozen_of P1.out.z))
    | (go_at_call 35; ((with_reducible refine (CB.out _).mono ?_); rintro e w2 ⟨rfl, hb⟩; have P2 := Lib.hid (P1.out.below hb); have B2 := Lib.hid (B1.out.trans (hb.mono B1.out.size)); clear hb ca cb cz fz; have ca := cells_of P2.out.a; have cb := cells_of P2.out.b; have cz := cells_of P2.out.z; have fz := frozen_of P2.out.z))
    | (go_at_call 9; refine (CS.out _).mono ?_; rintro e w3 ⟨rfl, hb⟩; have P3 := Lib.hid (P2.out.below hb); have B3 := Lib.hid (B2.out.trans (hb.mono B2.out.size)); clear hb ca cb cz fz; have ca := cells_of P3.out.a; have cb := cells_of P3.out.b; have cz := cells_of P3.out.z; have fz := frozen_of P3.out.z)
    | fail)
  clear ca cb cz fz
  refine at_put2 (Q := bodyPost _ _ _ _ _) 0 0 0 0 _ (w.heap.size + 1 + 1) P1.out.z ?_
  intro w9 K9 G9
  have hc9 := cells_of K9
  refine bodyPost_ret (v := .agg #[.int .i64 0, .int .i64 0]) (by simp [results, Try.results19, go_sem, hc9]) rfl ?_
  exact ⟨by simp only [learnS, learnF, E.out]; rfl, B1.out.trans (Below.of_row G9 (fun q hq => by cases hq; omega) B1.out.size)⟩

set_option maxRecDepth 100000 in
set_option maxHeartbeats 3200000 in
theorem Learn_vb (a b : Hd) (w : World) (fa : a.Fits) (fb : b.Fits) (va : validB a = true) (vb : validB b = false) :
    Calls Try.prog 19 #[(.agg #[.int .i64 a.kind, .int .i64 a.tos, .int .i64 a.id, .int .i64 a.fixed, .int .i64 a.ttl, .int .i64 a.frm, .int .i64 a.to, .int .i64 a.fromPort, .int .i64 a.toPort, .int .i64 a.check, .int .i64 a.marker, .int .i64 a.type, .int .i64 a.seq, .int .i64 a.time, .int .i64 a.source]), (.agg #[.int .i64 b.kind, .int .i64 b.tos, .int .i64 b.id, .int .i64 b.fixed, .int .i64 b.ttl, .int .i64 b.frm, .int .i64 b.to, .int .i64 b.fromPort, .int .i64 b.toPort, .int .i64 b.check, .int .i64 b.marker, .int .i64 b.type, .int .i64 b.seq, .int .i64 b.time, .int .i64 b.source])] w fun e w' => e = .returned (.agg #[.int .i64 (learnS a b), .int .i64 (learnF a b)]) ∧ Below w.heap.size w w' := by
  have E : Hid (learnB a b = false) := Lib.hid (decide_eq_false (by simp [vb]))
  have P0 := Lib.hid (PL.laid w a b)
  have BW := Lib.hid (below_laid3 w (.cells #[.int .i64 a.kind, .int .i64 a.tos, .int .i64 a.id, .int .i64 a.fixed, .int .i64 a.ttl, .int .i64 a.frm, .int .i64 a.to, .int .i64 a.fromPort, .int .i64 a.toPort, .int .i64 a.check, .int .i64 a.marker, .int .i64 a.type, .int .i64 a.seq, .int .i64 a.time, .int .i64 a.source] 23) (.cells #[.int .i64 b.kind, .int .i64 b.tos, .int .i64 b.id, .int .i64 b.fixed, .int .i64 b.ttl, .int .i64 b.frm, .int .i64 b.to, .int .i64 b.fromPort, .int .i64 b.toPort, .int .i64 b.check, .int .i64 b.marker, .int .i64 b.type, .int .i64 b.seq, .int .i64 b.time, .int .i64 b.source] 23) (.cells #[.int .i64 0, .int .i64 0] 26))
  have CA := Lib.hid (fun W => Valid_any a W fa)
  have CB := Lib.hid (fun W => Valid_any b W fb)
  have CS := Lib.hid (flSame_any a b)
  rw [va] at CA
  rw [vb] at CB
  clear va vb
  go_enter Try.func19, Try.ntmps19
  go_wp2_with (first
    | (go_at_call 35; ((with_reducible refine (CA.out _).mono ?_); rintro e w1 ⟨rfl, hb⟩; have P1 := Lib.hid (P0.out.below hb); have B1 := Lib.hid (BW.out.trans (hb.mono BW.out.size)); clear hb; have ca := cells_of P1.out.a; have cb := cells_of P1.out.b; have cz := cells_of P1.out.z; have fz := frozen_of P1.out.z))
    | (go_at_call 35; ((with_reducible refine (CB.out _).mono ?_); rintro e w2 ⟨rfl, hb⟩; have P2 := Lib.hid (P1.out.below hb); have B2 := Lib.hid (B1.out.trans (hb.mono B1.out.size)); clear hb ca cb cz fz; have ca := cells_of P2.out.a; have cb := cells_of P2.out.b; have cz := cells_of P2.out.z; have fz := frozen_of P2.out.z))
    | (go_at_call 9; refine (CS.out _).mono ?_; rintro e w3 ⟨rfl, hb⟩; have P3 := Lib.hid (P2.out.below hb); have B3 := Lib.hid (B2.out.trans (hb.mono B2.out.size)); clear hb ca cb cz fz; have ca := cells_of P3.out.a; have cb := cells_of P3.out.b; have cz := cells_of P3.out.z; have fz := frozen_of P3.out.z)
    | fail)
  clear ca cb cz fz
  refine at_put2 (Q := bodyPost _ _ _ _ _) 0 0 0 0 _ (w.heap.size + 1 + 1) P2.out.z ?_
  intro w9 K9 G9
  have hc9 := cells_of K9
  refine bodyPost_ret (v := .agg #[.int .i64 0, .int .i64 0]) (by simp [results, Try.results19, go_sem, hc9]) rfl ?_
  exact ⟨by simp only [learnS, learnF, E.out]; rfl, B2.out.trans (Below.of_row G9 (fun q hq => by cases hq; omega) B2.out.size)⟩

set_option maxRecDepth 100000 in
set_option maxHeartbeats 3200000 in
theorem Learn_kd (a b : Hd) (w : World) (fa : a.Fits) (fb : b.Fits) (va : validB a = true) (vb : validB b = true) (ka : a.kind ≠ 2) :
    Calls Try.prog 19 #[(.agg #[.int .i64 a.kind, .int .i64 a.tos, .int .i64 a.id, .int .i64 a.fixed, .int .i64 a.ttl, .int .i64 a.frm, .int .i64 a.to, .int .i64 a.fromPort, .int .i64 a.toPort, .int .i64 a.check, .int .i64 a.marker, .int .i64 a.type, .int .i64 a.seq, .int .i64 a.time, .int .i64 a.source]), (.agg #[.int .i64 b.kind, .int .i64 b.tos, .int .i64 b.id, .int .i64 b.fixed, .int .i64 b.ttl, .int .i64 b.frm, .int .i64 b.to, .int .i64 b.fromPort, .int .i64 b.toPort, .int .i64 b.check, .int .i64 b.marker, .int .i64 b.type, .int .i64 b.seq, .int .i64 b.time, .int .i64 b.source])] w fun e w' => e = .returned (.agg #[.int .i64 (learnS a b), .int .i64 (learnF a b)]) ∧ Below w.heap.size w w' := by
  have E : Hid (learnB a b = false) := Lib.hid (decide_eq_false (by simp [ka]))
  have P0 := Lib.hid (PL.laid w a b)
  have BW := Lib.hid (below_laid3 w (.cells #[.int .i64 a.kind, .int .i64 a.tos, .int .i64 a.id, .int .i64 a.fixed, .int .i64 a.ttl, .int .i64 a.frm, .int .i64 a.to, .int .i64 a.fromPort, .int .i64 a.toPort, .int .i64 a.check, .int .i64 a.marker, .int .i64 a.type, .int .i64 a.seq, .int .i64 a.time, .int .i64 a.source] 23) (.cells #[.int .i64 b.kind, .int .i64 b.tos, .int .i64 b.id, .int .i64 b.fixed, .int .i64 b.ttl, .int .i64 b.frm, .int .i64 b.to, .int .i64 b.fromPort, .int .i64 b.toPort, .int .i64 b.check, .int .i64 b.marker, .int .i64 b.type, .int .i64 b.seq, .int .i64 b.time, .int .i64 b.source] 23) (.cells #[.int .i64 0, .int .i64 0] 26))
  have CA := Lib.hid (fun W => Valid_any a W fa)
  have CB := Lib.hid (fun W => Valid_any b W fb)
  have CS := Lib.hid (flSame_any a b)
  rw [va] at CA
  rw [vb] at CB
  have KA : (a.kind != 2) = true := by simpa using ka
  clear va vb ka
  go_enter Try.func19, Try.ntmps19
  go_wp2_with (first
    | (go_at_call 35; ((with_reducible refine (CA.out _).mono ?_); rintro e w1 ⟨rfl, hb⟩; have P1 := Lib.hid (P0.out.below hb); have B1 := Lib.hid (BW.out.trans (hb.mono BW.out.size)); clear hb; have ca := cells_of P1.out.a; have cb := cells_of P1.out.b; have cz := cells_of P1.out.z; have fz := frozen_of P1.out.z))
    | (go_at_call 35; ((with_reducible refine (CB.out _).mono ?_); rintro e w2 ⟨rfl, hb⟩; have P2 := Lib.hid (P1.out.below hb); have B2 := Lib.hid (B1.out.trans (hb.mono B1.out.size)); clear hb ca cb cz fz; have ca := cells_of P2.out.a; have cb := cells_of P2.out.b; have cz := cells_of P2.out.z; have fz := frozen_of P2.out.z))
    | (go_at_call 9; refine (CS.out _).mono ?_; rintro e w3 ⟨rfl, hb⟩; have P3 := Lib.hid (P2.out.below hb); have B3 := Lib.hid (B2.out.trans (hb.mono B2.out.size)); clear hb ca cb cz fz; have ca := cells_of P3.out.a; have cb := cells_of P3.out.b; have cz := cells_of P3.out.z; have fz := frozen_of P3.out.z)
    | fail)
  clear ca cb cz fz
  refine at_put2 (Q := bodyPost _ _ _ _ _) 0 0 0 0 _ (w.heap.size + 1 + 1) P2.out.z ?_
  intro w9 K9 G9
  have hc9 := cells_of K9
  refine bodyPost_ret (v := .agg #[.int .i64 0, .int .i64 0]) (by simp [results, Try.results19, go_sem, hc9]) rfl ?_
  exact ⟨by simp only [learnS, learnF, E.out]; rfl, B2.out.trans (Below.of_row G9 (fun q hq => by cases hq; omega) B2.out.size)⟩

set_option maxRecDepth 100000 in
set_option maxHeartbeats 3200000 in
theorem Learn_sm (a b : Hd) (w : World) (fa : a.Fits) (fb : b.Fits) (va : validB a = true) (vb : validB b = true) (ka : a.kind = 2) (hs : sameB a b = false) :
    Calls Try.prog 19 #[(.agg #[.int .i64 a.kind, .int .i64 a.tos, .int .i64 a.id, .int .i64 a.fixed, .int .i64 a.ttl, .int .i64 a.frm, .int .i64 a.to, .int .i64 a.fromPort, .int .i64 a.toPort, .int .i64 a.check, .int .i64 a.marker, .int .i64 a.type, .int .i64 a.seq, .int .i64 a.time, .int .i64 a.source]), (.agg #[.int .i64 b.kind, .int .i64 b.tos, .int .i64 b.id, .int .i64 b.fixed, .int .i64 b.ttl, .int .i64 b.frm, .int .i64 b.to, .int .i64 b.fromPort, .int .i64 b.toPort, .int .i64 b.check, .int .i64 b.marker, .int .i64 b.type, .int .i64 b.seq, .int .i64 b.time, .int .i64 b.source])] w fun e w' => e = .returned (.agg #[.int .i64 (learnS a b), .int .i64 (learnF a b)]) ∧ Below w.heap.size w w' := by
  have E : Hid (learnB a b = false) := Lib.hid (decide_eq_false (by simp [hs]))
  have P0 := Lib.hid (PL.laid w a b)
  have BW := Lib.hid (below_laid3 w (.cells #[.int .i64 a.kind, .int .i64 a.tos, .int .i64 a.id, .int .i64 a.fixed, .int .i64 a.ttl, .int .i64 a.frm, .int .i64 a.to, .int .i64 a.fromPort, .int .i64 a.toPort, .int .i64 a.check, .int .i64 a.marker, .int .i64 a.type, .int .i64 a.seq, .int .i64 a.time, .int .i64 a.source] 23) (.cells #[.int .i64 b.kind, .int .i64 b.tos, .int .i64 b.id, .int .i64 b.fixed, .int .i64 b.ttl, .int .i64 b.frm, .int .i64 b.to, .int .i64 b.fromPort, .int .i64 b.toPort, .int .i64 b.check, .int .i64 b.marker, .int .i64 b.type, .int .i64 b.seq, .int .i64 b.time, .int .i64 b.source] 23) (.cells #[.int .i64 0, .int .i64 0] 26))
  have CA := Lib.hid (fun W => Valid_any a W fa)
  have CB := Lib.hid (fun W => Valid_any b W fb)
  have CS := Lib.hid (flSame_any a b)
  rw [va] at CA
  rw [vb] at CB
  rw [hs] at CS
  have KA : (a.kind != 2) = false := by rw [ka]; rfl
  clear va vb ka hs
  go_enter Try.func19, Try.ntmps19
  go_wp2_with (first
    | (go_at_call 35; ((with_reducible refine (CA.out _).mono ?_); rintro e w1 ⟨rfl, hb⟩; have P1 := Lib.hid (P0.out.below hb); have B1 := Lib.hid (BW.out.trans (hb.mono BW.out.size)); clear hb; have ca := cells_of P1.out.a; have cb := cells_of P1.out.b; have cz := cells_of P1.out.z; have fz := frozen_of P1.out.z))
    | (go_at_call 35; ((with_reducible refine (CB.out _).mono ?_); rintro e w2 ⟨rfl, hb⟩; have P2 := Lib.hid (P1.out.below hb); have B2 := Lib.hid (B1.out.trans (hb.mono B1.out.size)); clear hb ca cb cz fz; have ca := cells_of P2.out.a; have cb := cells_of P2.out.b; have cz := cells_of P2.out.z; have fz := frozen_of P2.out.z))
    | (go_at_call 9; refine (CS.out _).mono ?_; rintro e w3 ⟨rfl, hb⟩; have P3 := Lib.hid (P2.out.below hb); have B3 := Lib.hid (B2.out.trans (hb.mono B2.out.size)); clear hb ca cb cz fz; have ca := cells_of P3.out.a; have cb := cells_of P3.out.b; have cz := cells_of P3.out.z; have fz := frozen_of P3.out.z)
    | fail)
  clear ca cb cz fz
  refine at_put2 (Q := bodyPost _ _ _ _ _) 0 0 0 0 _ (w.heap.size + 1 + 1) P3.out.z ?_
  intro w9 K9 G9
  have hc9 := cells_of K9
  refine bodyPost_ret (v := .agg #[.int .i64 0, .int .i64 0]) (by simp [results, Try.results19, go_sem, hc9]) rfl ?_
  exact ⟨by simp only [learnS, learnF, E.out]; rfl, B3.out.trans (Below.of_row G9 (fun q hq => by cases hq; omega) B3.out.size)⟩

set_option maxRecDepth 100000 in
set_option maxHeartbeats 3200000 in
theorem Learn_ok1 (a b : Hd) (w : World) (fa : a.Fits) (fb : b.Fits) (va : validB a = true) (vb : validB b = true) (ka : a.kind = 2) (hs : sameB a b = true) (hf : b.id = folV a (stepV a (numV b))) :
    Calls Try.prog 19 #[(.agg #[.int .i64 a.kind, .int .i64 a.tos, .int .i64 a.id, .int .i64 a.fixed, .int .i64 a.ttl, .int .i64 a.frm, .int .i64 a.to, .int .i64 a.fromPort, .int .i64 a.toPort, .int .i64 a.check, .int .i64 a.marker, .int .i64 a.type, .int .i64 a.seq, .int .i64 a.time, .int .i64 a.source]), (.agg #[.int .i64 b.kind, .int .i64 b.tos, .int .i64 b.id, .int .i64 b.fixed, .int .i64 b.ttl, .int .i64 b.frm, .int .i64 b.to, .int .i64 b.fromPort, .int .i64 b.toPort, .int .i64 b.check, .int .i64 b.marker, .int .i64 b.type, .int .i64 b.seq, .int .i64 b.time, .int .i64 b.source])] w fun e w' => e = .returned (.agg #[.int .i64 (learnS a b), .int .i64 (learnF a b)]) ∧ Below w.heap.size w w' := by
  have EB : learnB a b = true := decide_eq_true ⟨va, vb, ka, hs⟩
  have E1 := Lib.hid (show learnS a b = strV (sigV 32 a.time b.time) (stepV a (numV b)) by unfold learnS; rw [EB]; rfl)
  have E2 := Lib.hid (show learnF a b = 1 by unfold learnF; rw [EB, if_pos rfl, if_pos hf])
  have P0 := Lib.hid (PL.laid w a b)
  have BW := Lib.hid (below_laid3 w (.cells #[.int .i64 a.kind, .int .i64 a.tos, .int .i64 a.id, .int .i64 a.fixed, .int .i64 a.ttl, .int .i64 a.frm, .int .i64 a.to, .int .i64 a.fromPort, .int .i64 a.toPort, .int .i64 a.check, .int .i64 a.marker, .int .i64 a.type, .int .i64 a.seq, .int .i64 a.time, .int .i64 a.source] 23) (.cells #[.int .i64 b.kind, .int .i64 b.tos, .int .i64 b.id, .int .i64 b.fixed, .int .i64 b.ttl, .int .i64 b.frm, .int .i64 b.to, .int .i64 b.fromPort, .int .i64 b.toPort, .int .i64 b.check, .int .i64 b.marker, .int .i64 b.type, .int .i64 b.seq, .int .i64 b.time, .int .i64 b.source] 23) (.cells #[.int .i64 0, .int .i64 0] 26))
  have CA := Lib.hid (fun W => Valid_any a W fa)
  have CB := Lib.hid (fun W => Valid_any b W fb)
  have CS := Lib.hid (flSame_any a b)
  rw [va] at CA
  rw [vb] at CB
  rw [hs] at CS
  have KA : (a.kind != 2) = false := by rw [ka]; rfl
  have HT := sigV_bd 32 a.time b.time
  have CN := Lib.hid (Number_any b)
  have CT := Lib.hid (step_any a (numV b))
  have CF := Lib.hid (following_any a (stepV a (numV b)))
  generalize stepV a (numV b) = st at CT CF E1 hf
  generalize numV b = nb at CN CT
  generalize folV a st = fv at CF hf
  have FE : (b.id == fv) = true := by rw [hf]; simp
  clear va vb ka hs hf EB
  have CG32 := Lib.hid (fun W => Signed_any 32 a.time b.time W)
  generalize sigV 32 a.time b.time = tt at CG32 E1 HT
  have CR := Lib.hid (fun W => stride_any tt st W HT)
  generalize strV tt st = sv at CR E1
  clear HT
  go_enter Try.func19, Try.ntmps19
  go_upto_region 3 with (first
    | (go_at_call 35; ((with_reducible refine (CA.out _).mono ?_); rintro e w1 ⟨rfl, hb⟩; have P1 := Lib.hid (P0.out.below hb); have B1 := Lib.hid (BW.out.trans (hb.mono BW.out.size)); clear hb; have ca := cells_of P1.out.a; have cb := cells_of P1.out.b; have cz := cells_of P1.out.z; have fz := frozen_of P1.out.z))
    | (go_at_call 35; ((with_reducible refine (CB.out _).mono ?_); rintro e w2 ⟨rfl, hb⟩; have P2 := Lib.hid (P1.out.below hb); have B2 := Lib.hid (B1.out.trans (hb.mono B1.out.size)); clear hb ca cb cz fz; have ca := cells_of P2.out.a; have cb := cells_of P2.out.b; have cz := cells_of P2.out.z; have fz := frozen_of P2.out.z))
    | (go_at_call 9; refine (CS.out _).mono ?_; rintro e w3 ⟨rfl, hb⟩; have P3 := Lib.hid (P2.out.below hb); have B3 := Lib.hid (B2.out.trans (hb.mono B2.out.size)); clear hb ca cb cz fz; have ca := cells_of P3.out.a; have cb := cells_of P3.out.b; have cz := cells_of P3.out.z; have fz := frozen_of P3.out.z)
    | fail)
  clear cz fz P0 P1 P2 B1 B2
  have q3 : (w3.cell? ⟨w.heap.size, 0, none⟩ = some (.int .i64 a.kind) ∧ w3.cell? ⟨w.heap.size, 1, none⟩ = some (.int .i64 a.tos) ∧ w3.cell? ⟨w.heap.size, 2, none⟩ = some (.int .i64 a.id) ∧ w3.cell? ⟨w.heap.size, 3, none⟩ = some (.int .i64 a.fixed) ∧ w3.cell? ⟨w.heap.size, 4, none⟩ = some (.int .i64 a.ttl) ∧ w3.cell? ⟨w.heap.size, 5, none⟩ = some (.int .i64 a.frm) ∧ w3.cell? ⟨w.heap.size, 6, none⟩ = some (.int .i64 a.to) ∧ w3.cell? ⟨w.heap.size, 7, none⟩ = some (.int .i64 a.fromPort) ∧ w3.cell? ⟨w.heap.size, 8, none⟩ = some (.int .i64 a.toPort) ∧ w3.cell? ⟨w.heap.size, 9, none⟩ = some (.int .i64 a.check) ∧ w3.cell? ⟨w.heap.size, 10, none⟩ = some (.int .i64 a.marker) ∧ w3.cell? ⟨w.heap.size, 11, none⟩ = some (.int .i64 a.type) ∧ w3.cell? ⟨w.heap.size, 12, none⟩ = some (.int .i64 a.seq) ∧ w3.cell? ⟨w.heap.size, 13, none⟩ = some (.int .i64 a.time) ∧ w3.cell? ⟨w.heap.size, 14, none⟩ = some (.int .i64 a.source)) ∧ (w3.cell? ⟨w.heap.size + 1, 0, none⟩ = some (.int .i64 b.kind) ∧ w3.cell? ⟨w.heap.size + 1, 1, none⟩ = some (.int .i64 b.tos) ∧ w3.cell? ⟨w.heap.size + 1, 2, none⟩ = some (.int .i64 b.id) ∧ w3.cell? ⟨w.heap.size + 1, 3, none⟩ = some (.int .i64 b.fixed) ∧ w3.cell? ⟨w.heap.size + 1, 4, none⟩ = some (.int .i64 b.ttl) ∧ w3.cell? ⟨w.heap.size + 1, 5, none⟩ = some (.int .i64 b.frm) ∧ w3.cell? ⟨w.heap.size + 1, 6, none⟩ = some (.int .i64 b.to) ∧ w3.cell? ⟨w.heap.size + 1, 7, none⟩ = some (.int .i64 b.fromPort) ∧ w3.cell? ⟨w.heap.size + 1, 8, none⟩ = some (.int .i64 b.toPort) ∧ w3.cell? ⟨w.heap.size + 1, 9, none⟩ = some (.int .i64 b.check) ∧ w3.cell? ⟨w.heap.size + 1, 10, none⟩ = some (.int .i64 b.marker) ∧ w3.cell? ⟨w.heap.size + 1, 11, none⟩ = some (.int .i64 b.type) ∧ w3.cell? ⟨w.heap.size + 1, 12, none⟩ = some (.int .i64 b.seq) ∧ w3.cell? ⟨w.heap.size + 1, 13, none⟩ = some (.int .i64 b.time) ∧ w3.cell? ⟨w.heap.size + 1, 14, none⟩ = some (.int .i64 b.source)) := ⟨cells_conj a P3.out.a, cells_conj b P3.out.b⟩
  clear ca cb
  go_region_held3 (fun w' => (w'.cell? ⟨w.heap.size, 0, none⟩ = some (.int .i64 a.kind) ∧ w'.cell? ⟨w.heap.size, 1, none⟩ = some (.int .i64 a.tos) ∧ w'.cell? ⟨w.heap.size, 2, none⟩ = some (.int .i64 a.id) ∧ w'.cell? ⟨w.heap.size, 3, none⟩ = some (.int .i64 a.fixed) ∧ w'.cell? ⟨w.heap.size, 4, none⟩ = some (.int .i64 a.ttl) ∧ w'.cell? ⟨w.heap.size, 5, none⟩ = some (.int .i64 a.frm) ∧ w'.cell? ⟨w.heap.size, 6, none⟩ = some (.int .i64 a.to) ∧ w'.cell? ⟨w.heap.size, 7, none⟩ = some (.int .i64 a.fromPort) ∧ w'.cell? ⟨w.heap.size, 8, none⟩ = some (.int .i64 a.toPort) ∧ w'.cell? ⟨w.heap.size, 9, none⟩ = some (.int .i64 a.check) ∧ w'.cell? ⟨w.heap.size, 10, none⟩ = some (.int .i64 a.marker) ∧ w'.cell? ⟨w.heap.size, 11, none⟩ = some (.int .i64 a.type) ∧ w'.cell? ⟨w.heap.size, 12, none⟩ = some (.int .i64 a.seq) ∧ w'.cell? ⟨w.heap.size, 13, none⟩ = some (.int .i64 a.time) ∧ w'.cell? ⟨w.heap.size, 14, none⟩ = some (.int .i64 a.source)) ∧ (w'.cell? ⟨w.heap.size + 1, 0, none⟩ = some (.int .i64 b.kind) ∧ w'.cell? ⟨w.heap.size + 1, 1, none⟩ = some (.int .i64 b.tos) ∧ w'.cell? ⟨w.heap.size + 1, 2, none⟩ = some (.int .i64 b.id) ∧ w'.cell? ⟨w.heap.size + 1, 3, none⟩ = some (.int .i64 b.fixed) ∧ w'.cell? ⟨w.heap.size + 1, 4, none⟩ = some (.int .i64 b.ttl) ∧ w'.cell? ⟨w.heap.size + 1, 5, none⟩ = some (.int .i64 b.frm) ∧ w'.cell? ⟨w.heap.size + 1, 6, none⟩ = some (.int .i64 b.to) ∧ w'.cell? ⟨w.heap.size + 1, 7, none⟩ = some (.int .i64 b.fromPort) ∧ w'.cell? ⟨w.heap.size + 1, 8, none⟩ = some (.int .i64 b.toPort) ∧ w'.cell? ⟨w.heap.size + 1, 9, none⟩ = some (.int .i64 b.check) ∧ w'.cell? ⟨w.heap.size + 1, 10, none⟩ = some (.int .i64 b.marker) ∧ w'.cell? ⟨w.heap.size + 1, 11, none⟩ = some (.int .i64 b.type) ∧ w'.cell? ⟨w.heap.size + 1, 12, none⟩ = some (.int .i64 b.seq) ∧ w'.cell? ⟨w.heap.size + 1, 13, none⟩ = some (.int .i64 b.time) ∧ w'.cell? ⟨w.heap.size + 1, 14, none⟩ = some (.int .i64 b.source))) (first | with_reducible exact q3 | with_reducible exact q4 | with_reducible exact q5 | exact q3 | go_keep) (first
    | (go_at_call 13; ((with_reducible refine (CN.out _).mono ?_); rintro e w4 ⟨rfl, hb⟩; have P4 := Lib.hid (P3.out.drew.below hb); have q4 : (w4.cell? ⟨w.heap.size, 0, none⟩ = some (.int .i64 a.kind) ∧ w4.cell? ⟨w.heap.size, 1, none⟩ = some (.int .i64 a.tos) ∧ w4.cell? ⟨w.heap.size, 2, none⟩ = some (.int .i64 a.id) ∧ w4.cell? ⟨w.heap.size, 3, none⟩ = some (.int .i64 a.fixed) ∧ w4.cell? ⟨w.heap.size, 4, none⟩ = some (.int .i64 a.ttl) ∧ w4.cell? ⟨w.heap.size, 5, none⟩ = some (.int .i64 a.frm) ∧ w4.cell? ⟨w.heap.size, 6, none⟩ = some (.int .i64 a.to) ∧ w4.cell? ⟨w.heap.size, 7, none⟩ = some (.int .i64 a.fromPort) ∧ w4.cell? ⟨w.heap.size, 8, none⟩ = some (.int .i64 a.toPort) ∧ w4.cell? ⟨w.heap.size, 9, none⟩ = some (.int .i64 a.check) ∧ w4.cell? ⟨w.heap.size, 10, none⟩ = some (.int .i64 a.marker) ∧ w4.cell? ⟨w.heap.size, 11, none⟩ = some (.int .i64 a.type) ∧ w4.cell? ⟨w.heap.size, 12, none⟩ = some (.int .i64 a.seq) ∧ w4.cell? ⟨w.heap.size, 13, none⟩ = some (.int .i64 a.time) ∧ w4.cell? ⟨w.heap.size, 14, none⟩ = some (.int .i64 a.source)) ∧ (w4.cell? ⟨w.heap.size + 1, 0, none⟩ = some (.int .i64 b.kind) ∧ w4.cell? ⟨w.heap.size + 1, 1, none⟩ = some (.int .i64 b.tos) ∧ w4.cell? ⟨w.heap.size + 1, 2, none⟩ = some (.int .i64 b.id) ∧ w4.cell? ⟨w.heap.size + 1, 3, none⟩ = some (.int .i64 b.fixed) ∧ w4.cell? ⟨w.heap.size + 1, 4, none⟩ = some (.int .i64 b.ttl) ∧ w4.cell? ⟨w.heap.size + 1, 5, none⟩ = some (.int .i64 b.frm) ∧ w4.cell? ⟨w.heap.size + 1, 6, none⟩ = some (.int .i64 b.to) ∧ w4.cell? ⟨w.heap.size + 1, 7, none⟩ = some (.int .i64 b.fromPort) ∧ w4.cell? ⟨w.heap.size + 1, 8, none⟩ = some (.int .i64 b.toPort) ∧ w4.cell? ⟨w.heap.size + 1, 9, none⟩ = some (.int .i64 b.check) ∧ w4.cell? ⟨w.heap.size + 1, 10, none⟩ = some (.int .i64 b.marker) ∧ w4.cell? ⟨w.heap.size + 1, 11, none⟩ = some (.int .i64 b.type) ∧ w4.cell? ⟨w.heap.size + 1, 12, none⟩ = some (.int .i64 b.seq) ∧ w4.cell? ⟨w.heap.size + 1, 13, none⟩ = some (.int .i64 b.time) ∧ w4.cell? ⟨w.heap.size + 1, 14, none⟩ = some (.int .i64 b.source)) := ⟨cells_conj a P4.out.a, cells_conj b P4.out.b⟩; have B4 := Lib.hid (B3.out.drew.trans (hb.mono B3.out.drew.size)); clear hb q3))
    | (go_at_call 37; ((with_reducible refine (CT.out _).mono ?_); rintro e w5 ⟨rfl, hb⟩; have P5 := Lib.hid (P4.out.below hb); have q5 : (w5.cell? ⟨w.heap.size, 0, none⟩ = some (.int .i64 a.kind) ∧ w5.cell? ⟨w.heap.size, 1, none⟩ = some (.int .i64 a.tos) ∧ w5.cell? ⟨w.heap.size, 2, none⟩ = some (.int .i64 a.id) ∧ w5.cell? ⟨w.heap.size, 3, none⟩ = some (.int .i64 a.fixed) ∧ w5.cell? ⟨w.heap.size, 4, none⟩ = some (.int .i64 a.ttl) ∧ w5.cell? ⟨w.heap.size, 5, none⟩ = some (.int .i64 a.frm) ∧ w5.cell? ⟨w.heap.size, 6, none⟩ = some (.int .i64 a.to) ∧ w5.cell? ⟨w.heap.size, 7, none⟩ = some (.int .i64 a.fromPort) ∧ w5.cell? ⟨w.heap.size, 8, none⟩ = some (.int .i64 a.toPort) ∧ w5.cell? ⟨w.heap.size, 9, none⟩ = some (.int .i64 a.check) ∧ w5.cell? ⟨w.heap.size, 10, none⟩ = some (.int .i64 a.marker) ∧ w5.cell? ⟨w.heap.size, 11, none⟩ = some (.int .i64 a.type) ∧ w5.cell? ⟨w.heap.size, 12, none⟩ = some (.int .i64 a.seq) ∧ w5.cell? ⟨w.heap.size, 13, none⟩ = some (.int .i64 a.time) ∧ w5.cell? ⟨w.heap.size, 14, none⟩ = some (.int .i64 a.source)) ∧ (w5.cell? ⟨w.heap.size + 1, 0, none⟩ = some (.int .i64 b.kind) ∧ w5.cell? ⟨w.heap.size + 1, 1, none⟩ = some (.int .i64 b.tos) ∧ w5.cell? ⟨w.heap.size + 1, 2, none⟩ = some (.int .i64 b.id) ∧ w5.cell? ⟨w.heap.size + 1, 3, none⟩ = some (.int .i64 b.fixed) ∧ w5.cell? ⟨w.heap.size + 1, 4, none⟩ = some (.int .i64 b.ttl) ∧ w5.cell? ⟨w.heap.size + 1, 5, none⟩ = some (.int .i64 b.frm) ∧ w5.cell? ⟨w.heap.size + 1, 6, none⟩ = some (.int .i64 b.to) ∧ w5.cell? ⟨w.heap.size + 1, 7, none⟩ = some (.int .i64 b.fromPort) ∧ w5.cell? ⟨w.heap.size + 1, 8, none⟩ = some (.int .i64 b.toPort) ∧ w5.cell? ⟨w.heap.size + 1, 9, none⟩ = some (.int .i64 b.check) ∧ w5.cell? ⟨w.heap.size + 1, 10, none⟩ = some (.int .i64 b.marker) ∧ w5.cell? ⟨w.heap.size + 1, 11, none⟩ = some (.int .i64 b.type) ∧ w5.cell? ⟨w.heap.size + 1, 12, none⟩ = some (.int .i64 b.seq) ∧ w5.cell? ⟨w.heap.size + 1, 13, none⟩ = some (.int .i64 b.time) ∧ w5.cell? ⟨w.heap.size + 1, 14, none⟩ = some (.int .i64 b.source)) := ⟨cells_conj a P5.out.a, cells_conj b P5.out.b⟩; have B5 := Lib.hid (B4.out.trans (hb.mono B4.out.size)); clear hb q4))
    | fail)
  clear q5 P3 P4 B3 B4
  have ca := cells_of P5.out.a
  have cb := cells_of P5.out.b
  go_upto_region 5 with (first
    | (go_at_call 40; refine (CG32.out _).mono ?_; rintro e w' ⟨rfl, rfl⟩)
    | (go_at_call 39; refine (CR.out _).mono ?_; rintro e w' ⟨rfl, rfl⟩)
    | fail)
  have hz : w.heap.size + 1 + 1 < w5.heap.size := lt_of_block P5.out.z
  have P6 := Lib.hid (P5.out.alloc (.cells #[.int .i64 sv, .int .i64 0] 26))
  have K6 := Lib.hid (heap_alloc_new w5 (.cells #[.int .i64 sv, .int .i64 0] 26))
  have B6 := Lib.hid (B5.out.alloc B5.out.size (.cells #[.int .i64 sv, .int .i64 0] 26))
  clear ca cb P5 B5
  generalize w5.alloc (.cells #[.int .i64 sv, .int .i64 0] 26) = w6 at P6 K6 B6 ⊢
  have q6 : (w6.cell? ⟨w.heap.size, 0, none⟩ = some (.int .i64 a.kind) ∧ w6.cell? ⟨w.heap.size, 1, none⟩ = some (.int .i64 a.tos) ∧ w6.cell? ⟨w.heap.size, 2, none⟩ = some (.int .i64 a.id) ∧ w6.cell? ⟨w.heap.size, 3, none⟩ = some (.int .i64 a.fixed) ∧ w6.cell? ⟨w.heap.size, 4, none⟩ = some (.int .i64 a.ttl) ∧ w6.cell? ⟨w.heap.size, 5, none⟩ = some (.int .i64 a.frm) ∧ w6.cell? ⟨w.heap.size, 6, none⟩ = some (.int .i64 a.to) ∧ w6.cell? ⟨w.heap.size, 7, none⟩ = some (.int .i64 a.fromPort) ∧ w6.cell? ⟨w.heap.size, 8, none⟩ = some (.int .i64 a.toPort) ∧ w6.cell? ⟨w.heap.size, 9, none⟩ = some (.int .i64 a.check) ∧ w6.cell? ⟨w.heap.size, 10, none⟩ = some (.int .i64 a.marker) ∧ w6.cell? ⟨w.heap.size, 11, none⟩ = some (.int .i64 a.type) ∧ w6.cell? ⟨w.heap.size, 12, none⟩ = some (.int .i64 a.seq) ∧ w6.cell? ⟨w.heap.size, 13, none⟩ = some (.int .i64 a.time) ∧ w6.cell? ⟨w.heap.size, 14, none⟩ = some (.int .i64 a.source)) ∧ w6.cell? ⟨w.heap.size + 1, 2, none⟩ = some (.int .i64 b.id) := ⟨cells_conj a P6.out.a, cells_of P6.out.b 2⟩
  go_region_held3 (fun w' => (w'.cell? ⟨w.heap.size, 0, none⟩ = some (.int .i64 a.kind) ∧ w'.cell? ⟨w.heap.size, 1, none⟩ = some (.int .i64 a.tos) ∧ w'.cell? ⟨w.heap.size, 2, none⟩ = some (.int .i64 a.id) ∧ w'.cell? ⟨w.heap.size, 3, none⟩ = some (.int .i64 a.fixed) ∧ w'.cell? ⟨w.heap.size, 4, none⟩ = some (.int .i64 a.ttl) ∧ w'.cell? ⟨w.heap.size, 5, none⟩ = some (.int .i64 a.frm) ∧ w'.cell? ⟨w.heap.size, 6, none⟩ = some (.int .i64 a.to) ∧ w'.cell? ⟨w.heap.size, 7, none⟩ = some (.int .i64 a.fromPort) ∧ w'.cell? ⟨w.heap.size, 8, none⟩ = some (.int .i64 a.toPort) ∧ w'.cell? ⟨w.heap.size, 9, none⟩ = some (.int .i64 a.check) ∧ w'.cell? ⟨w.heap.size, 10, none⟩ = some (.int .i64 a.marker) ∧ w'.cell? ⟨w.heap.size, 11, none⟩ = some (.int .i64 a.type) ∧ w'.cell? ⟨w.heap.size, 12, none⟩ = some (.int .i64 a.seq) ∧ w'.cell? ⟨w.heap.size, 13, none⟩ = some (.int .i64 a.time) ∧ w'.cell? ⟨w.heap.size, 14, none⟩ = some (.int .i64 a.source)) ∧ w'.cell? ⟨w.heap.size + 1, 2, none⟩ = some (.int .i64 b.id)) (first | with_reducible exact q6 | with_reducible exact q7 | exact q6 | go_keep) (first
    | (go_at_call 38; ((with_reducible refine (CF.out _).mono ?_); rintro e w7 ⟨rfl, hb⟩; have P7 := Lib.hid (P6.out.drew.below hb); have K7 := Lib.hid ((hb.block _ (lt_of_block K6.out)).trans K6.out); have q7 : (w7.cell? ⟨w.heap.size, 0, none⟩ = some (.int .i64 a.kind) ∧ w7.cell? ⟨w.heap.size, 1, none⟩ = some (.int .i64 a.tos) ∧ w7.cell? ⟨w.heap.size, 2, none⟩ = some (.int .i64 a.id) ∧ w7.cell? ⟨w.heap.size, 3, none⟩ = some (.int .i64 a.fixed) ∧ w7.cell? ⟨w.heap.size, 4, none⟩ = some (.int .i64 a.ttl) ∧ w7.cell? ⟨w.heap.size, 5, none⟩ = some (.int .i64 a.frm) ∧ w7.cell? ⟨w.heap.size, 6, none⟩ = some (.int .i64 a.to) ∧ w7.cell? ⟨w.heap.size, 7, none⟩ = some (.int .i64 a.fromPort) ∧ w7.cell? ⟨w.heap.size, 8, none⟩ = some (.int .i64 a.toPort) ∧ w7.cell? ⟨w.heap.size, 9, none⟩ = some (.int .i64 a.check) ∧ w7.cell? ⟨w.heap.size, 10, none⟩ = some (.int .i64 a.marker) ∧ w7.cell? ⟨w.heap.size, 11, none⟩ = some (.int .i64 a.type) ∧ w7.cell? ⟨w.heap.size, 12, none⟩ = some (.int .i64 a.seq) ∧ w7.cell? ⟨w.heap.size, 13, none⟩ = some (.int .i64 a.time) ∧ w7.cell? ⟨w.heap.size, 14, none⟩ = some (.int .i64 a.source)) ∧ w7.cell? ⟨w.heap.size + 1, 2, none⟩ = some (.int .i64 b.id) := ⟨cells_conj a P7.out.a, cells_of P7.out.b 2⟩; have B7 := Lib.hid (B6.out.drew.trans (hb.mono B6.out.drew.size)); clear hb q6))
    | fail)
  clear q7 P6 K6 B6
  have cz := cells_of P7.out.z
  have fz := frozen_of P7.out.z
  have ca := cells_of K7.out
  have cb := frozen_of K7.out
  go_wp2
  have P8 := Lib.hid (P7.out.set w5.heap.size hz 1 (.int .i64 1))
  have B8 := Lib.hid (below_set B7.out (show w.heap.size ≤ w5.heap.size by omega) B7.out.size 1 (.int .i64 1))
  clear ca cb cz fz
  refine at_put2 (Q := bodyPost _ _ _ _ _) sv 1 0 0 _ (w.heap.size + 1 + 1) P8.out.z ?_
  intro w9 K9 G9
  have hc9 := cells_of K9
  refine bodyPost_ret (v := .agg #[.int .i64 sv, .int .i64 1]) (by simp [results, Try.results19, go_sem, hc9]) rfl ?_
  exact ⟨by simp only [E1.out, E2.out], B8.out.trans (Below.of_row G9 (fun q hq => by cases hq; omega) B8.out.size)⟩

set_option maxRecDepth 100000 in
set_option maxHeartbeats 3200000 in
theorem Learn_ok0 (a b : Hd) (w : World) (fa : a.Fits) (fb : b.Fits) (va : validB a = true) (vb : validB b = true) (ka : a.kind = 2) (hs : sameB a b = true) (hf : b.id ≠ folV a (stepV a (numV b))) :
    Calls Try.prog 19 #[(.agg #[.int .i64 a.kind, .int .i64 a.tos, .int .i64 a.id, .int .i64 a.fixed, .int .i64 a.ttl, .int .i64 a.frm, .int .i64 a.to, .int .i64 a.fromPort, .int .i64 a.toPort, .int .i64 a.check, .int .i64 a.marker, .int .i64 a.type, .int .i64 a.seq, .int .i64 a.time, .int .i64 a.source]), (.agg #[.int .i64 b.kind, .int .i64 b.tos, .int .i64 b.id, .int .i64 b.fixed, .int .i64 b.ttl, .int .i64 b.frm, .int .i64 b.to, .int .i64 b.fromPort, .int .i64 b.toPort, .int .i64 b.check, .int .i64 b.marker, .int .i64 b.type, .int .i64 b.seq, .int .i64 b.time, .int .i64 b.source])] w fun e w' => e = .returned (.agg #[.int .i64 (learnS a b), .int .i64 (learnF a b)]) ∧ Below w.heap.size w w' := by
  have EB : learnB a b = true := decide_eq_true ⟨va, vb, ka, hs⟩
  have E1 := Lib.hid (show learnS a b = strV (sigV 32 a.time b.time) (stepV a (numV b)) by unfold learnS; rw [EB]; rfl)
  have E2 := Lib.hid (show learnF a b = 0 by unfold learnF; rw [EB, if_pos rfl, if_neg hf])
  have P0 := Lib.hid (PL.laid w a b)
  have BW := Lib.hid (below_laid3 w (.cells #[.int .i64 a.kind, .int .i64 a.tos, .int .i64 a.id, .int .i64 a.fixed, .int .i64 a.ttl, .int .i64 a.frm, .int .i64 a.to, .int .i64 a.fromPort, .int .i64 a.toPort, .int .i64 a.check, .int .i64 a.marker, .int .i64 a.type, .int .i64 a.seq, .int .i64 a.time, .int .i64 a.source] 23) (.cells #[.int .i64 b.kind, .int .i64 b.tos, .int .i64 b.id, .int .i64 b.fixed, .int .i64 b.ttl, .int .i64 b.frm, .int .i64 b.to, .int .i64 b.fromPort, .int .i64 b.toPort, .int .i64 b.check, .int .i64 b.marker, .int .i64 b.type, .int .i64 b.seq, .int .i64 b.time, .int .i64 b.source] 23) (.cells #[.int .i64 0, .int .i64 0] 26))
  have CA := Lib.hid (fun W => Valid_any a W fa)
  have CB := Lib.hid (fun W => Valid_any b W fb)
  have CS := Lib.hid (flSame_any a b)
  rw [va] at CA
  rw [vb] at CB
  rw [hs] at CS
  have KA : (a.kind != 2) = false := by rw [ka]; rfl
  have HT := sigV_bd 32 a.time b.time
  have CN := Lib.hid (Number_any b)
  have CT := Lib.hid (step_any a (numV b))
  have CF := Lib.hid (following_any a (stepV a (numV b)))
  generalize stepV a (numV b) = st at CT CF E1 hf
  generalize numV b = nb at CN CT
  generalize folV a st = fv at CF hf
  have FE : (b.id == fv) = false := by simpa using hf
  clear va vb ka hs hf EB
  have CG32 := Lib.hid (fun W => Signed_any 32 a.time b.time W)
  generalize sigV 32 a.time b.time = tt at CG32 E1 HT
  have CR := Lib.hid (fun W => stride_any tt st W HT)
  generalize strV tt st = sv at CR E1
  clear HT
  go_enter Try.func19, Try.ntmps19
  go_upto_region 3 with (first
    | (go_at_call 35; ((with_reducible refine (CA.out _).mono ?_); rintro e w1 ⟨rfl, hb⟩; have P1 := Lib.hid (P0.out.below hb); have B1 := Lib.hid (BW.out.trans (hb.mono BW.out.size)); clear hb; have ca := cells_of P1.out.a; have cb := cells_of P1.out.b; have cz := cells_of P1.out.z; have fz := frozen_of P1.out.z))
    | (go_at_call 35; ((with_reducible refine (CB.out _).mono ?_); rintro e w2 ⟨rfl, hb⟩; have P2 := Lib.hid (P1.out.below hb); have B2 := Lib.hid (B1.out.trans (hb.mono B1.out.size)); clear hb ca cb cz fz; have ca := cells_of P2.out.a; have cb := cells_of P2.out.b; have cz := cells_of P2.out.z; have fz := frozen_of P2.out.z))
    | (go_at_call 9; refine (CS.out _).mono ?_; rintro e w3 ⟨rfl, hb⟩; have P3 := Lib.hid (P2.out.below hb); have B3 := Lib.hid (B2.out.trans (hb.mono B2.out.size)); clear hb ca cb cz fz; have ca := cells_of P3.out.a; have cb := cells_of P3.out.b; have cz := cells_of P3.out.z; have fz := frozen_of P3.out.z)
    | fail)
  clear cz fz P0 P1 P2 B1 B2
  have q3 : (w3.cell? ⟨w.heap.size, 0, none⟩ = some (.int .i64 a.kind) ∧ w3.cell? ⟨w.heap.size, 1, none⟩ = some (.int .i64 a.tos) ∧ w3.cell? ⟨w.heap.size, 2, none⟩ = some (.int .i64 a.id) ∧ w3.cell? ⟨w.heap.size, 3, none⟩ = some (.int .i64 a.fixed) ∧ w3.cell? ⟨w.heap.size, 4, none⟩ = some (.int .i64 a.ttl) ∧ w3.cell? ⟨w.heap.size, 5, none⟩ = some (.int .i64 a.frm) ∧ w3.cell? ⟨w.heap.size, 6, none⟩ = some (.int .i64 a.to) ∧ w3.cell? ⟨w.heap.size, 7, none⟩ = some (.int .i64 a.fromPort) ∧ w3.cell? ⟨w.heap.size, 8, none⟩ = some (.int .i64 a.toPort) ∧ w3.cell? ⟨w.heap.size, 9, none⟩ = some (.int .i64 a.check) ∧ w3.cell? ⟨w.heap.size, 10, none⟩ = some (.int .i64 a.marker) ∧ w3.cell? ⟨w.heap.size, 11, none⟩ = some (.int .i64 a.type) ∧ w3.cell? ⟨w.heap.size, 12, none⟩ = some (.int .i64 a.seq) ∧ w3.cell? ⟨w.heap.size, 13, none⟩ = some (.int .i64 a.time) ∧ w3.cell? ⟨w.heap.size, 14, none⟩ = some (.int .i64 a.source)) ∧ (w3.cell? ⟨w.heap.size + 1, 0, none⟩ = some (.int .i64 b.kind) ∧ w3.cell? ⟨w.heap.size + 1, 1, none⟩ = some (.int .i64 b.tos) ∧ w3.cell? ⟨w.heap.size + 1, 2, none⟩ = some (.int .i64 b.id) ∧ w3.cell? ⟨w.heap.size + 1, 3, none⟩ = some (.int .i64 b.fixed) ∧ w3.cell? ⟨w.heap.size + 1, 4, none⟩ = some (.int .i64 b.ttl) ∧ w3.cell? ⟨w.heap.size + 1, 5, none⟩ = some (.int .i64 b.frm) ∧ w3.cell? ⟨w.heap.size + 1, 6, none⟩ = some (.int .i64 b.to) ∧ w3.cell? ⟨w.heap.size + 1, 7, none⟩ = some (.int .i64 b.fromPort) ∧ w3.cell? ⟨w.heap.size + 1, 8, none⟩ = some (.int .i64 b.toPort) ∧ w3.cell? ⟨w.heap.size + 1, 9, none⟩ = some (.int .i64 b.check) ∧ w3.cell? ⟨w.heap.size + 1, 10, none⟩ = some (.int .i64 b.marker) ∧ w3.cell? ⟨w.heap.size + 1, 11, none⟩ = some (.int .i64 b.type) ∧ w3.cell? ⟨w.heap.size + 1, 12, none⟩ = some (.int .i64 b.seq) ∧ w3.cell? ⟨w.heap.size + 1, 13, none⟩ = some (.int .i64 b.time) ∧ w3.cell? ⟨w.heap.size + 1, 14, none⟩ = some (.int .i64 b.source)) := ⟨cells_conj a P3.out.a, cells_conj b P3.out.b⟩
  clear ca cb
  go_region_held3 (fun w' => (w'.cell? ⟨w.heap.size, 0, none⟩ = some (.int .i64 a.kind) ∧ w'.cell? ⟨w.heap.size, 1, none⟩ = some (.int .i64 a.tos) ∧ w'.cell? ⟨w.heap.size, 2, none⟩ = some (.int .i64 a.id) ∧ w'.cell? ⟨w.heap.size, 3, none⟩ = some (.int .i64 a.fixed) ∧ w'.cell? ⟨w.heap.size, 4, none⟩ = some (.int .i64 a.ttl) ∧ w'.cell? ⟨w.heap.size, 5, none⟩ = some (.int .i64 a.frm) ∧ w'.cell? ⟨w.heap.size, 6, none⟩ = some (.int .i64 a.to) ∧ w'.cell? ⟨w.heap.size, 7, none⟩ = some (.int .i64 a.fromPort) ∧ w'.cell? ⟨w.heap.size, 8, none⟩ = some (.int .i64 a.toPort) ∧ w'.cell? ⟨w.heap.size, 9, none⟩ = some (.int .i64 a.check) ∧ w'.cell? ⟨w.heap.size, 10, none⟩ = some (.int .i64 a.marker) ∧ w'.cell? ⟨w.heap.size, 11, none⟩ = some (.int .i64 a.type) ∧ w'.cell? ⟨w.heap.size, 12, none⟩ = some (.int .i64 a.seq) ∧ w'.cell? ⟨w.heap.size, 13, none⟩ = some (.int .i64 a.time) ∧ w'.cell? ⟨w.heap.size, 14, none⟩ = some (.int .i64 a.source)) ∧ (w'.cell? ⟨w.heap.size + 1, 0, none⟩ = some (.int .i64 b.kind) ∧ w'.cell? ⟨w.heap.size + 1, 1, none⟩ = some (.int .i64 b.tos) ∧ w'.cell? ⟨w.heap.size + 1, 2, none⟩ = some (.int .i64 b.id) ∧ w'.cell? ⟨w.heap.size + 1, 3, none⟩ = some (.int .i64 b.fixed) ∧ w'.cell? ⟨w.heap.size + 1, 4, none⟩ = some (.int .i64 b.ttl) ∧ w'.cell? ⟨w.heap.size + 1, 5, none⟩ = some (.int .i64 b.frm) ∧ w'.cell? ⟨w.heap.size + 1, 6, none⟩ = some (.int .i64 b.to) ∧ w'.cell? ⟨w.heap.size + 1, 7, none⟩ = some (.int .i64 b.fromPort) ∧ w'.cell? ⟨w.heap.size + 1, 8, none⟩ = some (.int .i64 b.toPort) ∧ w'.cell? ⟨w.heap.size + 1, 9, none⟩ = some (.int .i64 b.check) ∧ w'.cell? ⟨w.heap.size + 1, 10, none⟩ = some (.int .i64 b.marker) ∧ w'.cell? ⟨w.heap.size + 1, 11, none⟩ = some (.int .i64 b.type) ∧ w'.cell? ⟨w.heap.size + 1, 12, none⟩ = some (.int .i64 b.seq) ∧ w'.cell? ⟨w.heap.size + 1, 13, none⟩ = some (.int .i64 b.time) ∧ w'.cell? ⟨w.heap.size + 1, 14, none⟩ = some (.int .i64 b.source))) (first | with_reducible exact q3 | with_reducible exact q4 | with_reducible exact q5 | exact q3 | go_keep) (first
    | (go_at_call 13; ((with_reducible refine (CN.out _).mono ?_); rintro e w4 ⟨rfl, hb⟩; have P4 := Lib.hid (P3.out.drew.below hb); have q4 : (w4.cell? ⟨w.heap.size, 0, none⟩ = some (.int .i64 a.kind) ∧ w4.cell? ⟨w.heap.size, 1, none⟩ = some (.int .i64 a.tos) ∧ w4.cell? ⟨w.heap.size, 2, none⟩ = some (.int .i64 a.id) ∧ w4.cell? ⟨w.heap.size, 3, none⟩ = some (.int .i64 a.fixed) ∧ w4.cell? ⟨w.heap.size, 4, none⟩ = some (.int .i64 a.ttl) ∧ w4.cell? ⟨w.heap.size, 5, none⟩ = some (.int .i64 a.frm) ∧ w4.cell? ⟨w.heap.size, 6, none⟩ = some (.int .i64 a.to) ∧ w4.cell? ⟨w.heap.size, 7, none⟩ = some (.int .i64 a.fromPort) ∧ w4.cell? ⟨w.heap.size, 8, none⟩ = some (.int .i64 a.toPort) ∧ w4.cell? ⟨w.heap.size, 9, none⟩ = some (.int .i64 a.check) ∧ w4.cell? ⟨w.heap.size, 10, none⟩ = some (.int .i64 a.marker) ∧ w4.cell? ⟨w.heap.size, 11, none⟩ = some (.int .i64 a.type) ∧ w4.cell? ⟨w.heap.size, 12, none⟩ = some (.int .i64 a.seq) ∧ w4.cell? ⟨w.heap.size, 13, none⟩ = some (.int .i64 a.time) ∧ w4.cell? ⟨w.heap.size, 14, none⟩ = some (.int .i64 a.source)) ∧ (w4.cell? ⟨w.heap.size + 1, 0, none⟩ = some (.int .i64 b.kind) ∧ w4.cell? ⟨w.heap.size + 1, 1, none⟩ = some (.int .i64 b.tos) ∧ w4.cell? ⟨w.heap.size + 1, 2, none⟩ = some (.int .i64 b.id) ∧ w4.cell? ⟨w.heap.size + 1, 3, none⟩ = some (.int .i64 b.fixed) ∧ w4.cell? ⟨w.heap.size + 1, 4, none⟩ = some (.int .i64 b.ttl) ∧ w4.cell? ⟨w.heap.size + 1, 5, none⟩ = some (.int .i64 b.frm) ∧ w4.cell? ⟨w.heap.size + 1, 6, none⟩ = some (.int .i64 b.to) ∧ w4.cell? ⟨w.heap.size + 1, 7, none⟩ = some (.int .i64 b.fromPort) ∧ w4.cell? ⟨w.heap.size + 1, 8, none⟩ = some (.int .i64 b.toPort) ∧ w4.cell? ⟨w.heap.size + 1, 9, none⟩ = some (.int .i64 b.check) ∧ w4.cell? ⟨w.heap.size + 1, 10, none⟩ = some (.int .i64 b.marker) ∧ w4.cell? ⟨w.heap.size + 1, 11, none⟩ = some (.int .i64 b.type) ∧ w4.cell? ⟨w.heap.size + 1, 12, none⟩ = some (.int .i64 b.seq) ∧ w4.cell? ⟨w.heap.size + 1, 13, none⟩ = some (.int .i64 b.time) ∧ w4.cell? ⟨w.heap.size + 1, 14, none⟩ = some (.int .i64 b.source)) := ⟨cells_conj a P4.out.a, cells_conj b P4.out.b⟩; have B4 := Lib.hid (B3.out.drew.trans (hb.mono B3.out.drew.size)); clear hb q3))
    | (go_at_call 37; ((with_reducible refine (CT.out _).mono ?_); rintro e w5 ⟨rfl, hb⟩; have P5 := Lib.hid (P4.out.below hb); have q5 : (w5.cell? ⟨w.heap.size, 0, none⟩ = some (.int .i64 a.kind) ∧ w5.cell? ⟨w.heap.size, 1, none⟩ = some (.int .i64 a.tos) ∧ w5.cell? ⟨w.heap.size, 2, none⟩ = some (.int .i64 a.id) ∧ w5.cell? ⟨w.heap.size, 3, none⟩ = some (.int .i64 a.fixed) ∧ w5.cell? ⟨w.heap.size, 4, none⟩ = some (.int .i64 a.ttl) ∧ w5.cell? ⟨w.heap.size, 5, none⟩ = some (.int .i64 a.frm) ∧ w5.cell? ⟨w.heap.size, 6, none⟩ = some (.int .i64 a.to) ∧ w5.cell? ⟨w.heap.size, 7, none⟩ = some (.int .i64 a.fromPort) ∧ w5.cell? ⟨w.heap.size, 8, none⟩ = some (.int .i64 a.toPort) ∧ w5.cell? ⟨w.heap.size, 9, none⟩ = some (.int .i64 a.check) ∧ w5.cell? ⟨w.heap.size, 10, none⟩ = some (.int .i64 a.marker) ∧ w5.cell? ⟨w.heap.size, 11, none⟩ = some (.int .i64 a.type) ∧ w5.cell? ⟨w.heap.size, 12, none⟩ = some (.int .i64 a.seq) ∧ w5.cell? ⟨w.heap.size, 13, none⟩ = some (.int .i64 a.time) ∧ w5.cell? ⟨w.heap.size, 14, none⟩ = some (.int .i64 a.source)) ∧ (w5.cell? ⟨w.heap.size + 1, 0, none⟩ = some (.int .i64 b.kind) ∧ w5.cell? ⟨w.heap.size + 1, 1, none⟩ = some (.int .i64 b.tos) ∧ w5.cell? ⟨w.heap.size + 1, 2, none⟩ = some (.int .i64 b.id) ∧ w5.cell? ⟨w.heap.size + 1, 3, none⟩ = some (.int .i64 b.fixed) ∧ w5.cell? ⟨w.heap.size + 1, 4, none⟩ = some (.int .i64 b.ttl) ∧ w5.cell? ⟨w.heap.size + 1, 5, none⟩ = some (.int .i64 b.frm) ∧ w5.cell? ⟨w.heap.size + 1, 6, none⟩ = some (.int .i64 b.to) ∧ w5.cell? ⟨w.heap.size + 1, 7, none⟩ = some (.int .i64 b.fromPort) ∧ w5.cell? ⟨w.heap.size + 1, 8, none⟩ = some (.int .i64 b.toPort) ∧ w5.cell? ⟨w.heap.size + 1, 9, none⟩ = some (.int .i64 b.check) ∧ w5.cell? ⟨w.heap.size + 1, 10, none⟩ = some (.int .i64 b.marker) ∧ w5.cell? ⟨w.heap.size + 1, 11, none⟩ = some (.int .i64 b.type) ∧ w5.cell? ⟨w.heap.size + 1, 12, none⟩ = some (.int .i64 b.seq) ∧ w5.cell? ⟨w.heap.size + 1, 13, none⟩ = some (.int .i64 b.time) ∧ w5.cell? ⟨w.heap.size + 1, 14, none⟩ = some (.int .i64 b.source)) := ⟨cells_conj a P5.out.a, cells_conj b P5.out.b⟩; have B5 := Lib.hid (B4.out.trans (hb.mono B4.out.size)); clear hb q4))
    | fail)
  clear q5 P3 P4 B3 B4
  have ca := cells_of P5.out.a
  have cb := cells_of P5.out.b
  go_upto_region 5 with (first
    | (go_at_call 40; refine (CG32.out _).mono ?_; rintro e w' ⟨rfl, rfl⟩)
    | (go_at_call 39; refine (CR.out _).mono ?_; rintro e w' ⟨rfl, rfl⟩)
    | fail)
  have hz : w.heap.size + 1 + 1 < w5.heap.size := lt_of_block P5.out.z
  have P6 := Lib.hid (P5.out.alloc (.cells #[.int .i64 sv, .int .i64 0] 26))
  have K6 := Lib.hid (heap_alloc_new w5 (.cells #[.int .i64 sv, .int .i64 0] 26))
  have B6 := Lib.hid (B5.out.alloc B5.out.size (.cells #[.int .i64 sv, .int .i64 0] 26))
  clear ca cb P5 B5
  generalize w5.alloc (.cells #[.int .i64 sv, .int .i64 0] 26) = w6 at P6 K6 B6 ⊢
  have q6 : (w6.cell? ⟨w.heap.size, 0, none⟩ = some (.int .i64 a.kind) ∧ w6.cell? ⟨w.heap.size, 1, none⟩ = some (.int .i64 a.tos) ∧ w6.cell? ⟨w.heap.size, 2, none⟩ = some (.int .i64 a.id) ∧ w6.cell? ⟨w.heap.size, 3, none⟩ = some (.int .i64 a.fixed) ∧ w6.cell? ⟨w.heap.size, 4, none⟩ = some (.int .i64 a.ttl) ∧ w6.cell? ⟨w.heap.size, 5, none⟩ = some (.int .i64 a.frm) ∧ w6.cell? ⟨w.heap.size, 6, none⟩ = some (.int .i64 a.to) ∧ w6.cell? ⟨w.heap.size, 7, none⟩ = some (.int .i64 a.fromPort) ∧ w6.cell? ⟨w.heap.size, 8, none⟩ = some (.int .i64 a.toPort) ∧ w6.cell? ⟨w.heap.size, 9, none⟩ = some (.int .i64 a.check) ∧ w6.cell? ⟨w.heap.size, 10, none⟩ = some (.int .i64 a.marker) ∧ w6.cell? ⟨w.heap.size, 11, none⟩ = some (.int .i64 a.type) ∧ w6.cell? ⟨w.heap.size, 12, none⟩ = some (.int .i64 a.seq) ∧ w6.cell? ⟨w.heap.size, 13, none⟩ = some (.int .i64 a.time) ∧ w6.cell? ⟨w.heap.size, 14, none⟩ = some (.int .i64 a.source)) ∧ w6.cell? ⟨w.heap.size + 1, 2, none⟩ = some (.int .i64 b.id) := ⟨cells_conj a P6.out.a, cells_of P6.out.b 2⟩
  go_region_held3 (fun w' => (w'.cell? ⟨w.heap.size, 0, none⟩ = some (.int .i64 a.kind) ∧ w'.cell? ⟨w.heap.size, 1, none⟩ = some (.int .i64 a.tos) ∧ w'.cell? ⟨w.heap.size, 2, none⟩ = some (.int .i64 a.id) ∧ w'.cell? ⟨w.heap.size, 3, none⟩ = some (.int .i64 a.fixed) ∧ w'.cell? ⟨w.heap.size, 4, none⟩ = some (.int .i64 a.ttl) ∧ w'.cell? ⟨w.heap.size, 5, none⟩ = some (.int .i64 a.frm) ∧ w'.cell? ⟨w.heap.size, 6, none⟩ = some (.int .i64 a.to) ∧ w'.cell? ⟨w.heap.size, 7, none⟩ = some (.int .i64 a.fromPort) ∧ w'.cell? ⟨w.heap.size, 8, none⟩ = some (.int .i64 a.toPort) ∧ w'.cell? ⟨w.heap.size, 9, none⟩ = some (.int .i64 a.check) ∧ w'.cell? ⟨w.heap.size, 10, none⟩ = some (.int .i64 a.marker) ∧ w'.cell? ⟨w.heap.size, 11, none⟩ = some (.int .i64 a.type) ∧ w'.cell? ⟨w.heap.size, 12, none⟩ = some (.int .i64 a.seq) ∧ w'.cell? ⟨w.heap.size, 13, none⟩ = some (.int .i64 a.time) ∧ w'.cell? ⟨w.heap.size, 14, none⟩ = some (.int .i64 a.source)) ∧ w'.cell? ⟨w.heap.size + 1, 2, none⟩ = some (.int .i64 b.id)) (first | with_reducible exact q6 | with_reducible exact q7 | exact q6 | go_keep) (first
    | (go_at_call 38; ((with_reducible refine (CF.out _).mono ?_); rintro e w7 ⟨rfl, hb⟩; have P7 := Lib.hid (P6.out.drew.below hb); have K7 := Lib.hid ((hb.block _ (lt_of_block K6.out)).trans K6.out); have q7 : (w7.cell? ⟨w.heap.size, 0, none⟩ = some (.int .i64 a.kind) ∧ w7.cell? ⟨w.heap.size, 1, none⟩ = some (.int .i64 a.tos) ∧ w7.cell? ⟨w.heap.size, 2, none⟩ = some (.int .i64 a.id) ∧ w7.cell? ⟨w.heap.size, 3, none⟩ = some (.int .i64 a.fixed) ∧ w7.cell? ⟨w.heap.size, 4, none⟩ = some (.int .i64 a.ttl) ∧ w7.cell? ⟨w.heap.size, 5, none⟩ = some (.int .i64 a.frm) ∧ w7.cell? ⟨w.heap.size, 6, none⟩ = some (.int .i64 a.to) ∧ w7.cell? ⟨w.heap.size, 7, none⟩ = some (.int .i64 a.fromPort) ∧ w7.cell? ⟨w.heap.size, 8, none⟩ = some (.int .i64 a.toPort) ∧ w7.cell? ⟨w.heap.size, 9, none⟩ = some (.int .i64 a.check) ∧ w7.cell? ⟨w.heap.size, 10, none⟩ = some (.int .i64 a.marker) ∧ w7.cell? ⟨w.heap.size, 11, none⟩ = some (.int .i64 a.type) ∧ w7.cell? ⟨w.heap.size, 12, none⟩ = some (.int .i64 a.seq) ∧ w7.cell? ⟨w.heap.size, 13, none⟩ = some (.int .i64 a.time) ∧ w7.cell? ⟨w.heap.size, 14, none⟩ = some (.int .i64 a.source)) ∧ w7.cell? ⟨w.heap.size + 1, 2, none⟩ = some (.int .i64 b.id) := ⟨cells_conj a P7.out.a, cells_of P7.out.b 2⟩; have B7 := Lib.hid (B6.out.drew.trans (hb.mono B6.out.drew.size)); clear hb q6))
    | fail)
  clear q7 P6 K6 B6
  have cz := cells_of P7.out.z
  have fz := frozen_of P7.out.z
  have ca := cells_of K7.out
  have cb := frozen_of K7.out
  go_wp2
  clear ca cb cz fz
  refine at_put2 (Q := bodyPost _ _ _ _ _) sv 0 0 0 _ (w.heap.size + 1 + 1) P7.out.z ?_
  intro w9 K9 G9
  have hc9 := cells_of K9
  refine bodyPost_ret (v := .agg #[.int .i64 sv, .int .i64 0]) (by simp [results, Try.results19, go_sem, hc9]) rfl ?_
  exact ⟨by simp only [E1.out, E2.out], B7.out.trans (Below.of_row G9 (fun q hq => by cases hq; omega) B7.out.size)⟩

theorem Learn_any (a b : Hd) (w : World) (fa : a.Fits) (fb : b.Fits) :
    Calls Try.prog 19 #[(.agg #[.int .i64 a.kind, .int .i64 a.tos, .int .i64 a.id, .int .i64 a.fixed, .int .i64 a.ttl, .int .i64 a.frm, .int .i64 a.to, .int .i64 a.fromPort, .int .i64 a.toPort, .int .i64 a.check, .int .i64 a.marker, .int .i64 a.type, .int .i64 a.seq, .int .i64 a.time, .int .i64 a.source]), (.agg #[.int .i64 b.kind, .int .i64 b.tos, .int .i64 b.id, .int .i64 b.fixed, .int .i64 b.ttl, .int .i64 b.frm, .int .i64 b.to, .int .i64 b.fromPort, .int .i64 b.toPort, .int .i64 b.check, .int .i64 b.marker, .int .i64 b.type, .int .i64 b.seq, .int .i64 b.time, .int .i64 b.source])] w fun e w' => e = .returned (.agg #[.int .i64 (learnS a b), .int .i64 (learnF a b)]) ∧ Below w.heap.size w w' := by
  cases va : validB a with
  | false => exact Learn_va a b w fa fb va
  | true =>
    cases vb : validB b with
    | false => exact Learn_vb a b w fa fb va vb
    | true =>
      by_cases ka : a.kind = 2
      · cases hs : sameB a b with
        | false => exact Learn_sm a b w fa fb va vb ka hs
        | true =>
          by_cases hf : b.id = folV a (stepV a (numV b))
          · exact Learn_ok1 a b w fa fb va vb ka hs hf
          · exact Learn_ok0 a b w fa fb va vb ka hs hf
      · exact Learn_kd a b w fa fb va vb ka
end Go.Proofs.Ytphekpkkeiaccaa
