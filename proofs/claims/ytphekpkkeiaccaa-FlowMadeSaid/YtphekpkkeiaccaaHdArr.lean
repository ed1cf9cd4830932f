/-
  Structs of ints among the arguments, by themselves and in an array: fifteen (a header), two (dynamic parameters).
-/
import Derived.Test.YtphekpkkeiaccaaHdOpen
namespace Go.Proofs.Ytphekpkkeiaccaa
open Go Go.RowKit Go.ChangeShapes Go.WideShapes Go.Joins Go.Deep

section
variable {H : Type} {enc : TypeId × Value → H} {P : Program}

theorem hd_of_trod {w : World} {base : Nat} {spare : Nat → Bool} {held : Bool} {t : TypeId} {f0 f1 f2 f3 f4 f5 f6 f7 f8 f9 f10 f11 f12 f13 f14 : Field} {fuel : Nat} {cs : List Value} {y : DataW H × List MemPlace} (hs : P.underlying t = some (.struct #[f0, f1, f2, f3, f4, f5, f6, f7, f8, f9, f10, f11, f12, f13, f14])) (hone : oneCellFields P #[f0, f1, f2, f3, f4, f5, f6, f7, f8, f9, f10, f11, f12, f13, f14] = true) (hC : P.cellsOf t = 15)
    (ht : ∀ f ∈ [f0, f1, f2, f3, f4, f5, f6, f7, f8, f9, f10, f11, f12, f13, f14], P.underlying f.type = some (.int .i64)) (hf : DataW.trod enc P w base spare held fuel t cs = some y) :
    ∃ h : Hd, cs = [.int .i64 h.kind, .int .i64 h.tos, .int .i64 h.id, .int .i64 h.fixed, .int .i64 h.ttl, .int .i64 h.frm, .int .i64 h.to, .int .i64 h.fromPort, .int .i64 h.toPort, .int .i64 h.check, .int .i64 h.marker, .int .i64 h.type, .int .i64 h.seq, .int .i64 h.time, .int .i64 h.source] ∧ h.Fits := by
  obtain ⟨xs, n, _, hx, hl, hlen, hg⟩ := DataW.trod_struct hs hf
  match cs, hl.trans hC with
  | [c0, c1, c2, c3, c4, c5, c6, c7, c8, c9, c10, c11, c12, c13, c14], _ =>
    match xs, hlen with
    | [y0, y1, y2, y3, y4, y5, y6, y7, y8, y9, y10, y11, y12, y13, y14], _ =>
      obtain ⟨o0, k0⟩ := hone_of hone 0 f0 rfl
      have g0 : DataW.trod enc P w base spare held n f0.type [c0] = some y0 := by simpa [o0, k0] using hg 0 f0 rfl
      obtain ⟨z0, e0, _, w0⟩ := DataW.trod_int (ht f0 (by simp)) g0
      have q0 := wf_i64 w0
      simp only [List.cons.injEq, and_true] at e0
      subst e0
      obtain ⟨o1, k1⟩ := hone_of hone 1 f1 rfl
      have g1 : DataW.trod enc P w base spare held n f1.type [c1] = some y1 := by simpa [o1, k1] using hg 1 f1 rfl
      obtain ⟨z1, e1, _, w1⟩ := DataW.trod_int (ht f1 (by simp)) g1
      have q1 := wf_i64 w1
      simp only [List.cons.injEq, and_true] at e1
      subst e1
      obtain ⟨o2, k2⟩ := hone_of hone 2 f2 rfl
      have g2 : DataW.trod enc P w base spare held n f2.type [c2] = some y2 := by simpa [o2, k2] using hg 2 f2 rfl
      obtain ⟨z2, e2, _, w2⟩ := DataW.trod_int (ht f2 (by simp)) g2
      have q2 := wf_i64 w2
      simp only [List.cons.injEq, and_true] at e2
      subst e2
      obtain ⟨o3, k3⟩ := hone_of hone 3 f3 rfl
      have g3 : DataW.trod enc P w base spare held n f3.type [c3] = some y3 := by simpa [o3, k3] using hg 3 f3 rfl
      obtain ⟨z3, e3, _, w3⟩ := DataW.trod_int (ht f3 (by simp)) g3
      have q3 := wf_i64 w3
      simp only [List.cons.injEq, and_true] at e3
      subst e3
      obtain ⟨o4, k4⟩ := hone_of hone 4 f4 rfl
      have g4 : DataW.trod enc P w base spare held n f4.type [c4] = some y4 := by simpa [o4, k4] using hg 4 f4 rfl
      obtain ⟨z4, e4, _, w4⟩ := DataW.trod_int (ht f4 (by simp)) g4
      have q4 := wf_i64 w4
      simp only [List.cons.injEq, and_true] at e4
      subst e4
      obtain ⟨o5, k5⟩ := hone_of hone 5 f5 rfl
      have g5 : DataW.trod enc P w base spare held n f5.type [c5] = some y5 := by simpa [o5, k5] using hg 5 f5 rfl
      obtain ⟨z5, e5, _, w5⟩ := DataW.trod_int (ht f5 (by simp)) g5
      have q5 := wf_i64 w5
      simp only [List.cons.injEq, and_true] at e5
      subst e5
      obtain ⟨o6, k6⟩ := hone_of hone 6 f6 rfl
      have g6 : DataW.trod enc P w base spare held n f6.type [c6] = some y6 := by simpa [o6, k6] using hg 6 f6 rfl
      obtain ⟨z6, e6, _, w6⟩ := DataW.trod_int (ht f6 (by simp)) g6
      have q6 := wf_i64 w6
      simp only [List.cons.injEq, and_true] at e6
      subst e6
      obtain ⟨o7, k7⟩ := hone_of hone 7 f7 rfl
      have g7 : DataW.trod enc P w base spare held n f7.type [c7] = some y7 := by simpa [o7, k7] using hg 7 f7 rfl
      obtain ⟨z7, e7, _, w7⟩ := DataW.trod_int (ht f7 (by simp)) g7
      have q7 := wf_i64 w7
      simp only [List.cons.injEq, and_true] at e7
      subst e7
      obtain ⟨o8, k8⟩ := hone_of hone 8 f8 rfl
      have g8 : DataW.trod enc P w base spare held n f8.type [c8] = some y8 := by simpa [o8, k8] using hg 8 f8 rfl
      obtain ⟨z8, e8, _, w8⟩ := DataW.trod_int (ht f8 (by simp)) g8
      have q8 := wf_i64 w8
      simp only [List.cons.injEq, and_true] at e8
      subst e8
      obtain ⟨o9, k9⟩ := hone_of hone 9 f9 rfl
      have g9 : DataW.trod enc P w base spare held n f9.type [c9] = some y9 := by simpa [o9, k9] using hg 9 f9 rfl
      obtain ⟨z9, e9, _, w9⟩ := DataW.trod_int (ht f9 (by simp)) g9
      have q9 := wf_i64 w9
      simp only [List.cons.injEq, and_true] at e9
      subst e9
      obtain ⟨o10, k10⟩ := hone_of hone 10 f10 rfl
      have g10 : DataW.trod enc P w base spare held n f10.type [c10] = some y10 := by simpa [o10, k10] using hg 10 f10 rfl
      obtain ⟨z10, e10, _, w10⟩ := DataW.trod_int (ht f10 (by simp)) g10
      have q10 := wf_i64 w10
      simp only [List.cons.injEq, and_true] at e10
      subst e10
      obtain ⟨o11, k11⟩ := hone_of hone 11 f11 rfl
      have g11 : DataW.trod enc P w base spare held n f11.type [c11] = some y11 := by simpa [o11, k11] using hg 11 f11 rfl
      obtain ⟨z11, e11, _, w11⟩ := DataW.trod_int (ht f11 (by simp)) g11
      have q11 := wf_i64 w11
      simp only [List.cons.injEq, and_true] at e11
      subst e11
      obtain ⟨o12, k12⟩ := hone_of hone 12 f12 rfl
      have g12 : DataW.trod enc P w base spare held n f12.type [c12] = some y12 := by simpa [o12, k12] using hg 12 f12 rfl
      obtain ⟨z12, e12, _, w12⟩ := DataW.trod_int (ht f12 (by simp)) g12
      have q12 := wf_i64 w12
      simp only [List.cons.injEq, and_true] at e12
      subst e12
      obtain ⟨o13, k13⟩ := hone_of hone 13 f13 rfl
      have g13 : DataW.trod enc P w base spare held n f13.type [c13] = some y13 := by simpa [o13, k13] using hg 13 f13 rfl
      obtain ⟨z13, e13, _, w13⟩ := DataW.trod_int (ht f13 (by simp)) g13
      have q13 := wf_i64 w13
      simp only [List.cons.injEq, and_true] at e13
      subst e13
      obtain ⟨o14, k14⟩ := hone_of hone 14 f14 rfl
      have g14 : DataW.trod enc P w base spare held n f14.type [c14] = some y14 := by simpa [o14, k14] using hg 14 f14 rfl
      obtain ⟨z14, e14, _, w14⟩ := DataW.trod_int (ht f14 (by simp)) g14
      have q14 := wf_i64 w14
      simp only [List.cons.injEq, and_true] at e14
      subst e14
      exact ⟨⟨z0, z1, z2, z3, z4, z5, z6, z7, z8, z9, z10, z11, z12, z13, z14⟩, rfl, ⟨q0, q1, q2, q3, q4, q5, q6, q7, q8, q9, q10, q11, q12, q13, q14⟩⟩

theorem two_of_trod {w : World} {base : Nat} {spare : Nat → Bool} {held : Bool} {t : TypeId} {f0 f1 : Field} {fuel : Nat} {cs : List Value} {y : DataW H × List MemPlace} (hs : P.underlying t = some (.struct #[f0, f1])) (hone : oneCellFields P #[f0, f1] = true) (hC : P.cellsOf t = 2)
    (ht : ∀ f ∈ [f0, f1], P.underlying f.type = some (.int .i64)) (hf : DataW.trod enc P w base spare held fuel t cs = some y) :
    ∃ a b : Int, cs = [.int .i64 a, .int .i64 b] ∧ (-9223372036854775808 ≤ a ∧ a ≤ 9223372036854775807) ∧ (-9223372036854775808 ≤ b ∧ b ≤ 9223372036854775807) := by
  obtain ⟨xs, n, _, hx, hl, hlen, hg⟩ := DataW.trod_struct hs hf
  match cs, hl.trans hC with
  | [c0, c1], _ =>
    match xs, hlen with
    | [y0, y1], _ =>
      obtain ⟨o0, k0⟩ := hone_of hone 0 f0 rfl
      have g0 : DataW.trod enc P w base spare held n f0.type [c0] = some y0 := by simpa [o0, k0] using hg 0 f0 rfl
      obtain ⟨z0, e0, _, w0⟩ := DataW.trod_int (ht f0 (by simp)) g0
      have q0 := wf_i64 w0
      simp only [List.cons.injEq, and_true] at e0
      subst e0
      obtain ⟨o1, k1⟩ := hone_of hone 1 f1 rfl
      have g1 : DataW.trod enc P w base spare held n f1.type [c1] = some y1 := by simpa [o1, k1] using hg 1 f1 rfl
      obtain ⟨z1, e1, _, w1⟩ := DataW.trod_int (ht f1 (by simp)) g1
      have q1 := wf_i64 w1
      simp only [List.cons.injEq, and_true] at e1
      subst e1
      exact ⟨z0, z1, rfl, q0, q1⟩

/-- an array of two headers -/
theorem open_hd2 {w : World} {base : Nat} {spare : Nat → Bool} {held : Bool} {r : Reach} {b0 : Nat} {t e : TypeId} {f0 f1 f2 f3 f4 f5 f6 f7 f8 f9 f10 f11 f12 f13 f14 : Field} {v : Value} {d : DataW H} {p : List MemPlace} (ha : P.underlying t = some (.array 2 e)) (hs : P.underlying e = some (.struct #[f0, f1, f2, f3, f4, f5, f6, f7, f8, f9, f10, f11, f12, f13, f14])) (hone : oneCellFields P #[f0, f1, f2, f3, f4, f5, f6, f7, f8, f9, f10, f11, f12, f13, f14] = true) (hC : P.cellsOf e = 15) (hT : P.cellsOf t = 30)
    (ht : ∀ f ∈ [f0, f1, f2, f3, f4, f5, f6, f7, f8, f9, f10, f11, f12, f13, f14], P.underlying f.type = some (.int .i64)) (hv : Value.okWide P w r b0 t v) (h : DataW.Trod enc P w base spare held t v d p) :
    ∃ a b : Hd, v = .agg #[.int .i64 a.kind, .int .i64 a.tos, .int .i64 a.id, .int .i64 a.fixed, .int .i64 a.ttl, .int .i64 a.frm, .int .i64 a.to, .int .i64 a.fromPort, .int .i64 a.toPort, .int .i64 a.check, .int .i64 a.marker, .int .i64 a.type, .int .i64 a.seq, .int .i64 a.time, .int .i64 a.source, .int .i64 b.kind, .int .i64 b.tos, .int .i64 b.id, .int .i64 b.fixed, .int .i64 b.ttl, .int .i64 b.frm, .int .i64 b.to, .int .i64 b.fromPort, .int .i64 b.toPort, .int .i64 b.check, .int .i64 b.marker, .int .i64 b.type, .int .i64 b.seq, .int .i64 b.time, .int .i64 b.source] ∧ a.Fits ∧ b.Fits := by
  obtain ⟨cs, rfl, hsz⟩ : ∃ cs, v = .agg cs ∧ cs.size = P.cellsOf t := by
    simp only [Value.okWide, ha] at hv
    obtain ⟨cs, h1, h2, _⟩ := hv
    exact ⟨cs, h1, h2⟩
  obtain ⟨l⟩ := cs
  have hl : l.length = 30 := by simpa using hsz.trans hT
  obtain ⟨fuel, hf⟩ := h
  obtain ⟨xs, m, _, _, _, hlen, hel⟩ := DataW.trod_array ha hf
  match xs, hlen with
  | [x0, x1], _ =>
    have g0 := hel 0 (by omega)
    have g1 := hel 1 (by omega)
    rw [hC] at g0 g1
    have e0 : (Value.agg ⟨l⟩).cells.toList = l := rfl
    rw [e0] at g0 g1
    obtain ⟨a, ea, fa⟩ := hd_of_trod hs hone hC ht g0
    obtain ⟨b, eb, fb⟩ := hd_of_trod hs hone hC ht g1
    refine ⟨a, b, ?_, fa, fb⟩
    have el : l = (l.drop 0).take 15 ++ (l.drop 15).take 15 := by
      rw [List.drop_zero, List.take_of_length_le (l := l.drop 15) (by rw [List.length_drop]; omega), List.take_append_drop]
    rw [show 0 * 15 = 0 from rfl] at ea
    rw [show 1 * 15 = 15 from rfl] at eb
    rw [ea, eb] at el
    rw [el]
    rfl
theorem open_two {w : World} {base : Nat} {spare : Nat → Bool} {held : Bool} {r : Reach} {b0 : Nat} {t : TypeId} {f0 f1 : Field} {v : Value} {d : DataW H} {p : List MemPlace} (hs : P.underlying t = some (.struct #[f0, f1])) (hone : oneCellFields P #[f0, f1] = true) (hC : P.cellsOf t = 2)
    (ht : ∀ f ∈ [f0, f1], P.underlying f.type = some (.int .i64)) (hv : Value.okWide P w r b0 t v) (h : DataW.Trod enc P w base spare held t v d p) :
    ∃ a b : Int, v = .agg #[.int .i64 a, .int .i64 b] ∧ (-9223372036854775808 ≤ a ∧ a ≤ 9223372036854775807) ∧ (-9223372036854775808 ≤ b ∧ b ≤ 9223372036854775807) := by
  obtain ⟨cs, rfl, hsz⟩ := okWide_struct hs hv
  obtain ⟨l⟩ := cs
  obtain ⟨fuel, hf⟩ := h
  obtain ⟨a, b, e, ha, hb⟩ := two_of_trod hs hone hC ht hf
  refine ⟨a, b, ?_, ha, hb⟩
  rw [show l = _ from e]
end
end Go.Proofs.Ytphekpkkeiaccaa
