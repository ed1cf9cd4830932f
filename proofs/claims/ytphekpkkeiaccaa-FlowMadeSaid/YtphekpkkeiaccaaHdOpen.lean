/-
  A header among the arguments.
-/
import Derived.Test.YtphekpkkeiaccaaHd
import Derived.Test.YtphekpkkeiaccaaLift
import Derived.Lib.SmallJoins
namespace Go.Proofs.Ytphekpkkeiaccaa
open Go Go.RowKit Go.ChangeShapes Go.WideShapes Go.Joins Go.Deep

section
variable {H : Type} {enc : TypeId × Value → H} {P : Program}
/-- a struct of fifteen ints, by value -/
theorem open_hd {w : World} {base : Nat} {spare : Nat → Bool} {held : Bool} {r : Reach} {b0 : Nat} {t : TypeId} {f0 f1 f2 f3 f4 f5 f6 f7 f8 f9 f10 f11 f12 f13 f14 : Field} {v : Value} {d : DataW H} {p : List MemPlace} (hs : P.underlying t = some (.struct #[f0, f1, f2, f3, f4, f5, f6, f7, f8, f9, f10, f11, f12, f13, f14])) (hone : oneCellFields P #[f0, f1, f2, f3, f4, f5, f6, f7, f8, f9, f10, f11, f12, f13, f14] = true) (hC : P.cellsOf t = 15)
    (ht : ∀ f ∈ [f0, f1, f2, f3, f4, f5, f6, f7, f8, f9, f10, f11, f12, f13, f14], P.underlying f.type = some (.int .i64)) (hv : Value.okWide P w r b0 t v) (h : DataW.Trod enc P w base spare held t v d p) :
    ∃ h : Hd, v = (.agg #[.int .i64 h.kind, .int .i64 h.tos, .int .i64 h.id, .int .i64 h.fixed, .int .i64 h.ttl, .int .i64 h.frm, .int .i64 h.to, .int .i64 h.fromPort, .int .i64 h.toPort, .int .i64 h.check, .int .i64 h.marker, .int .i64 h.type, .int .i64 h.seq, .int .i64 h.time, .int .i64 h.source]) ∧ h.Fits := by
  obtain ⟨cs, rfl, hsz⟩ := okWide_struct hs hv
  obtain ⟨l⟩ := cs
  match l, hsz.trans hC with
  | [c0, c1, c2, c3, c4, c5, c6, c7, c8, c9, c10, c11, c12, c13, c14], _ =>
    obtain ⟨fuel, hf⟩ := h
    obtain ⟨xs, n, _, hx, _, hlen, hg⟩ := DataW.trod_struct hs hf
    match xs, hlen with
    | [y0, y1, y2, y3, y4, y5, y6, y7, y8, y9, y10, y11, y12, y13, y14], _ =>
      obtain ⟨o0, k0⟩ := hone_of hone 0 f0 rfl
      have g0 : DataW.trod enc P w base spare held n f0.type [c0] = some y0 := by simpa [Value.cells, o0, k0] using hg 0 f0 rfl
      obtain ⟨z0, e0, _, w0⟩ := DataW.trod_int (ht f0 (by simp)) g0
      have q0 := wf_i64 w0
      simp only [List.cons.injEq, and_true] at e0
      subst e0
      obtain ⟨o1, k1⟩ := hone_of hone 1 f1 rfl
      have g1 : DataW.trod enc P w base spare held n f1.type [c1] = some y1 := by simpa [Value.cells, o1, k1] using hg 1 f1 rfl
      obtain ⟨z1, e1, _, w1⟩ := DataW.trod_int (ht f1 (by simp)) g1
      have q1 := wf_i64 w1
      simp only [List.cons.injEq, and_true] at e1
      subst e1
      obtain ⟨o2, k2⟩ := hone_of hone 2 f2 rfl
      have g2 : DataW.trod enc P w base spare held n f2.type [c2] = some y2 := by simpa [Value.cells, o2, k2] using hg 2 f2 rfl
      obtain ⟨z2, e2, _, w2⟩ := DataW.trod_int (ht f2 (by simp)) g2
      have q2 := wf_i64 w2
      simp only [List.cons.injEq, and_true] at e2
      subst e2
      obtain ⟨o3, k3⟩ := hone_of hone 3 f3 rfl
      have g3 : DataW.trod enc P w base spare held n f3.type [c3] = some y3 := by simpa [Value.cells, o3, k3] using hg 3 f3 rfl
      obtain ⟨z3, e3, _, w3⟩ := DataW.trod_int (ht f3 (by simp)) g3
      have q3 := wf_i64 w3
      simp only [List.cons.injEq, and_true] at e3
      subst e3
      obtain ⟨o4, k4⟩ := hone_of hone 4 f4 rfl
      have g4 : DataW.trod enc P w base spare held n f4.type [c4] = some y4 := by simpa [Value.cells, o4, k4] using hg 4 f4 rfl
      obtain ⟨z4, e4, _, w4⟩ := DataW.trod_int (ht f4 (by simp)) g4
      have q4 := wf_i64 w4
      simp only [List.cons.injEq, and_true] at e4
      subst e4
      obtain ⟨o5, k5⟩ := hone_of hone 5 f5 rfl
      have g5 : DataW.trod enc P w base spare held n f5.type [c5] = some y5 := by simpa [Value.cells, o5, k5] using hg 5 f5 rfl
      obtain ⟨z5, e5, _, w5⟩ := DataW.trod_int (ht f5 (by simp)) g5
      have q5 := wf_i64 w5
      simp only [List.cons.injEq, and_true] at e5
      subst e5
      obtain ⟨o6, k6⟩ := hone_of hone 6 f6 rfl
      have g6 : DataW.trod enc P w base spare held n f6.type [c6] = some y6 := by simpa [Value.cells, o6, k6] using hg 6 f6 rfl
      obtain ⟨z6, e6, _, w6⟩ := DataW.trod_int (ht f6 (by simp)) g6
      have q6 := wf_i64 w6
      simp only [List.cons.injEq, and_true] at e6
      subst e6
      obtain ⟨o7, k7⟩ := hone_of hone 7 f7 rfl
      have g7 : DataW.trod enc P w base spare held n f7.type [c7] = some y7 := by simpa [Value.cells, o7, k7] using hg 7 f7 rfl
      obtain ⟨z7, e7, _, w7⟩ := DataW.trod_int (ht f7 (by simp)) g7
      have q7 := wf_i64 w7
      simp only [List.cons.injEq, and_true] at e7
      subst e7
      obtain ⟨o8, k8⟩ := hone_of hone 8 f8 rfl
      have g8 : DataW.trod enc P w base spare held n f8.type [c8] = some y8 := by simpa [Value.cells, o8, k8] using hg 8 f8 rfl
      obtain ⟨z8, e8, _, w8⟩ := DataW.trod_int (ht f8 (by simp)) g8
      have q8 := wf_i64 w8
      simp only [List.cons.injEq, and_true] at e8
      subst e8
      obtain ⟨o9, k9⟩ := hone_of hone 9 f9 rfl
      have g9 : DataW.trod enc P w base spare held n f9.type [c9] = some y9 := by simpa [Value.cells, o9, k9] using hg 9 f9 rfl
      obtain ⟨z9, e9, _, w9⟩ := DataW.trod_int (ht f9 (by simp)) g9
      have q9 := wf_i64 w9
      simp only [List.cons.injEq, and_true] at e9
      subst e9
      obtain ⟨o10, k10⟩ := hone_of hone 10 f10 rfl
      have g10 : DataW.trod enc P w base spare held n f10.type [c10] = some y10 := by simpa [Value.cells, o10, k10] using hg 10 f10 rfl
      obtain ⟨z10, e10, _, w10⟩ := DataW.trod_int (ht f10 (by simp)) g10
      have q10 := wf_i64 w10
      simp only [List.cons.injEq, and_true] at e10
      subst e10
      obtain ⟨o11, k11⟩ := hone_of hone 11 f11 rfl
      have g11 : DataW.trod enc P w base spare held n f11.type [c11] = some y11 := by simpa [Value.cells, o11, k11] using hg 11 f11 rfl
      obtain ⟨z11, e11, _, w11⟩ := DataW.trod_int (ht f11 (by simp)) g11
      have q11 := wf_i64 w11
      simp only [List.cons.injEq, and_true] at e11
      subst e11
      obtain ⟨o12, k12⟩ := hone_of hone 12 f12 rfl
      have g12 : DataW.trod enc P w base spare held n f12.type [c12] = some y12 := by simpa [Value.cells, o12, k12] using hg 12 f12 rfl
      obtain ⟨z12, e12, _, w12⟩ := DataW.trod_int (ht f12 (by simp)) g12
      have q12 := wf_i64 w12
      simp only [List.cons.injEq, and_true] at e12
      subst e12
      obtain ⟨o13, k13⟩ := hone_of hone 13 f13 rfl
      have g13 : DataW.trod enc P w base spare held n f13.type [c13] = some y13 := by simpa [Value.cells, o13, k13] using hg 13 f13 rfl
      obtain ⟨z13, e13, _, w13⟩ := DataW.trod_int (ht f13 (by simp)) g13
      have q13 := wf_i64 w13
      simp only [List.cons.injEq, and_true] at e13
      subst e13
      obtain ⟨o14, k14⟩ := hone_of hone 14 f14 rfl
      have g14 : DataW.trod enc P w base spare held n f14.type [c14] = some y14 := by simpa [Value.cells, o14, k14] using hg 14 f14 rfl
      obtain ⟨z14, e14, _, w14⟩ := DataW.trod_int (ht f14 (by simp)) g14
      have q14 := wf_i64 w14
      simp only [List.cons.injEq, and_true] at e14
      subst e14
      exact ⟨⟨z0, z1, z2, z3, z4, z5, z6, z7, z8, z9, z10, z11, z12, z13, z14⟩, rfl, ⟨q0, q1, q2, q3, q4, q5, q6, q7, q8, q9, q10, q11, q12, q13, q14⟩⟩
end
end Go.Proofs.Ytphekpkkeiaccaa
