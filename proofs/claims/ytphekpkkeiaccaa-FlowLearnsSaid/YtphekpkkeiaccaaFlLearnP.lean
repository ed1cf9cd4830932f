/-
  What is learned from a regular header some steps on predicts that header, plainly.
-/
import Derived.Test.YtphekpkkeiaccaaFlStepP
import Derived.Test.YtphekpkkeiaccaaDiceFollow
namespace Go.Proofs.Ytphekpkkeiaccaa
open Go Go.RowKit

theorem FolS.next {h x y : Hd} {n : Int} (p : FolS h x n) (q : FolS x y 1) : FolS h y (n + 1) := by
  refine ⟨⟨q.stat.kind.trans p.stat.kind, q.stat.frm.trans p.stat.frm, q.stat.dest.trans p.stat.dest, q.stat.fromPort.trans p.stat.fromPort, q.stat.toPort.trans p.stat.toPort, q.stat.source.trans p.stat.source⟩, q.tos.trans p.tos, q.fixed.trans p.fixed, q.ttl.trans p.ttl, q.type.trans p.type, ?_, q.check.trans p.check, q.check0, q.check1, fun k => ?_, fun k => ?_, fun k => q.marker (p.stat.kind.trans k), fun k => ?_⟩
  · rw [q.id, p.id]; omega
  · rw [q.seq (p.stat.kind.trans k), p.seq k]; omega
  · rw [q.time (p.stat.kind.trans k), p.time k]; omega
  · have a := q.udp (by rw [p.stat.kind]; exact k)
    have b := p.udp k
    exact ⟨a.1.trans b.1, a.2.1.trans b.2.1, a.2.2.trans b.2.2⟩

theorem strV_160 {n : Int} (h0 : 1 ≤ n) : strV (160 * n) n = 160 := by
  have e1 : (160 * n).tmod n = 0 := Int.mul_tmod_left 160 n
  have e2 : (160 * n).tdiv n = 160 := Int.mul_tdiv_cancel 160 (by omega)
  unfold strV
  rw [e1, e2, if_pos ⟨by omega, rfl, by omega, by omega⟩]
theorem sig32_near (a b d : Int) (h : (b - a) % 4294967296 = d % 4294967296) (h0 : -2147483648 ≤ d) (h1 : d < 2147483648) : sigV 32 a b = d := by
  rw [show (32 : Int) = ((32 : Nat) : Int) from rfl, sigV_nat 32 _ _ (by omega), distV_nat 32 _ _ (by omega)]
  simp only [show (2 : Int) ^ (32 - 1) = 2147483648 from rfl, show (2 : Int) ^ 32 = 4294967296 from rfl]
  rw [h]; split <;> omega

theorem statH_of {h x : Hd} (q : StatS h x) : statH x = statH h := by
  unfold statH
  rw [q.kind, q.frm, q.dest, q.fromPort, q.toPort, q.source]
theorem sameB_of {h x : Hd} (q : StatS h x) : sameB h x = true := by
  unfold sameB
  rw [statH_of q]; exact eqB_self _
theorem FolS.chg0 {h x : Hd} {s : Int} (q : FolS h x s) : chgV h x = 0 := by
  have e : (x.check == 0) = (h.check == 0) := by
    apply Bool.eq_iff_iff.2
    simp [q.check]
  unfold chgV
  rw [q.tos, q.ttl, q.fixed, q.type, e]
  simp

/-- the header b with another Check -/
def withCk (h : Hd) (c : Int) : Hd := ⟨h.kind, h.tos, h.id, h.fixed, h.ttl, h.frm, h.to, h.fromPort, h.toPort, c, h.marker, h.type, h.seq, h.time, h.source⟩
theorem learn_pred {a b : Hd} {n : Int} (v : a.Valid) (q : FolS a b n) (h0 : 1 ≤ n) (h1 : n ≤ 40) :
    dynB (learnS a b) (learnF a b) = true ∧ withCk (predH (learnS a b) (learnF a b) a (numV b)) b.check = b := by
  have vb := q.valid v
  have hs := sameB_of q.stat
  by_cases k : a.kind = 2
  · have kb : b.kind = 2 := q.stat.kind.trans k
    have r := v.2.resolve_left (fun e => by have := e.1; omega)
    have s1 : stepV a (numV b) = n := by
      unfold stepV
      rw [numV_rtp k, numV_rtp kb, q.seq k]
      exact sig16_near _ _ _ (by omega) (by omega) (by omega)
    have t1 : sigV 32 a.time b.time = 160 * n := by
      rw [q.time k]
      exact sig32_near _ _ _ (by omega) (by omega) (by omega)
    have lb : learnB a b = true := decide_eq_true ⟨validB_true v, validB_true vb, k, hs⟩
    have f1 : b.id = folV a n := by unfold folV; rw [low16_mod, q.id]
    have ls : learnS a b = 160 := by unfold learnS; rw [lb, s1, t1, strV_160 h0]; rfl
    have lf : learnF a b = 1 := by unfold learnF; rw [lb, s1, if_pos rfl, if_pos f1]
    rw [ls, lf]
    have d : dynB 160 1 = true := by decide
    refine ⟨d, ?_⟩
    rw [predH_rtp v d k, s1, if_pos rfl, ← f1]
    have e1 : lowV 16 (numV b) = b.seq := by rw [numV_rtp kb, low16_mod, q.seq k]; omega
    have e2 : lowV 32 (a.time + 160 * n) = b.time := by rw [low32_mod, q.time k]
    rw [e1, e2]
    have m := q.marker k
    obtain ⟨s0, g1, g2, g3, g4, g5, g6, g7, g8, g9, g10, g11, g12⟩ := q
    obtain ⟨z1, z2, z3, z4, z5, z6⟩ := s0
    unfold withCk
    cases b
    simp only at *
    subst z1 z2 z3 z4 z5 z6 g1 g2 g3 g4 m
    rfl
  · have kb : b.kind ≠ 2 := by rw [q.stat.kind]; exact k
    have lb : learnB a b = false := decide_eq_false (fun h => k h.2.2.1)
    have ls : learnS a b = 0 := by unfold learnS; rw [lb]; rfl
    have lf : learnF a b = 0 := by unfold learnF; rw [lb]; rfl
    rw [ls, lf]
    have d : dynB 0 0 = true := by decide
    refine ⟨d, ?_⟩
    rw [predH_udp v d k]
    have e1 : lowV 16 (numV b) = b.id := by rw [numV_udp kb, low16_mod, q.id]; omega
    rw [e1]
    have m := q.udp k
    have am : a.marker = 0 := by
      rcases v.2 with ⟨_, p⟩ | ⟨e, _⟩
      · exact p.marker
      · exact absurd e k
    obtain ⟨s0, g1, g2, g3, g4, g5, g6, g7, g8, g9, g10, g11, g12⟩ := q
    obtain ⟨z1, z2, z3, z4, z5, z6⟩ := s0
    obtain ⟨m1, m2, m3⟩ := m
    rw [am] at m3
    unfold withCk
    cases b
    simp only at *
    subst z1 z2 z3 z4 z5 z6 g1 g2 g3 g4 m1 m2 m3
    rfl
end Go.Proofs.Ytphekpkkeiaccaa
