/-
  Predictions over two steps, plainly.
-/
import Derived.Test.YtphekpkkeiaccaaFlPlain
import Derived.Test.YtphekpkkeiaccaaDiceDyn
namespace Go.Proofs.Ytphekpkkeiaccaa
open Go Go.RowKit

theorem low16_mod (x : Int) : lowV 16 x = x % 65536 := by
  rw [show (16 : Int) = ((16 : Nat) : Int) from rfl, lowV_nat 16 _ (by omega)]; rfl
theorem low32_mod (x : Int) : lowV 32 x = x % 4294967296 := by
  rw [show (32 : Int) = ((32 : Nat) : Int) from rfl, lowV_nat 32 _ (by omega)]; rfl
theorem sig16_mod (a b : Int) : sigV 16 a b = if (b - a) % 65536 < 32768 then (b - a) % 65536 else (b - a) % 65536 - 65536 := by
  rw [show (16 : Int) = ((16 : Nat) : Int) from rfl, sigV_nat 16 _ _ (by omega), distV_nat 16 _ _ (by omega)]; rfl
theorem sig16_near (a b d : Int) (h : (b - a) % 65536 = d % 65536) (h0 : -32768 ≤ d) (h1 : d < 32768) : sigV 16 a b = d := by
  rw [sig16_mod, h]; split <;> omega
theorem numV_rtp {h : Hd} (k : h.kind = 2) : numV h = h.seq % 65536 := by unfold numV; rw [if_pos k, low16_mod]
theorem numV_udp {h : Hd} (k : h.kind ≠ 2) : numV h = h.id % 65536 := by unfold numV; rw [if_neg k, low16_mod]
theorem dynB_of {k s f : Int} (q : DynS k s f) : dynB s f = true := decide_eq_true ⟨⟨q.s0, q.s1⟩, q.fol⟩

/-- a prediction from a header without Marker and Check is valid -/
theorem predH_valid {s f n : Int} {h : Hd} (v : h.Valid) (d : dynB s f = true) : (predH s f h n).Valid := by
  unfold predH
  rw [if_pos ⟨validB_true v, d⟩]
  obtain ⟨i, c⟩ := v
  have l1 := low16_bd n
  have l2 := low16_bd (h.id + stepV h n)
  have l3 := low32_bd (h.time + s * stepV h n)
  unfold folV
  rcases c with ⟨k, p⟩ | ⟨k, p⟩
  · rw [if_neg (by omega)]
    exact ⟨⟨i.tos0, i.tos1, i.ttl0, i.ttl1, l1.1, l1.2, i.fromPort0, i.fromPort1, i.toPort0, i.toPort1, show (0 : Int) ≤ 0 by decide, show (0 : Int) ≤ 65535 by decide, i.fixed0, i.fixed1, i.frm0, i.frm1, i.to0, i.to1⟩, .inl ⟨k, ⟨rfl, p.type, p.seq, p.time, p.source⟩⟩⟩
  · rw [if_pos k]
    refine ⟨⟨i.tos0, i.tos1, i.ttl0, i.ttl1, ?_, ?_, i.fromPort0, i.fromPort1, i.toPort0, i.toPort1, show (0 : Int) ≤ 0 by decide, show (0 : Int) ≤ 65535 by decide, i.fixed0, i.fixed1, i.frm0, i.frm1, i.to0, i.to1⟩, .inr ⟨k, ⟨show (0 : Int) ≤ 0 by decide, show (0 : Int) ≤ 1 by decide, p.type0, p.type1, l1.1, l1.2, l3.1, l3.2, p.source0, p.source1⟩⟩⟩
    · dsimp only; split
      · exact l2.1
      · exact i.id0
    · dsimp only; split
      · exact l2.2
      · exact i.id1

theorem predH_rtp {s f n : Int} {h : Hd} (v : h.Valid) (d : dynB s f = true) (k : h.kind = 2) : predH s f h n = ⟨h.kind, h.tos, if f = 1 then folV h (stepV h n) else h.id, h.fixed, h.ttl, h.frm, h.to, h.fromPort, h.toPort, 0, 0, h.type, lowV 16 n, lowV 32 (h.time + s * stepV h n), h.source⟩ := by
  unfold predH; rw [if_pos ⟨validB_true v, d⟩, if_pos k]
theorem predH_udp {s f n : Int} {h : Hd} (v : h.Valid) (d : dynB s f = true) (k : h.kind ≠ 2) : predH s f h n = ⟨h.kind, h.tos, lowV 16 n, h.fixed, h.ttl, h.frm, h.to, h.fromPort, h.toPort, 0, 0, h.type, h.seq, h.time, h.source⟩ := by
  unfold predH; rw [if_pos ⟨validB_true v, d⟩, if_neg k]

/-- over one step and then another one: as over both -/
theorem pred_two {s f i k : Int} {h : Hd} (v : h.Valid) (d : dynB s f = true) (hi : -1000 ≤ i ∧ i ≤ 999) (hk : -1000 ≤ k ∧ k ≤ 1000) :
    predH s f (predH s f h (numV h + i)) (numV h + i + k) = predH s f h (numV h + i + k) := by
  have vb := predH_valid (n := numV h + i) v d
  by_cases kk : h.kind = 2
  · have e1 := predH_rtp (n := numV h + i) v d kk
    have s1 : stepV h (numV h + i) = i := sig16_near _ _ _ (by congr 1; omega) (by omega) (by omega)
    have s2 : stepV h (numV h + i + k) = i + k := sig16_near _ _ _ (by congr 1; omega) (by omega) (by omega)
    rw [s1] at e1
    rw [e1] at vb ⊢
    rw [predH_rtp (n := numV h + i + k) v d kk, s2]
    rw [predH_rtp vb d kk]
    have s3 : stepV ⟨h.kind, h.tos, if f = 1 then folV h i else h.id, h.fixed, h.ttl, h.frm, h.to, h.fromPort, h.toPort, 0, 0, h.type, lowV 16 (numV h + i), lowV 32 (h.time + s * i), h.source⟩ (numV h + i + k) = k := by
      unfold stepV
      rw [numV_rtp (by exact kk)]
      dsimp only
      rw [low16_mod]
      exact sig16_near _ _ _ (by omega) (by omega) (by omega)
    rw [s3]
    have e2 : lowV 32 (lowV 32 (h.time + s * i) + s * k) = lowV 32 (h.time + s * (i + k)) := by
      rw [low32_mod, low32_mod, low32_mod, Int.mul_add]
      generalize s * i = x
      generalize s * k = y
      omega
    have e3 : (if f = 1 then folV ⟨h.kind, h.tos, if f = 1 then folV h i else h.id, h.fixed, h.ttl, h.frm, h.to, h.fromPort, h.toPort, 0, 0, h.type, lowV 16 (numV h + i), lowV 32 (h.time + s * i), h.source⟩ k else (if f = 1 then folV h i else h.id)) = (if f = 1 then folV h (i + k) else h.id) := by
      split
      · unfold folV
        dsimp only
        rw [low16_mod, low16_mod, low16_mod]
        omega
      · rfl
    dsimp only
    rw [e2, e3]
  · have e1 := predH_udp (n := numV h + i) v d kk
    rw [e1] at vb ⊢
    rw [predH_udp (n := numV h + i + k) v d kk, predH_udp vb d kk]

theorem pred_zero {s f : Int} {h : Hd} (v : h.Valid) (d : dynB s f = true) (hm : h.marker = 0) (hc : h.check = 0) : predH s f h (numV h) = h := by
  have z : stepV h (numV h) = 0 := sig16_near _ _ _ (by congr 1; omega) (by omega) (by omega)
  obtain ⟨i, c⟩ := v
  rcases c with ⟨k, p⟩ | ⟨k, p⟩
  · have k2 : h.kind ≠ 2 := by omega
    rw [predH_udp ⟨i, .inl ⟨k, p⟩⟩ d k2]
    have e : lowV 16 (numV h) = h.id := by rw [numV_udp k2, low16_mod]; have := i.id0; have := i.id1; omega
    rw [e]
    cases h; simp only at *; subst hm; subst hc; rfl
  · rw [predH_rtp ⟨i, .inr ⟨k, p⟩⟩ d k, z]
    have e1 : lowV 16 (numV h) = h.seq := by rw [numV_rtp k, low16_mod]; have := p.seq0; have := p.seq1; omega
    have e2 : lowV 32 (h.time + s * 0) = h.time := by rw [low32_mod]; have := p.time0; have := p.time1; omega
    have e3 : (if f = 1 then folV h 0 else h.id) = h.id := by
      split
      · unfold folV; rw [low16_mod]; have := i.id0; have := i.id1; omega
      · rfl
    rw [e1, e2, e3]
    cases h; simp only at *; subst hm; subst hc; rfl
/-- .. and back -/
theorem pred_back {s f i : Int} {h : Hd} (v : h.Valid) (d : dynB s f = true) (hi : -1000 ≤ i ∧ i ≤ 999) (hm : h.marker = 0) (hc : h.check = 0) :
    predH s f (predH s f h (numV h + i)) (numV h) = h := by
  have q := pred_two (k := -i) v d hi (by omega)
  rw [show numV h + i + -i = numV h by omega] at q
  rw [q, pred_zero v d hm hc]
theorem pred_number {s f i : Int} {h : Hd} (v : h.Valid) (d : dynB s f = true) (hi : -1000 ≤ i ∧ i ≤ 999) : sigV 16 (numV h) (numV (predH s f h (numV h + i))) = i := by
  have e : numV (predH s f h (numV h + i)) = (numV h + i) % 65536 := by
    generalize numV h + i = m
    by_cases kk : h.kind = 2
    · rw [predH_rtp v d kk, numV_rtp (by exact kk)]
      dsimp only
      rw [low16_mod]
      omega
    · rw [predH_udp v d kk, numV_udp (by exact kk)]
      dsimp only
      rw [low16_mod]
      omega
  rw [e]
  exact sig16_near _ _ _ (by omega) (by omega) (by omega)
end Go.Proofs.Ytphekpkkeiaccaa
