/-
  The program's own Valid of layer 8 says what the document's says.
-/
import Derived.Test.YtkhcfmnebflgkaaDoorFmVal2
namespace Go.Proofs.YtkhcfmnebflgkaaDoor
open Go Go.RowKit

theorem inB_zero (x : Int) : inB x (wMax 0) = (x == 0) := by
  unfold inB wMax; rw [Bool.beq_eq_decide_eq]; congr 1; simp; omega
theorem wid_low (s : Sm) (f : s.fmt = 1 ∨ s.fmt = 2 ∨ s.fmt = 3) (k : s.h.kind = 1 ∨ s.h.kind = 2) : fmWidB s = smLowB s := by
  unfold fmWidB smLowB smNumM smTimeM smMarkM smIdM smChkM wNum wTime wMark wId wChk
  rcases f with f | f | f <;> rcases k with k | k <;> rw [f, k] <;> rfl
theorem wid_big (s : Sm) (f : s.fmt = 4 ∨ s.fmt = 5) : fmWidB s = (s.num == 0 && s.time == 0 && s.mark == 0 && s.id == 0 && inB s.chk 255) := by
  unfold fmWidB
  have e1 : wNum s.fmt s.h.kind = 0 := by unfold wNum; rcases f with f | f <;> rw [f] <;> rfl
  have e2 : wTime s.fmt s.h.kind = 0 := by unfold wTime; rcases f with f | f <;> rw [f] <;> (split <;> rfl)
  have e3 : wMark s.fmt s.h.kind = 0 := by unfold wMark; rcases f with f | f <;> rw [f] <;> (split <;> rfl)
  have e4 : wId s.fmt s.h.kind = 0 := by unfold wId; rcases f with f | f <;> rw [f] <;> (split <;> rfl)
  have e5 : wChk s.fmt = 8 := by unfold wChk; rcases f with f | f <;> rw [f] <;> rfl
  rw [e1, e2, e3, e4, e5, inB_zero, inB_zero, inB_zero, inB_zero]; rfl
theorem wid_raw (s : Sm) (f : s.fmt = 6) : fmWidB s = (s.num == 0 && s.time == 0 && s.mark == 0 && s.id == 0 && s.chk == 0) := by
  unfold fmWidB
  have e1 : wNum s.fmt s.h.kind = 0 := by unfold wNum; rw [f]; rfl
  have e2 : wTime s.fmt s.h.kind = 0 := by unfold wTime; rw [f]; (split <;> rfl)
  have e3 : wMark s.fmt s.h.kind = 0 := by unfold wMark; rw [f]; (split <;> rfl)
  have e4 : wId s.fmt s.h.kind = 0 := by unfold wId; rw [f]; (split <;> rfl)
  have e5 : wChk s.fmt = 0 := by unfold wChk; rw [f]; rfl
  rw [e1, e2, e3, e4, e5, inB_zero, inB_zero, inB_zero, inB_zero, inB_zero]
theorem noStat_is (h : Hd) : noStatB h = eqB (statH h) (kindH h.kind) := by
  unfold noStatB eqB statH kindH zeroH; congr 1; simp
theorem isDyn_is (s : Sm) : isDynB s = (dynB s.ds s.df && !(s.h.kind == 1 && !smDyn0 s)) := by
  unfold isDynB
  by_cases k : s.h.kind = 1
  · rw [if_pos k, k]
    unfold smDyn0 dynB
    cases h1 : (s.ds == 0) <;> cases h2 : (s.df == 0) <;> simp_all
  · rw [if_neg k]
    have k' : (s.h.kind == 1) = false := by simpa using k
    rw [k']
    unfold dynB inB
    simp
    rw [Bool.eq_iff_iff]; simp; omega

/-- what Valid answers -/
theorem Valid08_any (s : Sm) (w : World) (b : s.h.Fits) :
    Calls Tryd.prog 13 #[(.agg #[.int .i64 s.ctx, .int .i64 s.fmt, .int .i64 s.num, .int .i64 s.time, .int .i64 s.mark, .int .i64 s.id, .int .i64 s.udp, .int .i64 s.h.kind, .int .i64 s.h.tos, .int .i64 s.h.id, .int .i64 s.h.fixed, .int .i64 s.h.ttl, .int .i64 s.h.frm, .int .i64 s.h.to, .int .i64 s.h.fromPort, .int .i64 s.h.toPort, .int .i64 s.h.check, .int .i64 s.h.marker, .int .i64 s.h.type, .int .i64 s.h.seq, .int .i64 s.h.time, .int .i64 s.h.source, .int .i64 s.ds, .int .i64 s.df, .int .i64 s.chk, .slice s.pa s.pn s.pc])] w fun e w' => e = .returned (.bool (smB s)) ∧ Below w.heap.size w w' := by
  have go : ∀ c : Bool, c = smB s → Calls Tryd.prog 13 #[(.agg #[.int .i64 s.ctx, .int .i64 s.fmt, .int .i64 s.num, .int .i64 s.time, .int .i64 s.mark, .int .i64 s.id, .int .i64 s.udp, .int .i64 s.h.kind, .int .i64 s.h.tos, .int .i64 s.h.id, .int .i64 s.h.fixed, .int .i64 s.h.ttl, .int .i64 s.h.frm, .int .i64 s.h.to, .int .i64 s.h.fromPort, .int .i64 s.h.toPort, .int .i64 s.h.check, .int .i64 s.h.marker, .int .i64 s.h.type, .int .i64 s.h.seq, .int .i64 s.h.time, .int .i64 s.h.source, .int .i64 s.ds, .int .i64 s.df, .int .i64 s.chk, .slice s.pa s.pn s.pc])] w (fun e w' => e = .returned (.bool c) ∧ Below w.heap.size w w') → Calls Tryd.prog 13 #[(.agg #[.int .i64 s.ctx, .int .i64 s.fmt, .int .i64 s.num, .int .i64 s.time, .int .i64 s.mark, .int .i64 s.id, .int .i64 s.udp, .int .i64 s.h.kind, .int .i64 s.h.tos, .int .i64 s.h.id, .int .i64 s.h.fixed, .int .i64 s.h.ttl, .int .i64 s.h.frm, .int .i64 s.h.to, .int .i64 s.h.fromPort, .int .i64 s.h.toPort, .int .i64 s.h.check, .int .i64 s.h.marker, .int .i64 s.h.type, .int .i64 s.h.seq, .int .i64 s.h.time, .int .i64 s.h.source, .int .i64 s.ds, .int .i64 s.df, .int .i64 s.chk, .slice s.pa s.pn s.pc])] w (fun e w' => e = .returned (.bool (smB s)) ∧ Below w.heap.size w w') := by
    rintro c rfl h; exact h
  cases h0 : inB s.ctx 15
  · exact go false (by unfold smB; rw [h0]; rfl) (val_no_c s w h0)
  by_cases pn : ¬ s.pn ≤ 1500
  · exact go false (by unfold smB; rw [decide_eq_false pn]; simp) (val_no_p s w h0 (by omega))
  have pn := Decidable.not_not.1 pn
  by_cases hf : ¬ (1 ≤ s.fmt ∧ s.fmt ≤ 6)
  · cases hw : fmWidB s
    · exact go false (by unfold smB; rw [decide_eq_false hf]; simp) (val_no_w s w h0 pn hw)
    · exact go false (by unfold smB; rw [decide_eq_false hf]; simp) (val_no_f s w h0 pn hw (by omega))
  have hf := Decidable.not_not.1 hf
  have e : smB s = (if s.fmt < 4 then smSmallB s else smNoneB s && (if s.fmt = 6 then smRawB s else smBigB s)) := by
    unfold smB; rw [h0, decide_eq_true hf, decide_eq_true pn]; rfl
  by_cases f4 : s.fmt < 4
  · have f3 : s.fmt = 1 ∨ s.fmt = 2 ∨ s.fmt = 3 := by omega
    rw [if_pos f4] at e
    by_cases k : s.h.kind = 1 ∨ s.h.kind = 2
    · have hk : (s.h.kind == 1 || s.h.kind == 2) = true := by rcases k with k | k <;> rw [k] <;> rfl
      cases hw : fmWidB s
      · exact go false (by rw [e]; unfold smSmallB; rw [← wid_low s f3 k, hw]; simp) (val_no_w s w h0 pn hw)
      · refine go ((s.h.kind == 1 || s.h.kind == 2) && (eqB s.h (kindH s.h.kind) && smDyn0 s) && inB s.udp 65535) (by rw [e]; unfold smSmallB smHeadB; rw [← wid_low s f3 k, hw, hk]; simp [Bool.and_assoc]) ?_
        rcases f3 with f | f | f
        · exact val_1 s w h0 pn hw f
        · exact val_2 s w h0 pn hw f
        · exact val_3 s w h0 pn hw f
    · have hk : (s.h.kind == 1 || s.h.kind == 2) = false := by
        have k1 : (s.h.kind == 1) = false := by simp; omega
        have k2 : (s.h.kind == 2) = false := by simp; omega
        rw [k1, k2]; rfl
      have e0 : smB s = false := by rw [e]; unfold smSmallB smHeadB; rw [hk]; simp
      cases hw : fmWidB s
      · exact go false e0.symm (val_no_w s w h0 pn hw)
      · refine go ((s.h.kind == 1 || s.h.kind == 2) && (eqB s.h (kindH s.h.kind) && smDyn0 s) && inB s.udp 65535) (by rw [e0, hk]; rfl) ?_
        rcases f3 with f | f | f
        · exact val_1 s w h0 pn hw f
        · exact val_2 s w h0 pn hw f
        · exact val_3 s w h0 pn hw f
  · rw [if_neg f4] at e
    by_cases f6 : s.fmt = 6
    · rw [if_pos f6] at e
      have hw := wid_raw s f6
      cases hw' : fmWidB s
      · rw [hw'] at hw
        exact go false (by rw [e]; unfold smNoneB smRawB; revert hw; cases (s.num == 0) <;> cases (s.time == 0) <;> cases (s.mark == 0) <;> cases (s.id == 0) <;> cases (s.chk == 0) <;> simp) (val_no_w s w h0 pn hw')
      · rw [hw'] at hw
        exact go (s.ctx == 0 && (eqB s.h (kindH 0) && smDyn0 s) && s.udp == 0) (by rw [e]; unfold smNoneB smRawB; rw [show kindH 0 = zeroH from rfl]; revert hw; cases (s.num == 0) <;> cases (s.time == 0) <;> cases (s.mark == 0) <;> cases (s.id == 0) <;> cases (s.chk == 0) <;> cases (s.udp == 0) <;> simp [Bool.and_assoc]) (val_6 s w h0 pn hw' f6)
    · rw [if_neg f6] at e
      have f5 : s.fmt = 4 ∨ s.fmt = 5 := by omega
      have hw := wid_big s f5
      cases hw' : fmWidB s
      · rw [hw'] at hw
        exact go false (by rw [e]; unfold smNoneB smBigB; revert hw; cases (s.num == 0) <;> cases (s.time == 0) <;> cases (s.mark == 0) <;> cases (s.id == 0) <;> cases (inB s.chk 255) <;> simp) (val_no_w s w h0 pn hw')
      · rw [hw'] at hw
        have hn : smNoneB s = (s.udp == 0) := by unfold smNoneB; revert hw; cases (s.num == 0) <;> cases (s.time == 0) <;> cases (s.mark == 0) <;> cases (s.id == 0) <;> simp
        have hcq : inB s.chk 255 = true := by revert hw; cases (inB s.chk 255) <;> simp
        rcases f5 with f | f
        · refine go (validB s.h && noStatB s.h && isDynB s && s.udp == 0) ?_ (val_4 s w h0 pn hw' f b)
          rw [e, hn]; unfold smBigB; rw [hcq, f, noStat_is]
          cases hv : validB s.h
          · simp
          · rw [isDyn_is s]
            generalize dynB s.ds s.df = a1
            generalize eqB (statH s.h) (kindH s.h.kind) = a2
            generalize (!(s.h.kind == 1 && !smDyn0 s)) = a3
            cases a1 <;> cases a2 <;> cases a3 <;> cases (s.udp == 0) <;> rfl
        · refine go (validB s.h && isDynB s && s.udp == 0) ?_ (val_5 s w h0 pn hw' f b)
          rw [e, hn]; unfold smBigB; rw [hcq, f]
          cases hv : validB s.h
          · simp
          · rw [isDyn_is s]
            generalize dynB s.ds s.df = a1
            generalize (!(s.h.kind == 1 && !smDyn0 s)) = a3
            cases a1 <;> cases a3 <;> cases (s.udp == 0) <;> rfl
end Go.Proofs.YtkhcfmnebflgkaaDoor
