/-
  The program's small functions of layer 8: fits, isKind, isBare, hasNoStatic, isDynamic, widthsOf.
-/
import Derived.Test.YtkhcfmnebflgkaaDoorJLow
import Derived.Test.YtkhcfmnebflgkaaDoorFmRef
import Derived.Test.YtkhcfmnebflgkaaDoorJBase
namespace Go.Proofs.YtkhcfmnebflgkaaDoor
open Go Go.RowKit

set_option maxHeartbeats 400000 in
/-- x fits into n bits: it is from 0 to the greatest number M of n bits -/
theorem fits08_any (n x M : Int) (w : World) (hn : 0 ≤ n ∧ n ≤ 32) (hM : (2 : Int) ^ n.toNat = M + 1) :
    Calls Tryd.prog 34 #[.int .i64 n, .int .i64 x] w fun e w' => e = .returned (.bool (inB x M)) ∧ w = w' := by
  obtain ⟨N, rfl⟩ := Int.eq_ofNat_of_zero_le hn.1
  have hn1 : N ≤ 32 := by omega
  have HM := Lib.hid hM
  clear hM
  by_cases hv : 0 ≤ x
  · go_enter Tryd.func34, Tryd.ntmps34
    go_wp2
    go_ret
    have hp := pow32 N hn1
    have h := HM.out
    rw [Int.toNat_natCast] at h
    exact ⟨ret_bool (by unfold inB; rw [wrap_pow N hn1, h]; simp [hv]; omega), rfl⟩
  · go_enter Tryd.func34, Tryd.ntmps34
    go_wp2
    go_ret
    exact ⟨ret_bool (by unfold inB; simp; omega), rfl⟩

theorem isKind_any (k : Int) (w : World) :
    Calls Tryd.prog 36 #[.int .i64 k] w fun e w' => e = .returned (.bool (k == 1 || k == 2)) ∧ w = w' := by
  cases g1 : (k == 1)
  all_goals
    go_enter Tryd.func36, Tryd.ntmps36
    go_wp2
    go_ret
    exact ⟨ret_bool (by simp), rfl⟩

set_option maxRecDepth 100000 in
set_option maxHeartbeats 3200000 in
theorem isBare_any (s : Sm) (k : Int) (w : World) :
    Calls Tryd.prog 37 #[(.agg #[.int .i64 s.ctx, .int .i64 s.fmt, .int .i64 s.num, .int .i64 s.time, .int .i64 s.mark, .int .i64 s.id, .int .i64 s.udp, .int .i64 s.h.kind, .int .i64 s.h.tos, .int .i64 s.h.id, .int .i64 s.h.fixed, .int .i64 s.h.ttl, .int .i64 s.h.frm, .int .i64 s.h.to, .int .i64 s.h.fromPort, .int .i64 s.h.toPort, .int .i64 s.h.check, .int .i64 s.h.marker, .int .i64 s.h.type, .int .i64 s.h.seq, .int .i64 s.h.time, .int .i64 s.h.source, .int .i64 s.ds, .int .i64 s.df, .int .i64 s.chk, .slice s.pa s.pn s.pc]), .int .i64 k] w fun e w' => e = .returned (.bool (eqB s.h (kindH k) && smDyn0 s)) ∧ Below w.heap.size w w' := by
  have BW := Lib.hid ((Below.refl w.heap.size w).alloc (Nat.le_refl _) (.cells #[.int .i64 s.ctx, .int .i64 s.fmt, .int .i64 s.num, .int .i64 s.time, .int .i64 s.mark, .int .i64 s.id, .int .i64 s.udp, .int .i64 s.h.kind, .int .i64 s.h.tos, .int .i64 s.h.id, .int .i64 s.h.fixed, .int .i64 s.h.ttl, .int .i64 s.h.frm, .int .i64 s.h.to, .int .i64 s.h.fromPort, .int .i64 s.h.toPort, .int .i64 s.h.check, .int .i64 s.h.marker, .int .i64 s.h.type, .int .i64 s.h.seq, .int .i64 s.h.time, .int .i64 s.h.source, .int .i64 s.ds, .int .i64 s.df, .int .i64 s.chk, .slice s.pa s.pn s.pc] 28))
  have hc := cells_of (heap_alloc_new w (.cells #[.int .i64 s.ctx, .int .i64 s.fmt, .int .i64 s.num, .int .i64 s.time, .int .i64 s.mark, .int .i64 s.id, .int .i64 s.udp, .int .i64 s.h.kind, .int .i64 s.h.tos, .int .i64 s.h.id, .int .i64 s.h.fixed, .int .i64 s.h.ttl, .int .i64 s.h.frm, .int .i64 s.h.to, .int .i64 s.h.fromPort, .int .i64 s.h.toPort, .int .i64 s.h.check, .int .i64 s.h.marker, .int .i64 s.h.type, .int .i64 s.h.seq, .int .i64 s.h.time, .int .i64 s.h.source, .int .i64 s.ds, .int .i64 s.df, .int .i64 s.chk, .slice s.pa s.pn s.pc] 28))
  have EH := fun W => eql_hd s.h (kindH k) W
  have ED := fun W => eql_dy s.ds s.df 0 0 W
  have HD : smDyn0 s = (decide (s.ds = 0) && decide (s.df = 0)) := by unfold smDyn0; simp [Bool.beq_eq_decide_eq]
  rw [← HD] at ED
  simp only [kindH] at EH ⊢
  generalize eqB s.h ⟨k, 0, 0, 0, 0, 0, 0, 0, 0, 0, 0, 0, 0, 0, 0⟩ = eh at EH ⊢
  generalize smDyn0 s = ed at ED ⊢
  clear HD
  cases eh
  all_goals
    go_enter Tryd.func37, Tryd.ntmps37
    go_wp2_with fail
    go_ret
    exact ⟨ret_bool (by simp), BW.out⟩

def noStatB (h : Hd) : Bool := eqB ⟨0, 0, 0, 0, 0, h.frm, h.to, h.fromPort, h.toPort, 0, 0, 0, 0, 0, h.source⟩ zeroH
set_option maxRecDepth 100000 in
set_option maxHeartbeats 3200000 in
theorem hasNoStatic_any (h : Hd) (w : World) :
    Calls Tryd.prog 39 #[(.agg #[.int .i64 h.kind, .int .i64 h.tos, .int .i64 h.id, .int .i64 h.fixed, .int .i64 h.ttl, .int .i64 h.frm, .int .i64 h.to, .int .i64 h.fromPort, .int .i64 h.toPort, .int .i64 h.check, .int .i64 h.marker, .int .i64 h.type, .int .i64 h.seq, .int .i64 h.time, .int .i64 h.source])] w fun e w' => e = .returned (.bool (noStatB h)) ∧ Below w.heap.size w w' := by
  have K1 := heap_alloc_new w (.cells #[.int .i64 h.kind, .int .i64 h.tos, .int .i64 h.id, .int .i64 h.fixed, .int .i64 h.ttl, .int .i64 h.frm, .int .i64 h.to, .int .i64 h.fromPort, .int .i64 h.toPort, .int .i64 h.check, .int .i64 h.marker, .int .i64 h.type, .int .i64 h.seq, .int .i64 h.time, .int .i64 h.source] 23)
  have hc := cells_of K1
  have K := heap_alloc_new (w.alloc (.cells #[.int .i64 h.kind, .int .i64 h.tos, .int .i64 h.id, .int .i64 h.fixed, .int .i64 h.ttl, .int .i64 h.frm, .int .i64 h.to, .int .i64 h.fromPort, .int .i64 h.toPort, .int .i64 h.check, .int .i64 h.marker, .int .i64 h.type, .int .i64 h.seq, .int .i64 h.time, .int .i64 h.source] 23)) (.cells #[.int .i64 0, .int .i64 0, .int .i64 0, .int .i64 0, .int .i64 0, .int .i64 h.frm, .int .i64 h.to, .int .i64 h.fromPort, .int .i64 h.toPort, .int .i64 0, .int .i64 0, .int .i64 0, .int .i64 0, .int .i64 0, .int .i64 h.source] 23)
  rw [show (w.alloc (.cells #[.int .i64 h.kind, .int .i64 h.tos, .int .i64 h.id, .int .i64 h.fixed, .int .i64 h.ttl, .int .i64 h.frm, .int .i64 h.to, .int .i64 h.fromPort, .int .i64 h.toPort, .int .i64 h.check, .int .i64 h.marker, .int .i64 h.type, .int .i64 h.seq, .int .i64 h.time, .int .i64 h.source] 23)).heap.size = w.heap.size + 1 by simp] at K
  have hd := cells_of K
  have BW := Lib.hid (((Below.refl w.heap.size w).alloc (Nat.le_refl _) (.cells #[.int .i64 h.kind, .int .i64 h.tos, .int .i64 h.id, .int .i64 h.fixed, .int .i64 h.ttl, .int .i64 h.frm, .int .i64 h.to, .int .i64 h.fromPort, .int .i64 h.toPort, .int .i64 h.check, .int .i64 h.marker, .int .i64 h.type, .int .i64 h.seq, .int .i64 h.time, .int .i64 h.source] 23)).alloc (by simp) (.cells #[.int .i64 0, .int .i64 0, .int .i64 0, .int .i64 0, .int .i64 0, .int .i64 h.frm, .int .i64 h.to, .int .i64 h.fromPort, .int .i64 h.toPort, .int .i64 0, .int .i64 0, .int .i64 0, .int .i64 0, .int .i64 0, .int .i64 h.source] 23))
  have EH := fun W => eql_hd ⟨0, 0, 0, 0, 0, h.frm, h.to, h.fromPort, h.toPort, 0, 0, 0, 0, 0, h.source⟩ zeroH W
  have HN : noStatB h = eqB ⟨0, 0, 0, 0, 0, h.frm, h.to, h.fromPort, h.toPort, 0, 0, 0, 0, 0, h.source⟩ zeroH := rfl
  rw [← HN] at EH
  simp only [zeroH] at EH
  generalize noStatB h = eh at EH ⊢
  clear HN K K1
  go_enter Tryd.func39, Tryd.ntmps39
  go_wp2_with fail
  go_ret
  exact ⟨rfl, BW.out⟩

def isDynB (s : Sm) : Bool := if s.h.kind = 1 then smDyn0 s else inB s.ds 65535 && inB s.df 1
set_option maxRecDepth 100000 in
set_option maxHeartbeats 3200000 in
theorem isDynamic_any (s : Sm) (w : World) :
    Calls Tryd.prog 40 #[(.agg #[.int .i64 s.ctx, .int .i64 s.fmt, .int .i64 s.num, .int .i64 s.time, .int .i64 s.mark, .int .i64 s.id, .int .i64 s.udp, .int .i64 s.h.kind, .int .i64 s.h.tos, .int .i64 s.h.id, .int .i64 s.h.fixed, .int .i64 s.h.ttl, .int .i64 s.h.frm, .int .i64 s.h.to, .int .i64 s.h.fromPort, .int .i64 s.h.toPort, .int .i64 s.h.check, .int .i64 s.h.marker, .int .i64 s.h.type, .int .i64 s.h.seq, .int .i64 s.h.time, .int .i64 s.h.source, .int .i64 s.ds, .int .i64 s.df, .int .i64 s.chk, .slice s.pa s.pn s.pc])] w fun e w' => e = .returned (.bool (isDynB s)) ∧ Below w.heap.size w w' := by
  have BW := Lib.hid ((Below.refl w.heap.size w).alloc (Nat.le_refl _) (.cells #[.int .i64 s.ctx, .int .i64 s.fmt, .int .i64 s.num, .int .i64 s.time, .int .i64 s.mark, .int .i64 s.id, .int .i64 s.udp, .int .i64 s.h.kind, .int .i64 s.h.tos, .int .i64 s.h.id, .int .i64 s.h.fixed, .int .i64 s.h.ttl, .int .i64 s.h.frm, .int .i64 s.h.to, .int .i64 s.h.fromPort, .int .i64 s.h.toPort, .int .i64 s.h.check, .int .i64 s.h.marker, .int .i64 s.h.type, .int .i64 s.h.seq, .int .i64 s.h.time, .int .i64 s.h.source, .int .i64 s.ds, .int .i64 s.df, .int .i64 s.chk, .slice s.pa s.pn s.pc] 28))
  have hc := cells_of (heap_alloc_new w (.cells #[.int .i64 s.ctx, .int .i64 s.fmt, .int .i64 s.num, .int .i64 s.time, .int .i64 s.mark, .int .i64 s.id, .int .i64 s.udp, .int .i64 s.h.kind, .int .i64 s.h.tos, .int .i64 s.h.id, .int .i64 s.h.fixed, .int .i64 s.h.ttl, .int .i64 s.h.frm, .int .i64 s.h.to, .int .i64 s.h.fromPort, .int .i64 s.h.toPort, .int .i64 s.h.check, .int .i64 s.h.marker, .int .i64 s.h.type, .int .i64 s.h.seq, .int .i64 s.h.time, .int .i64 s.h.source, .int .i64 s.ds, .int .i64 s.df, .int .i64 s.chk, .slice s.pa s.pn s.pc] 28))
  by_cases k1 : s.h.kind = 1
  · have HD : isDynB s = (decide (s.ds = 0) && decide (s.df = 0)) := by unfold isDynB smDyn0; rw [if_pos k1]; simp [Bool.beq_eq_decide_eq]
    have ED := fun W => eql_dy s.ds s.df 0 0 W
    rw [← HD] at ED
    generalize isDynB s = ed at ED ⊢
    have K1 : (s.h.kind == 1) = true := by rw [k1]; rfl
    clear HD k1
    go_enter Tryd.func40, Tryd.ntmps40
    go_wp2_with fail
    go_ret
    exact ⟨rfl, BW.out⟩
  · have HD : Hid (isDynB s = (inB s.ds 65535 && inB s.df 1)) := by show _ = _; unfold isDynB; rw [if_neg k1]
    have K1 : (s.h.kind == 1) = false := by simpa using k1
    clear k1
    have IS := Lib.hid (fun W => fits08_any 16 s.ds 65535 W (by decide) (by decide))
    have IF := Lib.hid (fun W => fits08_any 1 s.df 1 W (by decide) (by decide))
    generalize inB s.ds 65535 = cs at IS HD
    generalize inB s.df 1 = cf at IF HD
    generalize isDynB s = ed at HD ⊢
    cases cs
    all_goals
      go_enter Tryd.func40, Tryd.ntmps40
      go_wp2_with (first | (go_at_call 34; ((with_reducible refine (IS.out _).mono ?_); rintro e w' ⟨rfl, rfl⟩)) | (go_at_call 34; ((with_reducible refine (IF.out _).mono ?_); rintro e w' ⟨rfl, rfl⟩)) | fail)
      go_ret
      exact ⟨ret_bool (by rw [HD.out]; simp), BW.out⟩

/-- the widths of a format: numbers, times, markers, ids, check values -/
def wNum (f k : Int) : Int := if f = 1 then 4 else if f = 2 then 5 else if f = 3 then (if k = 2 then 8 else 16) else 0
def wTime (f k : Int) : Int := if k = 2 then (if f = 2 then 16 else if f = 3 then 32 else 0) else 0
def wMark (f k : Int) : Int := if k = 2 then (if f = 2 then 1 else if f = 3 then 1 else 0) else 0
def wId (f k : Int) : Int := if k = 2 then (if f = 3 then 16 else 0) else 0
def wChk (f : Int) : Int := if f = 1 then 3 else if f = 2 then 7 else if f = 6 then 0 else 8
theorem ret_widths {a b c d e a' b' c' d' e' : Int} (h1 : a = a') (h2 : b = b') (h3 : c = c') (h4 : d = d') (h5 : e = e') : Ending.returned (.agg #[.int .i64 a, .int .i64 b, .int .i64 c, .int .i64 d, .int .i64 e]) = .returned (.agg #[.int .i64 a', .int .i64 b', .int .i64 c', .int .i64 d', .int .i64 e']) := by subst h1 h2 h3 h4 h5; rfl
def WidR (f k : Int) (w : World) (e : Ending) (w' : World) : Prop := e = .returned (.agg #[.int .i64 (wNum f k), .int .i64 (wTime f k), .int .i64 (wMark f k), .int .i64 (wId f k), .int .i64 (wChk f)]) ∧ Below w.heap.size w w'
set_option maxRecDepth 100000 in
set_option maxHeartbeats 3200000 in
theorem widthsOf_any (f k : Int) (w : World) :
    Calls Tryd.prog 58 #[.int .i64 f, .int .i64 k] w (WidR f k w) := by
  have key : ∀ (f1 f2 f3 f6 k2 : Bool), (f == 1) = f1 → (f == 2) = f2 → (f == 3) = f3 → (f == 6) = f6 → (k == 2) = k2 → Calls Tryd.prog 58 #[.int .i64 f, .int .i64 k] w (WidR f k w) := by
    intro f1 f2 f3 f6 k2 h1 h2 h3 h6 hk
    have H1 := Lib.hid h1
    have H2 := Lib.hid h2
    have H3 := Lib.hid h3
    have H6 := Lib.hid h6
    have HK := Lib.hid hk
    cases k2
    all_goals
      cases f1 <;> cases f2 <;> cases f3 <;> cases f6
    all_goals first
      | (exfalso; simp at h1 h2; omega)
      | (exfalso; simp at h1 h3; omega)
      | (exfalso; simp at h1 h6; omega)
      | (exfalso; simp at h2 h3; omega)
      | (exfalso; simp at h2 h6; omega)
      | (exfalso; simp at h3 h6; omega)
      | (go_enter Tryd.func58, Tryd.ntmps58
         go_wp2_with fail
         refine bodyPost_ret (by simp [results, Tryd.results58, go_sem]; rfl) rfl ?_
         have h1 := H1.out
         have h2 := H2.out
         have h3 := H3.out
         have h6 := H6.out
         have hk := HK.out
         simp only [beq_iff_eq, beq_eq_false_iff_ne, ne_eq] at h1 h2 h3 h6 hk
         refine ⟨ret_widths ?_ ?_ ?_ ?_ ?_, ?_⟩
         · simp [wNum, h1, h2, h3, h6, hk]
         · simp [wTime, h1, h2, h3, h6, hk]
         · simp [wMark, h1, h2, h3, h6, hk]
         · simp [wId, h1, h2, h3, h6, hk]
         · simp [wChk, h1, h2, h3, h6]
         · (repeat (refine Below.setCell ?_ (by simp) _)); exact (Below.refl _ _).alloc (Nat.le_refl _) _)
  exact key _ _ _ _ _ rfl rfl rfl rfl rfl
end Go.Proofs.YtkhcfmnebflgkaaDoor
