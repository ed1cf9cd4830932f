/-
  The document's own Valid of layer 8: the big formats that are valid, and all together.
-/
import Derived.Test.YtkhcfmnebflgkaaDoorFmValid2
import Derived.WalkSmall
import Derived.Deep.QuietTactic
import Derived.BigQuiet
namespace Go.Proofs.YtkhcfmnebflgkaaDoor
open Go Go.RowKit

set_option maxRecDepth 100000 in
set_option maxHeartbeats 6400000 in
theorem rBig_y1 (s : Sm) (w : World) (hf : s.h.Fits) (h0 : inB s.ctx 15 = true) (h1 : (4 ≤ s.fmt ∧ s.fmt ≤ 5) ∧ s.pn ≤ 1500) (h2 : smNoneB s = true) (hv : validB s.h = true) (hd : dynB s.ds s.df = true) (kk : (s.h.kind == 1) = true) (he : smDyn0 s = true) (hk : inB s.chk 255 = true) :
    Calls Tryd.prog 14 #[(.agg #[.int .i64 s.ctx, .int .i64 s.fmt, .int .i64 s.num, .int .i64 s.time, .int .i64 s.mark, .int .i64 s.id, .int .i64 s.udp, .int .i64 s.h.kind, .int .i64 s.h.tos, .int .i64 s.h.id, .int .i64 s.h.fixed, .int .i64 s.h.ttl, .int .i64 s.h.frm, .int .i64 s.h.to, .int .i64 s.h.fromPort, .int .i64 s.h.toPort, .int .i64 s.h.check, .int .i64 s.h.marker, .int .i64 s.h.type, .int .i64 s.h.seq, .int .i64 s.h.time, .int .i64 s.h.source, .int .i64 s.ds, .int .i64 s.df, .int .i64 s.chk, .slice s.pa s.pn s.pc])] w fun e w' => e = .returned (.bool (s.fmt == 5 || eqB (statH s.h) (kindH s.h.kind))) ∧ Below w.heap.size w w' := by
  obtain ⟨es, ES0⟩ : ∃ es, Hid (eqB (statH s.h) (kindH s.h.kind) = es) := ⟨_, rfl⟩
  rw [ES0.out]
  obtain ⟨R, HR⟩ : ∃ R, Hid ((s.fmt == 5 || es) = R) := ⟨_, rfl⟩
  rw [HR.out]
  have BW := Lib.hid ((Below.refl w.heap.size w).alloc (Nat.le_refl _) (.cells #[.int .i64 s.ctx, .int .i64 s.fmt, .int .i64 s.num, .int .i64 s.time, .int .i64 s.mark, .int .i64 s.id, .int .i64 s.udp, .int .i64 s.h.kind, .int .i64 s.h.tos, .int .i64 s.h.id, .int .i64 s.h.fixed, .int .i64 s.h.ttl, .int .i64 s.h.frm, .int .i64 s.h.to, .int .i64 s.h.fromPort, .int .i64 s.h.toPort, .int .i64 s.h.check, .int .i64 s.h.marker, .int .i64 s.h.type, .int .i64 s.h.seq, .int .i64 s.h.time, .int .i64 s.h.source, .int .i64 s.ds, .int .i64 s.df, .int .i64 s.chk, .slice s.pa s.pn s.pc] 28))
  have hc := cells_of (heap_alloc_new w (.cells #[.int .i64 s.ctx, .int .i64 s.fmt, .int .i64 s.num, .int .i64 s.time, .int .i64 s.mark, .int .i64 s.id, .int .i64 s.udp, .int .i64 s.h.kind, .int .i64 s.h.tos, .int .i64 s.h.id, .int .i64 s.h.fixed, .int .i64 s.h.ttl, .int .i64 s.h.frm, .int .i64 s.h.to, .int .i64 s.h.fromPort, .int .i64 s.h.toPort, .int .i64 s.h.check, .int .i64 s.h.marker, .int .i64 s.h.type, .int .i64 s.h.seq, .int .i64 s.h.time, .int .i64 s.h.source, .int .i64 s.ds, .int .i64 s.df, .int .i64 s.chk, .slice s.pa s.pn s.pc] 28))
  have I_ctx := Lib.hid (fun W => in08_any s.ctx 15 W)
  rw [h0] at I_ctx
  clear h0
  have zz : s.num = 0 ∧ s.time = 0 ∧ s.mark = 0 ∧ s.id = 0 ∧ s.udp = 0 := by
    unfold smNoneB at h2; simpa [and_assoc] using h2
  have a0 : (s.num == 0) = true := by rw [zz.1]; rfl
  have b0 : (s.num != 0) = false := by rw [zz.1]; rfl
  have a1 : (s.time == 0) = true := by rw [zz.2.1]; rfl
  have b1 : (s.time != 0) = false := by rw [zz.2.1]; rfl
  have a2 : (s.mark == 0) = true := by rw [zz.2.2.1]; rfl
  have b2 : (s.mark != 0) = false := by rw [zz.2.2.1]; rfl
  have a3 : (s.id == 0) = true := by rw [zz.2.2.2.1]; rfl
  have b3 : (s.id != 0) = false := by rw [zz.2.2.2.1]; rfl
  have a4 : (s.udp == 0) = true := by rw [zz.2.2.2.2]; rfl
  have b4 : (s.udp != 0) = false := by rw [zz.2.2.2.2]; rfl
  clear zz h2
  obtain ⟨⟨f4, f5⟩, pn⟩ := h1
  have c6 : (s.fmt == 6) = false := by simp; omega
  have CV := Lib.hid (fun W => rValid_any s.h W hf)
  rw [hv] at CV
  have BX := Lib.hid (BW.out.alloc BW.out.size (.cells #[.int .i64 s.h.kind, .int .i64 s.h.tos, .int .i64 s.h.id, .int .i64 s.h.fixed, .int .i64 s.h.ttl, .int .i64 s.h.frm, .int .i64 s.h.to, .int .i64 s.h.fromPort, .int .i64 s.h.toPort, .int .i64 s.h.check, .int .i64 s.h.marker, .int .i64 s.h.type, .int .i64 s.h.seq, .int .i64 s.h.time, .int .i64 s.h.source] 23))
  have PX := Lib.hid (VB.laid w s)
  clear hv hf
  have CD := Lib.hid (fun W => rDyn_any s.ds s.df W)
  rw [hd] at CD
  clear hd
  have ED := fun W => neql_of (eql_dy s.ds s.df 0 0 W)
  have HD : smDyn0 s = (decide (s.ds = 0) && decide (s.df = 0)) := by unfold smDyn0; simp [Bool.beq_eq_decide_eq]
  rw [← HD, he] at ED
  clear HD he
  have I_chk := Lib.hid (fun W => in08_any s.chk 255 W)
  rw [hk] at I_chk
  clear hk
  go_enter Tryd.func14, Tryd.ntmps14
  go_wp2_with (first | (go_at_call 41; ((with_reducible refine (I_ctx.out _).mono ?_); rintro e w' ⟨rfl, rfl⟩)) | (go_at_call 41; ((with_reducible refine (I_chk.out _).mono ?_); rintro e w' ⟨rfl, rfl⟩)) | (go_at_call 43; refine (CV.out _).mono ?_; rintro e w2 ⟨rfl, hb⟩; have P2 := Lib.hid (PX.out.below hb); have B2 := Lib.hid (BX.out.trans (hb.mono BX.out.size)); have q2 := cells_of P2.out.sb; have k2 := cells_of P2.out.hh; clear hb hc) | (go_at_call 44; refine (CD.out _).mono ?_; rintro e w3 ⟨rfl, hb⟩; have P3 := Lib.hid (P2.out.below hb); have B3 := Lib.hid (B2.out.trans (hb.mono B2.out.size)); have q3 := cells_of P3.out.sb; have k3 := cells_of P3.out.hh; clear hb q2 k2) | fail)
  have H4 := Lib.hid (P3.out.drew)
  have ES := fun W => eql_hd (statH s.h) (kindH s.h.kind) W
  have CS := Lib.hid (fun W => rStatic_any s.h W)
  rw [ES0.out] at ES
  simp only [kindH] at ES
  have hS : w3.cell? ⟨w.heap.size, 1, none⟩ = some (.int .i64 s.fmt) ∧ w3.cell? ⟨w.heap.size + 1, 0, none⟩ = some (.int .i64 s.h.kind) ∧ w3.cell? ⟨w.heap.size + 1, 1, none⟩ = some (.int .i64 s.h.tos) ∧ w3.cell? ⟨w.heap.size + 1, 2, none⟩ = some (.int .i64 s.h.id) ∧ w3.cell? ⟨w.heap.size + 1, 3, none⟩ = some (.int .i64 s.h.fixed) ∧ w3.cell? ⟨w.heap.size + 1, 4, none⟩ = some (.int .i64 s.h.ttl) ∧ w3.cell? ⟨w.heap.size + 1, 5, none⟩ = some (.int .i64 s.h.frm) ∧ w3.cell? ⟨w.heap.size + 1, 6, none⟩ = some (.int .i64 s.h.to) ∧ w3.cell? ⟨w.heap.size + 1, 7, none⟩ = some (.int .i64 s.h.fromPort) ∧ w3.cell? ⟨w.heap.size + 1, 8, none⟩ = some (.int .i64 s.h.toPort) ∧ w3.cell? ⟨w.heap.size + 1, 9, none⟩ = some (.int .i64 s.h.check) ∧ w3.cell? ⟨w.heap.size + 1, 10, none⟩ = some (.int .i64 s.h.marker) ∧ w3.cell? ⟨w.heap.size + 1, 11, none⟩ = some (.int .i64 s.h.type) ∧ w3.cell? ⟨w.heap.size + 1, 12, none⟩ = some (.int .i64 s.h.seq) ∧ w3.cell? ⟨w.heap.size + 1, 13, none⟩ = some (.int .i64 s.h.time) ∧ w3.cell? ⟨w.heap.size + 1, 14, none⟩ = some (.int .i64 s.h.source) := ⟨q3 1, k3 0, k3 1, k3 2, k3 3, k3 4, k3 5, k3 6, k3 7, k3 8, k3 9, k3 10, k3 11, k3 12, k3 13, k3 14⟩
  clear I_chk I_ctx CV CD BX PX P2 B2 k3 q3
  cases g5 : (s.fmt == 5)
  · go_region_held3 (fun w' => w'.cell? ⟨w.heap.size, 1, none⟩ = some (.int .i64 s.fmt) ∧ w'.cell? ⟨w.heap.size + 1, 0, none⟩ = some (.int .i64 s.h.kind) ∧ w'.cell? ⟨w.heap.size + 1, 1, none⟩ = some (.int .i64 s.h.tos) ∧ w'.cell? ⟨w.heap.size + 1, 2, none⟩ = some (.int .i64 s.h.id) ∧ w'.cell? ⟨w.heap.size + 1, 3, none⟩ = some (.int .i64 s.h.fixed) ∧ w'.cell? ⟨w.heap.size + 1, 4, none⟩ = some (.int .i64 s.h.ttl) ∧ w'.cell? ⟨w.heap.size + 1, 5, none⟩ = some (.int .i64 s.h.frm) ∧ w'.cell? ⟨w.heap.size + 1, 6, none⟩ = some (.int .i64 s.h.to) ∧ w'.cell? ⟨w.heap.size + 1, 7, none⟩ = some (.int .i64 s.h.fromPort) ∧ w'.cell? ⟨w.heap.size + 1, 8, none⟩ = some (.int .i64 s.h.toPort) ∧ w'.cell? ⟨w.heap.size + 1, 9, none⟩ = some (.int .i64 s.h.check) ∧ w'.cell? ⟨w.heap.size + 1, 10, none⟩ = some (.int .i64 s.h.marker) ∧ w'.cell? ⟨w.heap.size + 1, 11, none⟩ = some (.int .i64 s.h.type) ∧ w'.cell? ⟨w.heap.size + 1, 12, none⟩ = some (.int .i64 s.h.seq) ∧ w'.cell? ⟨w.heap.size + 1, 13, none⟩ = some (.int .i64 s.h.time) ∧ w'.cell? ⟨w.heap.size + 1, 14, none⟩ = some (.int .i64 s.h.source)) (first | with_reducible exact hS | with_reducible exact hk | go_keep)
      (first | (go_at_call 45; refine (CS.out _).mono ?_; rintro e w4 ⟨rfl, hb⟩; have P4 := Lib.hid (H4.out.below hb); have B4 := Lib.hid (B3.out.drew.trans (hb.mono B3.out.drew.size)); have q4 := cells_of P4.out.sb; have k4 := cells_of P4.out.hh; have hk : w4.cell? ⟨w.heap.size, 1, none⟩ = some (.int .i64 s.fmt) ∧ w4.cell? ⟨w.heap.size + 1, 0, none⟩ = some (.int .i64 s.h.kind) ∧ w4.cell? ⟨w.heap.size + 1, 1, none⟩ = some (.int .i64 s.h.tos) ∧ w4.cell? ⟨w.heap.size + 1, 2, none⟩ = some (.int .i64 s.h.id) ∧ w4.cell? ⟨w.heap.size + 1, 3, none⟩ = some (.int .i64 s.h.fixed) ∧ w4.cell? ⟨w.heap.size + 1, 4, none⟩ = some (.int .i64 s.h.ttl) ∧ w4.cell? ⟨w.heap.size + 1, 5, none⟩ = some (.int .i64 s.h.frm) ∧ w4.cell? ⟨w.heap.size + 1, 6, none⟩ = some (.int .i64 s.h.to) ∧ w4.cell? ⟨w.heap.size + 1, 7, none⟩ = some (.int .i64 s.h.fromPort) ∧ w4.cell? ⟨w.heap.size + 1, 8, none⟩ = some (.int .i64 s.h.toPort) ∧ w4.cell? ⟨w.heap.size + 1, 9, none⟩ = some (.int .i64 s.h.check) ∧ w4.cell? ⟨w.heap.size + 1, 10, none⟩ = some (.int .i64 s.h.marker) ∧ w4.cell? ⟨w.heap.size + 1, 11, none⟩ = some (.int .i64 s.h.type) ∧ w4.cell? ⟨w.heap.size + 1, 12, none⟩ = some (.int .i64 s.h.seq) ∧ w4.cell? ⟨w.heap.size + 1, 13, none⟩ = some (.int .i64 s.h.time) ∧ w4.cell? ⟨w.heap.size + 1, 14, none⟩ = some (.int .i64 s.h.source) := ⟨q4 1, k4 0, k4 1, k4 2, k4 3, k4 4, k4 5, k4 6, k4 7, k4 8, k4 9, k4 10, k4 11, k4 12, k4 13, k4 14⟩; clear hb q4 k4) | fail)
    go_wp2
    go_ret
    exact ⟨ret_bool (HR.out.symm.trans (by rw [g5]; rfl)).symm, B4.out⟩
  · have h5 : w3.cell? ⟨w.heap.size, 1, none⟩ = some (.int .i64 5) := by rw [hS.1, show s.fmt = 5 by simpa using g5]
    clear hS
    go_quiet (fail)
    go_wp2
    go_ret
    exact ⟨ret_bool (HR.out.symm.trans (by rw [g5]; rfl)).symm, below_drewN B3.out _⟩

set_option maxRecDepth 100000 in
set_option maxHeartbeats 6400000 in
theorem rBig_y2 (s : Sm) (w : World) (hf : s.h.Fits) (h0 : inB s.ctx 15 = true) (h1 : (4 ≤ s.fmt ∧ s.fmt ≤ 5) ∧ s.pn ≤ 1500) (h2 : smNoneB s = true) (hv : validB s.h = true) (hd : dynB s.ds s.df = true) (kk : (s.h.kind == 1) = false) (hk : inB s.chk 255 = true) :
    Calls Tryd.prog 14 #[(.agg #[.int .i64 s.ctx, .int .i64 s.fmt, .int .i64 s.num, .int .i64 s.time, .int .i64 s.mark, .int .i64 s.id, .int .i64 s.udp, .int .i64 s.h.kind, .int .i64 s.h.tos, .int .i64 s.h.id, .int .i64 s.h.fixed, .int .i64 s.h.ttl, .int .i64 s.h.frm, .int .i64 s.h.to, .int .i64 s.h.fromPort, .int .i64 s.h.toPort, .int .i64 s.h.check, .int .i64 s.h.marker, .int .i64 s.h.type, .int .i64 s.h.seq, .int .i64 s.h.time, .int .i64 s.h.source, .int .i64 s.ds, .int .i64 s.df, .int .i64 s.chk, .slice s.pa s.pn s.pc])] w fun e w' => e = .returned (.bool (s.fmt == 5 || eqB (statH s.h) (kindH s.h.kind))) ∧ Below w.heap.size w w' := by
  obtain ⟨es, ES0⟩ : ∃ es, Hid (eqB (statH s.h) (kindH s.h.kind) = es) := ⟨_, rfl⟩
  rw [ES0.out]
  obtain ⟨R, HR⟩ : ∃ R, Hid ((s.fmt == 5 || es) = R) := ⟨_, rfl⟩
  rw [HR.out]
  have BW := Lib.hid ((Below.refl w.heap.size w).alloc (Nat.le_refl _) (.cells #[.int .i64 s.ctx, .int .i64 s.fmt, .int .i64 s.num, .int .i64 s.time, .int .i64 s.mark, .int .i64 s.id, .int .i64 s.udp, .int .i64 s.h.kind, .int .i64 s.h.tos, .int .i64 s.h.id, .int .i64 s.h.fixed, .int .i64 s.h.ttl, .int .i64 s.h.frm, .int .i64 s.h.to, .int .i64 s.h.fromPort, .int .i64 s.h.toPort, .int .i64 s.h.check, .int .i64 s.h.marker, .int .i64 s.h.type, .int .i64 s.h.seq, .int .i64 s.h.time, .int .i64 s.h.source, .int .i64 s.ds, .int .i64 s.df, .int .i64 s.chk, .slice s.pa s.pn s.pc] 28))
  have hc := cells_of (heap_alloc_new w (.cells #[.int .i64 s.ctx, .int .i64 s.fmt, .int .i64 s.num, .int .i64 s.time, .int .i64 s.mark, .int .i64 s.id, .int .i64 s.udp, .int .i64 s.h.kind, .int .i64 s.h.tos, .int .i64 s.h.id, .int .i64 s.h.fixed, .int .i64 s.h.ttl, .int .i64 s.h.frm, .int .i64 s.h.to, .int .i64 s.h.fromPort, .int .i64 s.h.toPort, .int .i64 s.h.check, .int .i64 s.h.marker, .int .i64 s.h.type, .int .i64 s.h.seq, .int .i64 s.h.time, .int .i64 s.h.source, .int .i64 s.ds, .int .i64 s.df, .int .i64 s.chk, .slice s.pa s.pn s.pc] 28))
  have I_ctx := Lib.hid (fun W => in08_any s.ctx 15 W)
  rw [h0] at I_ctx
  clear h0
  have zz : s.num = 0 ∧ s.time = 0 ∧ s.mark = 0 ∧ s.id = 0 ∧ s.udp = 0 := by
    unfold smNoneB at h2; simpa [and_assoc] using h2
  have a0 : (s.num == 0) = true := by rw [zz.1]; rfl
  have b0 : (s.num != 0) = false := by rw [zz.1]; rfl
  have a1 : (s.time == 0) = true := by rw [zz.2.1]; rfl
  have b1 : (s.time != 0) = false := by rw [zz.2.1]; rfl
  have a2 : (s.mark == 0) = true := by rw [zz.2.2.1]; rfl
  have b2 : (s.mark != 0) = false := by rw [zz.2.2.1]; rfl
  have a3 : (s.id == 0) = true := by rw [zz.2.2.2.1]; rfl
  have b3 : (s.id != 0) = false := by rw [zz.2.2.2.1]; rfl
  have a4 : (s.udp == 0) = true := by rw [zz.2.2.2.2]; rfl
  have b4 : (s.udp != 0) = false := by rw [zz.2.2.2.2]; rfl
  clear zz h2
  obtain ⟨⟨f4, f5⟩, pn⟩ := h1
  have c6 : (s.fmt == 6) = false := by simp; omega
  have CV := Lib.hid (fun W => rValid_any s.h W hf)
  rw [hv] at CV
  have BX := Lib.hid (BW.out.alloc BW.out.size (.cells #[.int .i64 s.h.kind, .int .i64 s.h.tos, .int .i64 s.h.id, .int .i64 s.h.fixed, .int .i64 s.h.ttl, .int .i64 s.h.frm, .int .i64 s.h.to, .int .i64 s.h.fromPort, .int .i64 s.h.toPort, .int .i64 s.h.check, .int .i64 s.h.marker, .int .i64 s.h.type, .int .i64 s.h.seq, .int .i64 s.h.time, .int .i64 s.h.source] 23))
  have PX := Lib.hid (VB.laid w s)
  clear hv hf
  have CD := Lib.hid (fun W => rDyn_any s.ds s.df W)
  rw [hd] at CD
  clear hd
  have I_chk := Lib.hid (fun W => in08_any s.chk 255 W)
  rw [hk] at I_chk
  clear hk
  go_enter Tryd.func14, Tryd.ntmps14
  go_wp2_with (first | (go_at_call 41; ((with_reducible refine (I_ctx.out _).mono ?_); rintro e w' ⟨rfl, rfl⟩)) | (go_at_call 41; ((with_reducible refine (I_chk.out _).mono ?_); rintro e w' ⟨rfl, rfl⟩)) | (go_at_call 43; refine (CV.out _).mono ?_; rintro e w2 ⟨rfl, hb⟩; have P2 := Lib.hid (PX.out.below hb); have B2 := Lib.hid (BX.out.trans (hb.mono BX.out.size)); have q2 := cells_of P2.out.sb; have k2 := cells_of P2.out.hh; clear hb hc) | (go_at_call 44; refine (CD.out _).mono ?_; rintro e w3 ⟨rfl, hb⟩; have P3 := Lib.hid (P2.out.below hb); have B3 := Lib.hid (B2.out.trans (hb.mono B2.out.size)); have q3 := cells_of P3.out.sb; have k3 := cells_of P3.out.hh; clear hb q2 k2) | fail)
  have H4 := Lib.hid (P3.out.drew)
  have ES := fun W => eql_hd (statH s.h) (kindH s.h.kind) W
  have CS := Lib.hid (fun W => rStatic_any s.h W)
  rw [ES0.out] at ES
  simp only [kindH] at ES
  have hS : w3.cell? ⟨w.heap.size, 1, none⟩ = some (.int .i64 s.fmt) ∧ w3.cell? ⟨w.heap.size + 1, 0, none⟩ = some (.int .i64 s.h.kind) ∧ w3.cell? ⟨w.heap.size + 1, 1, none⟩ = some (.int .i64 s.h.tos) ∧ w3.cell? ⟨w.heap.size + 1, 2, none⟩ = some (.int .i64 s.h.id) ∧ w3.cell? ⟨w.heap.size + 1, 3, none⟩ = some (.int .i64 s.h.fixed) ∧ w3.cell? ⟨w.heap.size + 1, 4, none⟩ = some (.int .i64 s.h.ttl) ∧ w3.cell? ⟨w.heap.size + 1, 5, none⟩ = some (.int .i64 s.h.frm) ∧ w3.cell? ⟨w.heap.size + 1, 6, none⟩ = some (.int .i64 s.h.to) ∧ w3.cell? ⟨w.heap.size + 1, 7, none⟩ = some (.int .i64 s.h.fromPort) ∧ w3.cell? ⟨w.heap.size + 1, 8, none⟩ = some (.int .i64 s.h.toPort) ∧ w3.cell? ⟨w.heap.size + 1, 9, none⟩ = some (.int .i64 s.h.check) ∧ w3.cell? ⟨w.heap.size + 1, 10, none⟩ = some (.int .i64 s.h.marker) ∧ w3.cell? ⟨w.heap.size + 1, 11, none⟩ = some (.int .i64 s.h.type) ∧ w3.cell? ⟨w.heap.size + 1, 12, none⟩ = some (.int .i64 s.h.seq) ∧ w3.cell? ⟨w.heap.size + 1, 13, none⟩ = some (.int .i64 s.h.time) ∧ w3.cell? ⟨w.heap.size + 1, 14, none⟩ = some (.int .i64 s.h.source) := ⟨q3 1, k3 0, k3 1, k3 2, k3 3, k3 4, k3 5, k3 6, k3 7, k3 8, k3 9, k3 10, k3 11, k3 12, k3 13, k3 14⟩
  clear I_chk I_ctx CV CD BX PX P2 B2 k3 q3
  cases g5 : (s.fmt == 5)
  · go_region_held3 (fun w' => w'.cell? ⟨w.heap.size, 1, none⟩ = some (.int .i64 s.fmt) ∧ w'.cell? ⟨w.heap.size + 1, 0, none⟩ = some (.int .i64 s.h.kind) ∧ w'.cell? ⟨w.heap.size + 1, 1, none⟩ = some (.int .i64 s.h.tos) ∧ w'.cell? ⟨w.heap.size + 1, 2, none⟩ = some (.int .i64 s.h.id) ∧ w'.cell? ⟨w.heap.size + 1, 3, none⟩ = some (.int .i64 s.h.fixed) ∧ w'.cell? ⟨w.heap.size + 1, 4, none⟩ = some (.int .i64 s.h.ttl) ∧ w'.cell? ⟨w.heap.size + 1, 5, none⟩ = some (.int .i64 s.h.frm) ∧ w'.cell? ⟨w.heap.size + 1, 6, none⟩ = some (.int .i64 s.h.to) ∧ w'.cell? ⟨w.heap.size + 1, 7, none⟩ = some (.int .i64 s.h.fromPort) ∧ w'.cell? ⟨w.heap.size + 1, 8, none⟩ = some (.int .i64 s.h.toPort) ∧ w'.cell? ⟨w.heap.size + 1, 9, none⟩ = some (.int .i64 s.h.check) ∧ w'.cell? ⟨w.heap.size + 1, 10, none⟩ = some (.int .i64 s.h.marker) ∧ w'.cell? ⟨w.heap.size + 1, 11, none⟩ = some (.int .i64 s.h.type) ∧ w'.cell? ⟨w.heap.size + 1, 12, none⟩ = some (.int .i64 s.h.seq) ∧ w'.cell? ⟨w.heap.size + 1, 13, none⟩ = some (.int .i64 s.h.time) ∧ w'.cell? ⟨w.heap.size + 1, 14, none⟩ = some (.int .i64 s.h.source)) (first | with_reducible exact hS | with_reducible exact hk | go_keep)
      (first | (go_at_call 45; refine (CS.out _).mono ?_; rintro e w4 ⟨rfl, hb⟩; have P4 := Lib.hid (H4.out.below hb); have B4 := Lib.hid (B3.out.drew.trans (hb.mono B3.out.drew.size)); have q4 := cells_of P4.out.sb; have k4 := cells_of P4.out.hh; have hk : w4.cell? ⟨w.heap.size, 1, none⟩ = some (.int .i64 s.fmt) ∧ w4.cell? ⟨w.heap.size + 1, 0, none⟩ = some (.int .i64 s.h.kind) ∧ w4.cell? ⟨w.heap.size + 1, 1, none⟩ = some (.int .i64 s.h.tos) ∧ w4.cell? ⟨w.heap.size + 1, 2, none⟩ = some (.int .i64 s.h.id) ∧ w4.cell? ⟨w.heap.size + 1, 3, none⟩ = some (.int .i64 s.h.fixed) ∧ w4.cell? ⟨w.heap.size + 1, 4, none⟩ = some (.int .i64 s.h.ttl) ∧ w4.cell? ⟨w.heap.size + 1, 5, none⟩ = some (.int .i64 s.h.frm) ∧ w4.cell? ⟨w.heap.size + 1, 6, none⟩ = some (.int .i64 s.h.to) ∧ w4.cell? ⟨w.heap.size + 1, 7, none⟩ = some (.int .i64 s.h.fromPort) ∧ w4.cell? ⟨w.heap.size + 1, 8, none⟩ = some (.int .i64 s.h.toPort) ∧ w4.cell? ⟨w.heap.size + 1, 9, none⟩ = some (.int .i64 s.h.check) ∧ w4.cell? ⟨w.heap.size + 1, 10, none⟩ = some (.int .i64 s.h.marker) ∧ w4.cell? ⟨w.heap.size + 1, 11, none⟩ = some (.int .i64 s.h.type) ∧ w4.cell? ⟨w.heap.size + 1, 12, none⟩ = some (.int .i64 s.h.seq) ∧ w4.cell? ⟨w.heap.size + 1, 13, none⟩ = some (.int .i64 s.h.time) ∧ w4.cell? ⟨w.heap.size + 1, 14, none⟩ = some (.int .i64 s.h.source) := ⟨q4 1, k4 0, k4 1, k4 2, k4 3, k4 4, k4 5, k4 6, k4 7, k4 8, k4 9, k4 10, k4 11, k4 12, k4 13, k4 14⟩; clear hb q4 k4) | fail)
    go_wp2
    go_ret
    exact ⟨ret_bool (HR.out.symm.trans (by rw [g5]; rfl)).symm, B4.out⟩
  · have h5 : w3.cell? ⟨w.heap.size, 1, none⟩ = some (.int .i64 5) := by rw [hS.1, show s.fmt = 5 by simpa using g5]
    clear hS
    go_quiet (fail)
    go_wp2
    go_ret
    exact ⟨ret_bool (HR.out.symm.trans (by rw [g5]; rfl)).symm, below_drewN B3.out _⟩

theorem rSmall_any (s : Sm) (w : World) (hf : s.h.Fits) :
    Calls Tryd.prog 14 #[(.agg #[.int .i64 s.ctx, .int .i64 s.fmt, .int .i64 s.num, .int .i64 s.time, .int .i64 s.mark, .int .i64 s.id, .int .i64 s.udp, .int .i64 s.h.kind, .int .i64 s.h.tos, .int .i64 s.h.id, .int .i64 s.h.fixed, .int .i64 s.h.ttl, .int .i64 s.h.frm, .int .i64 s.h.to, .int .i64 s.h.fromPort, .int .i64 s.h.toPort, .int .i64 s.h.check, .int .i64 s.h.marker, .int .i64 s.h.type, .int .i64 s.h.seq, .int .i64 s.h.time, .int .i64 s.h.source, .int .i64 s.ds, .int .i64 s.df, .int .i64 s.chk, .slice s.pa s.pn s.pc])] w fun e w' => e = .returned (.bool (smB s)) ∧ Below w.heap.size w w' := by
  unfold smB
  cases h0 : inB s.ctx 15 with
  | false => exact rSmall_ctx s w h0
  | true =>
    by_cases h1 : (1 ≤ s.fmt ∧ s.fmt ≤ 6) ∧ s.pn ≤ 1500
    · rw [decide_eq_true h1.1, decide_eq_true h1.2]
      simp only [Bool.true_and]
      by_cases f4 : s.fmt < 4
      · rw [if_pos f4]; exact rSmall_low s w h0 h1 f4
      · rw [if_neg f4]
        cases h2 : smNoneB s with
        | false => exact rSmall_none s w h0 ⟨⟨by omega, h1.1.2⟩, h1.2⟩ h2
        | true =>
          by_cases g6 : s.fmt = 6
          · rw [if_pos g6, Bool.true_and]; exact rSmall_raw s w h0 h1.2 h2 g6
          · rw [if_neg g6, Bool.true_and]
            have h4 : (4 ≤ s.fmt ∧ s.fmt ≤ 5) ∧ s.pn ≤ 1500 := ⟨⟨by omega, by omega⟩, h1.2⟩
            unfold smBigB
            cases hv : validB s.h with
            | false => exact rBig_v s w hf h0 h4 h2 hv
            | true =>
              cases hd : dynB s.ds s.df with
              | false => exact rBig_d s w hf h0 h4 h2 hv hd
              | true =>
                cases kk : (s.h.kind == 1) with
                | true =>
                  cases he : smDyn0 s with
                  | false => exact rBig_e s w hf h0 h4 h2 hv hd kk he
                  | true =>
                    cases hk : inB s.chk 255 with
                    | false => exact rBig_k1 s w hf h0 h4 h2 hv hd kk he hk
                    | true => exact rBig_y1 s w hf h0 h4 h2 hv hd kk he hk
                | false =>
                  cases hk : inB s.chk 255 with
                  | false => simpa using rBig_k2 s w hf h0 h4 h2 hv hd kk hk
                  | true => simpa using rBig_y2 s w hf h0 h4 h2 hv hd kk hk
    · have e : (decide (1 ≤ s.fmt ∧ s.fmt ≤ 6) && decide (s.pn ≤ 1500)) = false := by
        simp only [Bool.and_eq_false_iff, decide_eq_false_iff_not]
        rcases Classical.not_and_iff_not_or_not.1 h1 with h | h
        · exact .inl h
        · exact .inr h
      rw [Bool.true_and, e, Bool.false_and]
      exact rSmall_out s w h0 h1
end Go.Proofs.YtkhcfmnebflgkaaDoor
