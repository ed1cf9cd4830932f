/-
  The document's own Valid of layer 8, whole.
-/
import Derived.Test.YtkhcfmnebflgkaaDoorFmValid
namespace Go.Proofs.YtkhcfmnebflgkaaDoor
open Go Go.RowKit

set_option maxRecDepth 100000 in
set_option maxHeartbeats 6400000 in
theorem rBig_v (s : Sm) (w : World) (hf : s.h.Fits) (h0 : inB s.ctx 15 = true) (h1 : (4 ≤ s.fmt ∧ s.fmt ≤ 5) ∧ s.pn ≤ 1500) (h2 : smNoneB s = true) (hv : validB s.h = false) :
    Calls Tryd.prog 14 #[(.agg #[.int .i64 s.ctx, .int .i64 s.fmt, .int .i64 s.num, .int .i64 s.time, .int .i64 s.mark, .int .i64 s.id, .int .i64 s.udp, .int .i64 s.h.kind, .int .i64 s.h.tos, .int .i64 s.h.id, .int .i64 s.h.fixed, .int .i64 s.h.ttl, .int .i64 s.h.frm, .int .i64 s.h.to, .int .i64 s.h.fromPort, .int .i64 s.h.toPort, .int .i64 s.h.check, .int .i64 s.h.marker, .int .i64 s.h.type, .int .i64 s.h.seq, .int .i64 s.h.time, .int .i64 s.h.source, .int .i64 s.ds, .int .i64 s.df, .int .i64 s.chk, .slice s.pa s.pn s.pc])] w fun e w' => e = .returned (.bool false) ∧ Below w.heap.size w w' := by
  have BW := Lib.hid ((Below.refl w.heap.size w).alloc (Nat.le_refl _) (.cells #[.int .i64 s.ctx, .int .i64 s.fmt, .int .i64 s.num, .int .i64 s.time, .int .i64 s.mark, .int .i64 s.id, .int .i64 s.udp, .int .i64 s.h.kind, .int .i64 s.h.tos, .int .i64 s.h.id, .int .i64 s.h.fixed, .int .i64 s.h.ttl, .int .i64 s.h.frm, .int .i64 s.h.to, .int .i64 s.h.fromPort, .int .i64 s.h.toPort, .int .i64 s.h.check, .int .i64 s.h.marker, .int .i64 s.h.type, .int .i64 s.h.seq, .int .i64 s.h.time, .int .i64 s.h.source, .int .i64 s.ds, .int .i64 s.df, .int .i64 s.chk, .slice s.pa s.pn s.pc] 28))
  have hc := cells_of (heap_alloc_new w (.cells #[.int .i64 s.ctx, .int .i64 s.fmt, .int .i64 s.num, .int .i64 s.time, .int .i64 s.mark, .int .i64 s.id, .int .i64 s.udp, .int .i64 s.h.kind, .int .i64 s.h.tos, .int .i64 s.h.id, .int .i64 s.h.fixed, .int .i64 s.h.ttl, .int .i64 s.h.frm, .int .i64 s.h.to, .int .i64 s.h.fromPort, .int .i64 s.h.toPort, .int .i64 s.h.check, .int .i64 s.h.marker, .int .i64 s.h.type, .int .i64 s.h.seq, .int .i64 s.h.time, .int .i64 s.h.source, .int .i64 s.ds, .int .i64 s.df, .int .i64 s.chk, .slice s.pa s.pn s.pc] 28))
  have I_ctx := Lib.hid (fun W => in08_any s.ctx 15 W)
  rw [h0] at I_ctx
  clear h0
  have zz : s.num = 0 ∧ s.time = 0 ∧ s.mark = 0 ∧ s.id = 0 ∧ s.udp = 0 := by
    unfold smNoneB at h2; simpa [and_assoc] using h2
  have a0 : (s.num == 0) = true := by rw [zz.1]; rfl
  have b0 : (s.num != 0) = false := by rw [zz.1]; rfl
  have a1 : (s.time == 0) = true := by rw [zz.2.1]; rfl
  have b1 : (s.time != 0) = false := by rw [zz.2.1]; rfl
  have a2 : (s.mark == 0) = true := by rw [zz.2.2.1]; rfl
  have b2 : (s.mark != 0) = false := by rw [zz.2.2.1]; rfl
  have a3 : (s.id == 0) = true := by rw [zz.2.2.2.1]; rfl
  have b3 : (s.id != 0) = false := by rw [zz.2.2.2.1]; rfl
  have a4 : (s.udp == 0) = true := by rw [zz.2.2.2.2]; rfl
  have b4 : (s.udp != 0) = false := by rw [zz.2.2.2.2]; rfl
  clear zz h2
  obtain ⟨⟨f4, f5⟩, pn⟩ := h1
  have c6 : (s.fmt == 6) = false := by simp; omega
  have CV := Lib.hid (fun W => rValid_any s.h W hf)
  rw [hv] at CV
  have BX := Lib.hid (BW.out.alloc BW.out.size (.cells #[.int .i64 s.h.kind, .int .i64 s.h.tos, .int .i64 s.h.id, .int .i64 s.h.fixed, .int .i64 s.h.ttl, .int .i64 s.h.frm, .int .i64 s.h.to, .int .i64 s.h.fromPort, .int .i64 s.h.toPort, .int .i64 s.h.check, .int .i64 s.h.marker, .int .i64 s.h.type, .int .i64 s.h.seq, .int .i64 s.h.time, .int .i64 s.h.source] 23))
  have PX := Lib.hid (VB.laid w s)
  clear hv hf
  go_enter Tryd.func14, Tryd.ntmps14
  go_wp2_with (first | (go_at_call 41; ((with_reducible refine (I_ctx.out _).mono ?_); rintro e w' ⟨rfl, rfl⟩)) | (go_at_call 41; ((with_reducible refine (I_chk.out _).mono ?_); rintro e w' ⟨rfl, rfl⟩)) | (go_at_call 43; refine (CV.out _).mono ?_; rintro e w2 ⟨rfl, hb⟩; have P2 := Lib.hid (PX.out.below hb); have B2 := Lib.hid (BX.out.trans (hb.mono BX.out.size)); have q2 := cells_of P2.out.sb; have k2 := cells_of P2.out.hh; clear hb hc) | (go_at_call 44; refine (CD.out _).mono ?_; rintro e w3 ⟨rfl, hb⟩; have P3 := Lib.hid (P2.out.below hb); have B3 := Lib.hid (B2.out.trans (hb.mono B2.out.size)); have q3 := cells_of P3.out.sb; have k3 := cells_of P3.out.hh; clear hb q2 k2) | fail)
  go_ret
  exact ⟨rfl, B2.out⟩

set_option maxRecDepth 100000 in
set_option maxHeartbeats 6400000 in
theorem rBig_d (s : Sm) (w : World) (hf : s.h.Fits) (h0 : inB s.ctx 15 = true) (h1 : (4 ≤ s.fmt ∧ s.fmt ≤ 5) ∧ s.pn ≤ 1500) (h2 : smNoneB s = true) (hv : validB s.h = true) (hd : dynB s.ds s.df = false) :
    Calls Tryd.prog 14 #[(.agg #[.int .i64 s.ctx, .int .i64 s.fmt, .int .i64 s.num, .int .i64 s.time, .int .i64 s.mark, .int .i64 s.id, .int .i64 s.udp, .int .i64 s.h.kind, .int .i64 s.h.tos, .int .i64 s.h.id, .int .i64 s.h.fixed, .int .i64 s.h.ttl, .int .i64 s.h.frm, .int .i64 s.h.to, .int .i64 s.h.fromPort, .int .i64 s.h.toPort, .int .i64 s.h.check, .int .i64 s.h.marker, .int .i64 s.h.type, .int .i64 s.h.seq, .int .i64 s.h.time, .int .i64 s.h.source, .int .i64 s.ds, .int .i64 s.df, .int .i64 s.chk, .slice s.pa s.pn s.pc])] w fun e w' => e = .returned (.bool false) ∧ Below w.heap.size w w' := by
  have BW := Lib.hid ((Below.refl w.heap.size w).alloc (Nat.le_refl _) (.cells #[.int .i64 s.ctx, .int .i64 s.fmt, .int .i64 s.num, .int .i64 s.time, .int .i64 s.mark, .int .i64 s.id, .int .i64 s.udp, .int .i64 s.h.kind, .int .i64 s.h.tos, .int .i64 s.h.id, .int .i64 s.h.fixed, .int .i64 s.h.ttl, .int .i64 s.h.frm, .int .i64 s.h.to, .int .i64 s.h.fromPort, .int .i64 s.h.toPort, .int .i64 s.h.check, .int .i64 s.h.marker, .int .i64 s.h.type, .int .i64 s.h.seq, .int .i64 s.h.time, .int .i64 s.h.source, .int .i64 s.ds, .int .i64 s.df, .int .i64 s.chk, .slice s.pa s.pn s.pc] 28))
  have hc := cells_of (heap_alloc_new w (.cells #[.int .i64 s.ctx, .int .i64 s.fmt, .int .i64 s.num, .int .i64 s.time, .int .i64 s.mark, .int .i64 s.id, .int .i64 s.udp, .int .i64 s.h.kind, .int .i64 s.h.tos, .int .i64 s.h.id, .int .i64 s.h.fixed, .int .i64 s.h.ttl, .int .i64 s.h.frm, .int .i64 s.h.to, .int .i64 s.h.fromPort, .int .i64 s.h.toPort, .int .i64 s.h.check, .int .i64 s.h.marker, .int .i64 s.h.type, .int .i64 s.h.seq, .int .i64 s.h.time, .int .i64 s.h.source, .int .i64 s.ds, .int .i64 s.df, .int .i64 s.chk, .slice s.pa s.pn s.pc] 28))
  have I_ctx := Lib.hid (fun W => in08_any s.ctx 15 W)
  rw [h0] at I_ctx
  clear h0
  have zz : s.num = 0 ∧ s.time = 0 ∧ s.mark = 0 ∧ s.id = 0 ∧ s.udp = 0 := by
    unfold smNoneB at h2; simpa [and_assoc] using h2
  have a0 : (s.num == 0) = true := by rw [zz.1]; rfl
  have b0 : (s.num != 0) = false := by rw [zz.1]; rfl
  have a1 : (s.time == 0) = true := by rw [zz.2.1]; rfl
  have b1 : (s.time != 0) = false := by rw [zz.2.1]; rfl
  have a2 : (s.mark == 0) = true := by rw [zz.2.2.1]; rfl
  have b2 : (s.mark != 0) = false := by rw [zz.2.2.1]; rfl
  have a3 : (s.id == 0) = true := by rw [zz.2.2.2.1]; rfl
  have b3 : (s.id != 0) = false := by rw [zz.2.2.2.1]; rfl
  have a4 : (s.udp == 0) = true := by rw [zz.2.2.2.2]; rfl
  have b4 : (s.udp != 0) = false := by rw [zz.2.2.2.2]; rfl
  clear zz h2
  obtain ⟨⟨f4, f5⟩, pn⟩ := h1
  have c6 : (s.fmt == 6) = false := by simp; omega
  have CV := Lib.hid (fun W => rValid_any s.h W hf)
  rw [hv] at CV
  have BX := Lib.hid (BW.out.alloc BW.out.size (.cells #[.int .i64 s.h.kind, .int .i64 s.h.tos, .int .i64 s.h.id, .int .i64 s.h.fixed, .int .i64 s.h.ttl, .int .i64 s.h.frm, .int .i64 s.h.to, .int .i64 s.h.fromPort, .int .i64 s.h.toPort, .int .i64 s.h.check, .int .i64 s.h.marker, .int .i64 s.h.type, .int .i64 s.h.seq, .int .i64 s.h.time, .int .i64 s.h.source] 23))
  have PX := Lib.hid (VB.laid w s)
  clear hv hf
  have CD := Lib.hid (fun W => rDyn_any s.ds s.df W)
  rw [hd] at CD
  clear hd
  go_enter Tryd.func14, Tryd.ntmps14
  go_wp2_with (first | (go_at_call 41; ((with_reducible refine (I_ctx.out _).mono ?_); rintro e w' ⟨rfl, rfl⟩)) | (go_at_call 41; ((with_reducible refine (I_chk.out _).mono ?_); rintro e w' ⟨rfl, rfl⟩)) | (go_at_call 43; refine (CV.out _).mono ?_; rintro e w2 ⟨rfl, hb⟩; have P2 := Lib.hid (PX.out.below hb); have B2 := Lib.hid (BX.out.trans (hb.mono BX.out.size)); have q2 := cells_of P2.out.sb; have k2 := cells_of P2.out.hh; clear hb hc) | (go_at_call 44; refine (CD.out _).mono ?_; rintro e w3 ⟨rfl, hb⟩; have P3 := Lib.hid (P2.out.below hb); have B3 := Lib.hid (B2.out.trans (hb.mono B2.out.size)); have q3 := cells_of P3.out.sb; have k3 := cells_of P3.out.hh; clear hb q2 k2) | fail)
  go_ret
  exact ⟨rfl, B3.out⟩

set_option maxRecDepth 100000 in
set_option maxHeartbeats 6400000 in
theorem rBig_e (s : Sm) (w : World) (hf : s.h.Fits) (h0 : inB s.ctx 15 = true) (h1 : (4 ≤ s.fmt ∧ s.fmt ≤ 5) ∧ s.pn ≤ 1500) (h2 : smNoneB s = true) (hv : validB s.h = true) (hd : dynB s.ds s.df = true) (kk : (s.h.kind == 1) = true) (he : smDyn0 s = false) :
    Calls Tryd.prog 14 #[(.agg #[.int .i64 s.ctx, .int .i64 s.fmt, .int .i64 s.num, .int .i64 s.time, .int .i64 s.mark, .int .i64 s.id, .int .i64 s.udp, .int .i64 s.h.kind, .int .i64 s.h.tos, .int .i64 s.h.id, .int .i64 s.h.fixed, .int .i64 s.h.ttl, .int .i64 s.h.frm, .int .i64 s.h.to, .int .i64 s.h.fromPort, .int .i64 s.h.toPort, .int .i64 s.h.check, .int .i64 s.h.marker, .int .i64 s.h.type, .int .i64 s.h.seq, .int .i64 s.h.time, .int .i64 s.h.source, .int .i64 s.ds, .int .i64 s.df, .int .i64 s.chk, .slice s.pa s.pn s.pc])] w fun e w' => e = .returned (.bool false) ∧ Below w.heap.size w w' := by
  have BW := Lib.hid ((Below.refl w.heap.size w).alloc (Nat.le_refl _) (.cells #[.int .i64 s.ctx, .int .i64 s.fmt, .int .i64 s.num, .int .i64 s.time, .int .i64 s.mark, .int .i64 s.id, .int .i64 s.udp, .int .i64 s.h.kind, .int .i64 s.h.tos, .int .i64 s.h.id, .int .i64 s.h.fixed, .int .i64 s.h.ttl, .int .i64 s.h.frm, .int .i64 s.h.to, .int .i64 s.h.fromPort, .int .i64 s.h.toPort, .int .i64 s.h.check, .int .i64 s.h.marker, .int .i64 s.h.type, .int .i64 s.h.seq, .int .i64 s.h.time, .int .i64 s.h.source, .int .i64 s.ds, .int .i64 s.df, .int .i64 s.chk, .slice s.pa s.pn s.pc] 28))
  have hc := cells_of (heap_alloc_new w (.cells #[.int .i64 s.ctx, .int .i64 s.fmt, .int .i64 s.num, .int .i64 s.time, .int .i64 s.mark, .int .i64 s.id, .int .i64 s.udp, .int .i64 s.h.kind, .int .i64 s.h.tos, .int .i64 s.h.id, .int .i64 s.h.fixed, .int .i64 s.h.ttl, .int .i64 s.h.frm, .int .i64 s.h.to, .int .i64 s.h.fromPort, .int .i64 s.h.toPort, .int .i64 s.h.check, .int .i64 s.h.marker, .int .i64 s.h.type, .int .i64 s.h.seq, .int .i64 s.h.time, .int .i64 s.h.source, .int .i64 s.ds, .int .i64 s.df, .int .i64 s.chk, .slice s.pa s.pn s.pc] 28))
  have I_ctx := Lib.hid (fun W => in08_any s.ctx 15 W)
  rw [h0] at I_ctx
  clear h0
  have zz : s.num = 0 ∧ s.time = 0 ∧ s.mark = 0 ∧ s.id = 0 ∧ s.udp = 0 := by
    unfold smNoneB at h2; simpa [and_assoc] using h2
  have a0 : (s.num == 0) = true := by rw [zz.1]; rfl
  have b0 : (s.num != 0) = false := by rw [zz.1]; rfl
  have a1 : (s.time == 0) = true := by rw [zz.2.1]; rfl
  have b1 : (s.time != 0) = false := by rw [zz.2.1]; rfl
  have a2 : (s.mark == 0) = true := by rw [zz.2.2.1]; rfl
  have b2 : (s.mark != 0) = false := by rw [zz.2.2.1]; rfl
  have a3 : (s.id == 0) = true := by rw [zz.2.2.2.1]; rfl
  have b3 : (s.id != 0) = false := by rw [zz.2.2.2.1]; rfl
  have a4 : (s.udp == 0) = true := by rw [zz.2.2.2.2]; rfl
  have b4 : (s.udp != 0) = false := by rw [zz.2.2.2.2]; rfl
  clear zz h2
  obtain ⟨⟨f4, f5⟩, pn⟩ := h1
  have c6 : (s.fmt == 6) = false := by simp; omega
  have CV := Lib.hid (fun W => rValid_any s.h W hf)
  rw [hv] at CV
  have BX := Lib.hid (BW.out.alloc BW.out.size (.cells #[.int .i64 s.h.kind, .int .i64 s.h.tos, .int .i64 s.h.id, .int .i64 s.h.fixed, .int .i64 s.h.ttl, .int .i64 s.h.frm, .int .i64 s.h.to, .int .i64 s.h.fromPort, .int .i64 s.h.toPort, .int .i64 s.h.check, .int .i64 s.h.marker, .int .i64 s.h.type, .int .i64 s.h.seq, .int .i64 s.h.time, .int .i64 s.h.source] 23))
  have PX := Lib.hid (VB.laid w s)
  clear hv hf
  have CD := Lib.hid (fun W => rDyn_any s.ds s.df W)
  rw [hd] at CD
  clear hd
  have ED := fun W => neql_of (eql_dy s.ds s.df 0 0 W)
  have HD : smDyn0 s = (decide (s.ds = 0) && decide (s.df = 0)) := by unfold smDyn0; simp [Bool.beq_eq_decide_eq]
  rw [← HD, he] at ED
  clear HD he
  go_enter Tryd.func14, Tryd.ntmps14
  go_wp2_with (first | (go_at_call 41; ((with_reducible refine (I_ctx.out _).mono ?_); rintro e w' ⟨rfl, rfl⟩)) | (go_at_call 41; ((with_reducible refine (I_chk.out _).mono ?_); rintro e w' ⟨rfl, rfl⟩)) | (go_at_call 43; refine (CV.out _).mono ?_; rintro e w2 ⟨rfl, hb⟩; have P2 := Lib.hid (PX.out.below hb); have B2 := Lib.hid (BX.out.trans (hb.mono BX.out.size)); have q2 := cells_of P2.out.sb; have k2 := cells_of P2.out.hh; clear hb hc) | (go_at_call 44; refine (CD.out _).mono ?_; rintro e w3 ⟨rfl, hb⟩; have P3 := Lib.hid (P2.out.below hb); have B3 := Lib.hid (B2.out.trans (hb.mono B2.out.size)); have q3 := cells_of P3.out.sb; have k3 := cells_of P3.out.hh; clear hb q2 k2) | fail)
  go_ret
  exact ⟨rfl, B3.out⟩

set_option maxRecDepth 100000 in
set_option maxHeartbeats 6400000 in
theorem rBig_k1 (s : Sm) (w : World) (hf : s.h.Fits) (h0 : inB s.ctx 15 = true) (h1 : (4 ≤ s.fmt ∧ s.fmt ≤ 5) ∧ s.pn ≤ 1500) (h2 : smNoneB s = true) (hv : validB s.h = true) (hd : dynB s.ds s.df = true) (kk : (s.h.kind == 1) = true) (he : smDyn0 s = true) (hk : inB s.chk 255 = false) :
    Calls Tryd.prog 14 #[(.agg #[.int .i64 s.ctx, .int .i64 s.fmt, .int .i64 s.num, .int .i64 s.time, .int .i64 s.mark, .int .i64 s.id, .int .i64 s.udp, .int .i64 s.h.kind, .int .i64 s.h.tos, .int .i64 s.h.id, .int .i64 s.h.fixed, .int .i64 s.h.ttl, .int .i64 s.h.frm, .int .i64 s.h.to, .int .i64 s.h.fromPort, .int .i64 s.h.toPort, .int .i64 s.h.check, .int .i64 s.h.marker, .int .i64 s.h.type, .int .i64 s.h.seq, .int .i64 s.h.time, .int .i64 s.h.source, .int .i64 s.ds, .int .i64 s.df, .int .i64 s.chk, .slice s.pa s.pn s.pc])] w fun e w' => e = .returned (.bool false) ∧ Below w.heap.size w w' := by
  have BW := Lib.hid ((Below.refl w.heap.size w).alloc (Nat.le_refl _) (.cells #[.int .i64 s.ctx, .int .i64 s.fmt, .int .i64 s.num, .int .i64 s.time, .int .i64 s.mark, .int .i64 s.id, .int .i64 s.udp, .int .i64 s.h.kind, .int .i64 s.h.tos, .int .i64 s.h.id, .int .i64 s.h.fixed, .int .i64 s.h.ttl, .int .i64 s.h.frm, .int .i64 s.h.to, .int .i64 s.h.fromPort, .int .i64 s.h.toPort, .int .i64 s.h.check, .int .i64 s.h.marker, .int .i64 s.h.type, .int .i64 s.h.seq, .int .i64 s.h.time, .int .i64 s.h.source, .int .i64 s.ds, .int .i64 s.df, .int .i64 s.chk, .slice s.pa s.pn s.pc] 28))
  have hc := cells_of (heap_alloc_new w (.cells #[.int .i64 s.ctx, .int .i64 s.fmt, .int .i64 s.num, .int .i64 s.time, .int .i64 s.mark, .int .i64 s.id, .int .i64 s.udp, .int .i64 s.h.kind, .int .i64 s.h.tos, .int .i64 s.h.id, .int .i64 s.h.fixed, .int .i64 s.h.ttl, .int .i64 s.h.frm, .int .i64 s.h.to, .int .i64 s.h.fromPort, .int .i64 s.h.toPort, .int .i64 s.h.check, .int .i64 s.h.marker, .int .i64 s.h.type, .int .i64 s.h.seq, .int .i64 s.h.time, .int .i64 s.h.source, .int .i64 s.ds, .int .i64 s.df, .int .i64 s.chk, .slice s.pa s.pn s.pc] 28))
  have I_ctx := Lib.hid (fun W => in08_any s.ctx 15 W)
  rw [h0] at I_ctx
  clear h0
  have zz : s.num = 0 ∧ s.time = 0 ∧ s.mark = 0 ∧ s.id = 0 ∧ s.udp = 0 := by
    unfold smNoneB at h2; simpa [and_assoc] using h2
  have a0 : (s.num == 0) = true := by rw [zz.1]; rfl
  have b0 : (s.num != 0) = false := by rw [zz.1]; rfl
  have a1 : (s.time == 0) = true := by rw [zz.2.1]; rfl
  have b1 : (s.time != 0) = false := by rw [zz.2.1]; rfl
  have a2 : (s.mark == 0) = true := by rw [zz.2.2.1]; rfl
  have b2 : (s.mark != 0) = false := by rw [zz.2.2.1]; rfl
  have a3 : (s.id == 0) = true := by rw [zz.2.2.2.1]; rfl
  have b3 : (s.id != 0) = false := by rw [zz.2.2.2.1]; rfl
  have a4 : (s.udp == 0) = true := by rw [zz.2.2.2.2]; rfl
  have b4 : (s.udp != 0) = false := by rw [zz.2.2.2.2]; rfl
  clear zz h2
  obtain ⟨⟨f4, f5⟩, pn⟩ := h1
  have c6 : (s.fmt == 6) = false := by simp; omega
  have CV := Lib.hid (fun W => rValid_any s.h W hf)
  rw [hv] at CV
  have BX := Lib.hid (BW.out.alloc BW.out.size (.cells #[.int .i64 s.h.kind, .int .i64 s.h.tos, .int .i64 s.h.id, .int .i64 s.h.fixed, .int .i64 s.h.ttl, .int .i64 s.h.frm, .int .i64 s.h.to, .int .i64 s.h.fromPort, .int .i64 s.h.toPort, .int .i64 s.h.check, .int .i64 s.h.marker, .int .i64 s.h.type, .int .i64 s.h.seq, .int .i64 s.h.time, .int .i64 s.h.source] 23))
  have PX := Lib.hid (VB.laid w s)
  clear hv hf
  have CD := Lib.hid (fun W => rDyn_any s.ds s.df W)
  rw [hd] at CD
  clear hd
  have ED := fun W => neql_of (eql_dy s.ds s.df 0 0 W)
  have HD : smDyn0 s = (decide (s.ds = 0) && decide (s.df = 0)) := by unfold smDyn0; simp [Bool.beq_eq_decide_eq]
  rw [← HD, he] at ED
  clear HD he
  have I_chk := Lib.hid (fun W => in08_any s.chk 255 W)
  rw [hk] at I_chk
  clear hk
  go_enter Tryd.func14, Tryd.ntmps14
  go_wp2_with (first | (go_at_call 41; ((with_reducible refine (I_ctx.out _).mono ?_); rintro e w' ⟨rfl, rfl⟩)) | (go_at_call 41; ((with_reducible refine (I_chk.out _).mono ?_); rintro e w' ⟨rfl, rfl⟩)) | (go_at_call 43; refine (CV.out _).mono ?_; rintro e w2 ⟨rfl, hb⟩; have P2 := Lib.hid (PX.out.below hb); have B2 := Lib.hid (BX.out.trans (hb.mono BX.out.size)); have q2 := cells_of P2.out.sb; have k2 := cells_of P2.out.hh; clear hb hc) | (go_at_call 44; refine (CD.out _).mono ?_; rintro e w3 ⟨rfl, hb⟩; have P3 := Lib.hid (P2.out.below hb); have B3 := Lib.hid (B2.out.trans (hb.mono B2.out.size)); have q3 := cells_of P3.out.sb; have k3 := cells_of P3.out.hh; clear hb q2 k2) | fail)
  go_ret
  exact ⟨rfl, B3.out⟩

set_option maxRecDepth 100000 in
set_option maxHeartbeats 6400000 in
theorem rBig_k2 (s : Sm) (w : World) (hf : s.h.Fits) (h0 : inB s.ctx 15 = true) (h1 : (4 ≤ s.fmt ∧ s.fmt ≤ 5) ∧ s.pn ≤ 1500) (h2 : smNoneB s = true) (hv : validB s.h = true) (hd : dynB s.ds s.df = true) (kk : (s.h.kind == 1) = false) (hk : inB s.chk 255 = false) :
    Calls Tryd.prog 14 #[(.agg #[.int .i64 s.ctx, .int .i64 s.fmt, .int .i64 s.num, .int .i64 s.time, .int .i64 s.mark, .int .i64 s.id, .int .i64 s.udp, .int .i64 s.h.kind, .int .i64 s.h.tos, .int .i64 s.h.id, .int .i64 s.h.fixed, .int .i64 s.h.ttl, .int .i64 s.h.frm, .int .i64 s.h.to, .int .i64 s.h.fromPort, .int .i64 s.h.toPort, .int .i64 s.h.check, .int .i64 s.h.marker, .int .i64 s.h.type, .int .i64 s.h.seq, .int .i64 s.h.time, .int .i64 s.h.source, .int .i64 s.ds, .int .i64 s.df, .int .i64 s.chk, .slice s.pa s.pn s.pc])] w fun e w' => e = .returned (.bool false) ∧ Below w.heap.size w w' := by
  have BW := Lib.hid ((Below.refl w.heap.size w).alloc (Nat.le_refl _) (.cells #[.int .i64 s.ctx, .int .i64 s.fmt, .int .i64 s.num, .int .i64 s.time, .int .i64 s.mark, .int .i64 s.id, .int .i64 s.udp, .int .i64 s.h.kind, .int .i64 s.h.tos, .int .i64 s.h.id, .int .i64 s.h.fixed, .int .i64 s.h.ttl, .int .i64 s.h.frm, .int .i64 s.h.to, .int .i64 s.h.fromPort, .int .i64 s.h.toPort, .int .i64 s.h.check, .int .i64 s.h.marker, .int .i64 s.h.type, .int .i64 s.h.seq, .int .i64 s.h.time, .int .i64 s.h.source, .int .i64 s.ds, .int .i64 s.df, .int .i64 s.chk, .slice s.pa s.pn s.pc] 28))
  have hc := cells_of (heap_alloc_new w (.cells #[.int .i64 s.ctx, .int .i64 s.fmt, .int .i64 s.num, .int .i64 s.time, .int .i64 s.mark, .int .i64 s.id, .int .i64 s.udp, .int .i64 s.h.kind, .int .i64 s.h.tos, .int .i64 s.h.id, .int .i64 s.h.fixed, .int .i64 s.h.ttl, .int .i64 s.h.frm, .int .i64 s.h.to, .int .i64 s.h.fromPort, .int .i64 s.h.toPort, .int .i64 s.h.check, .int .i64 s.h.marker, .int .i64 s.h.type, .int .i64 s.h.seq, .int .i64 s.h.time, .int .i64 s.h.source, .int .i64 s.ds, .int .i64 s.df, .int .i64 s.chk, .slice s.pa s.pn s.pc] 28))
  have I_ctx := Lib.hid (fun W => in08_any s.ctx 15 W)
  rw [h0] at I_ctx
  clear h0
  have zz : s.num = 0 ∧ s.time = 0 ∧ s.mark = 0 ∧ s.id = 0 ∧ s.udp = 0 := by
    unfold smNoneB at h2; simpa [and_assoc] using h2
  have a0 : (s.num == 0) = true := by rw [zz.1]; rfl
  have b0 : (s.num != 0) = false := by rw [zz.1]; rfl
  have a1 : (s.time == 0) = true := by rw [zz.2.1]; rfl
  have b1 : (s.time != 0) = false := by rw [zz.2.1]; rfl
  have a2 : (s.mark == 0) = true := by rw [zz.2.2.1]; rfl
  have b2 : (s.mark != 0) = false := by rw [zz.2.2.1]; rfl
  have a3 : (s.id == 0) = true := by rw [zz.2.2.2.1]; rfl
  have b3 : (s.id != 0) = false := by rw [zz.2.2.2.1]; rfl
  have a4 : (s.udp == 0) = true := by rw [zz.2.2.2.2]; rfl
  have b4 : (s.udp != 0) = false := by rw [zz.2.2.2.2]; rfl
  clear zz h2
  obtain ⟨⟨f4, f5⟩, pn⟩ := h1
  have c6 : (s.fmt == 6) = false := by simp; omega
  have CV := Lib.hid (fun W => rValid_any s.h W hf)
  rw [hv] at CV
  have BX := Lib.hid (BW.out.alloc BW.out.size (.cells #[.int .i64 s.h.kind, .int .i64 s.h.tos, .int .i64 s.h.id, .int .i64 s.h.fixed, .int .i64 s.h.ttl, .int .i64 s.h.frm, .int .i64 s.h.to, .int .i64 s.h.fromPort, .int .i64 s.h.toPort, .int .i64 s.h.check, .int .i64 s.h.marker, .int .i64 s.h.type, .int .i64 s.h.seq, .int .i64 s.h.time, .int .i64 s.h.source] 23))
  have PX := Lib.hid (VB.laid w s)
  clear hv hf
  have CD := Lib.hid (fun W => rDyn_any s.ds s.df W)
  rw [hd] at CD
  clear hd
  have I_chk := Lib.hid (fun W => in08_any s.chk 255 W)
  rw [hk] at I_chk
  clear hk
  go_enter Tryd.func14, Tryd.ntmps14
  go_wp2_with (first | (go_at_call 41; ((with_reducible refine (I_ctx.out _).mono ?_); rintro e w' ⟨rfl, rfl⟩)) | (go_at_call 41; ((with_reducible refine (I_chk.out _).mono ?_); rintro e w' ⟨rfl, rfl⟩)) | (go_at_call 43; refine (CV.out _).mono ?_; rintro e w2 ⟨rfl, hb⟩; have P2 := Lib.hid (PX.out.below hb); have B2 := Lib.hid (BX.out.trans (hb.mono BX.out.size)); have q2 := cells_of P2.out.sb; have k2 := cells_of P2.out.hh; clear hb hc) | (go_at_call 44; refine (CD.out _).mono ?_; rintro e w3 ⟨rfl, hb⟩; have P3 := Lib.hid (P2.out.below hb); have B3 := Lib.hid (B2.out.trans (hb.mono B2.out.size)); have q3 := cells_of P3.out.sb; have k3 := cells_of P3.out.hh; clear hb q2 k2) | fail)
  go_ret
  exact ⟨rfl, B3.out⟩

end Go.Proofs.YtkhcfmnebflgkaaDoor
