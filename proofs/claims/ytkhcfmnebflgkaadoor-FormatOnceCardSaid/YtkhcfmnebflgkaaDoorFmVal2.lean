/-
  The program's own Valid of layer 8, its ways.
-/
import Derived.Test.YtkhcfmnebflgkaaDoorFmValP
import Derived.Test.YtkhcfmnebflgkaaDoorJLow
namespace Go.Proofs.YtkhcfmnebflgkaaDoor
open Go Go.RowKit

theorem smh_range {W : World} {g : Nat} {s : Sm} (h : W.heap[g]? = some (.cells #[.int .i64 s.ctx, .int .i64 s.fmt, .int .i64 s.num, .int .i64 s.time, .int .i64 s.mark, .int .i64 s.id, .int .i64 s.udp, .int .i64 s.h.kind, .int .i64 s.h.tos, .int .i64 s.h.id, .int .i64 s.h.fixed, .int .i64 s.h.ttl, .int .i64 s.h.frm, .int .i64 s.h.to, .int .i64 s.h.fromPort, .int .i64 s.h.toPort, .int .i64 s.h.check, .int .i64 s.h.marker, .int .i64 s.h.type, .int .i64 s.h.seq, .int .i64 s.h.time, .int .i64 s.h.source, .int .i64 s.ds, .int .i64 s.df, .int .i64 s.chk, .slice s.pa s.pn s.pc] 28 (0, 0))) : W.rangeAt g 7 [.int .i64 s.h.kind, .int .i64 s.h.tos, .int .i64 s.h.id, .int .i64 s.h.fixed, .int .i64 s.h.ttl, .int .i64 s.h.frm, .int .i64 s.h.to, .int .i64 s.h.fromPort, .int .i64 s.h.toPort, .int .i64 s.h.check, .int .i64 s.h.marker, .int .i64 s.h.type, .int .i64 s.h.seq, .int .i64 s.h.time, .int .i64 s.h.source] := fun j v hv => by
  rw [cells_of h, List.getElem?_toArray, Nat.add_comm]; exact (List.getElem?_append_left (l₁ := [_, _, _, _, _, _, _, _, _, _, _, _, _, _, _]) (l₂ := [_, _, _, _]) (List.getElem?_eq_some_iff.1 hv).1).trans hv
/-- 'load' of its header -/
theorem wpList_load_smh {ops : Array Oper} {rest : List Oper} {op : Oper} {a : Act} {w : World} {Q : Exit → Act → World → Prop} {g : Nat} {s : Sm} (h : w.heap[g]? = some (.cells #[.int .i64 s.ctx, .int .i64 s.fmt, .int .i64 s.num, .int .i64 s.time, .int .i64 s.mark, .int .i64 s.id, .int .i64 s.udp, .int .i64 s.h.kind, .int .i64 s.h.tos, .int .i64 s.h.id, .int .i64 s.h.fixed, .int .i64 s.h.ttl, .int .i64 s.h.frm, .int .i64 s.h.to, .int .i64 s.h.fromPort, .int .i64 s.h.toPort, .int .i64 s.h.check, .int .i64 s.h.marker, .int .i64 s.h.type, .int .i64 s.h.seq, .int .i64 s.h.time, .int .i64 s.h.source, .int .i64 s.ds, .int .i64 s.df, .int .i64 s.chk, .slice s.pa s.pn s.pc] 28 (0, 0)))
    (hgd : op.guard = none) (x : Operand) (ho : op.op = .load 23 x) (hx : a.eval x = .pointer (some ⟨g, 7, none⟩)) (H : wpList Tryd.prog ops Q rest (a.put op.dst (.agg #[.int .i64 s.h.kind, .int .i64 s.h.tos, .int .i64 s.h.id, .int .i64 s.h.fixed, .int .i64 s.h.ttl, .int .i64 s.h.frm, .int .i64 s.h.to, .int .i64 s.h.fromPort, .int .i64 s.h.toPort, .int .i64 s.h.check, .int .i64 s.h.marker, .int .i64 s.h.type, .int .i64 s.h.seq, .int .i64 s.h.time, .int .i64 s.h.source])) w) : wpList Tryd.prog ops Q (op :: rest) a w :=
  wpList_load_mid hgd 23 x ho g 7 hx [.int .i64 s.h.kind, .int .i64 s.h.tos, .int .i64 s.h.id, .int .i64 s.h.fixed, .int .i64 s.h.ttl, .int .i64 s.h.frm, .int .i64 s.h.to, .int .i64 s.h.fromPort, .int .i64 s.h.toPort, .int .i64 s.h.check, .int .i64 s.h.marker, .int .i64 s.h.type, .int .i64 s.h.seq, .int .i64 s.h.time, .int .i64 s.h.source] _ (smh_range h) Tryd.underlying23 rfl info_hdv H

set_option maxRecDepth 100000 in
set_option maxHeartbeats 6400000 in
theorem val_no_c (s : Sm) (w : World) (h0 : inB s.ctx 15 = false) :
    Calls Tryd.prog 13 #[(.agg #[.int .i64 s.ctx, .int .i64 s.fmt, .int .i64 s.num, .int .i64 s.time, .int .i64 s.mark, .int .i64 s.id, .int .i64 s.udp, .int .i64 s.h.kind, .int .i64 s.h.tos, .int .i64 s.h.id, .int .i64 s.h.fixed, .int .i64 s.h.ttl, .int .i64 s.h.frm, .int .i64 s.h.to, .int .i64 s.h.fromPort, .int .i64 s.h.toPort, .int .i64 s.h.check, .int .i64 s.h.marker, .int .i64 s.h.type, .int .i64 s.h.seq, .int .i64 s.h.time, .int .i64 s.h.source, .int .i64 s.ds, .int .i64 s.df, .int .i64 s.chk, .slice s.pa s.pn s.pc])] w fun e w' => e = .returned (.bool (false)) ∧ Below w.heap.size w w' := by
  have BW := Lib.hid ((Below.refl w.heap.size w).alloc (Nat.le_refl _) (.cells #[.int .i64 s.ctx, .int .i64 s.fmt, .int .i64 s.num, .int .i64 s.time, .int .i64 s.mark, .int .i64 s.id, .int .i64 s.udp, .int .i64 s.h.kind, .int .i64 s.h.tos, .int .i64 s.h.id, .int .i64 s.h.fixed, .int .i64 s.h.ttl, .int .i64 s.h.frm, .int .i64 s.h.to, .int .i64 s.h.fromPort, .int .i64 s.h.toPort, .int .i64 s.h.check, .int .i64 s.h.marker, .int .i64 s.h.type, .int .i64 s.h.seq, .int .i64 s.h.time, .int .i64 s.h.source, .int .i64 s.ds, .int .i64 s.df, .int .i64 s.chk, .slice s.pa s.pn s.pc] 28))
  have KA := Lib.hid (heap_alloc_new w (.cells #[.int .i64 s.ctx, .int .i64 s.fmt, .int .i64 s.num, .int .i64 s.time, .int .i64 s.mark, .int .i64 s.id, .int .i64 s.udp, .int .i64 s.h.kind, .int .i64 s.h.tos, .int .i64 s.h.id, .int .i64 s.h.fixed, .int .i64 s.h.ttl, .int .i64 s.h.frm, .int .i64 s.h.to, .int .i64 s.h.fromPort, .int .i64 s.h.toPort, .int .i64 s.h.check, .int .i64 s.h.marker, .int .i64 s.h.type, .int .i64 s.h.seq, .int .i64 s.h.time, .int .i64 s.h.source, .int .i64 s.ds, .int .i64 s.df, .int .i64 s.chk, .slice s.pa s.pn s.pc] 28))
  have hc := cells_of KA.out
  have I_ctx := Lib.hid (fun W => fits08_any 4 s.ctx 15 W (by decide) (by decide))
  rw [h0] at I_ctx
  clear h0
  go_enter Tryd.func13, Tryd.ntmps13
  go_wp2_with (first | (go_at_call 34; ((with_reducible refine (I_ctx.out _).mono ?_); rintro e w' ⟨rfl, rfl⟩)) | fail)
  all_goals go_ret
  all_goals exact ⟨ret_bool (by simp), BW.out⟩

set_option maxRecDepth 100000 in
set_option maxHeartbeats 6400000 in
theorem val_no_p (s : Sm) (w : World) (h0 : inB s.ctx 15 = true) (pn : 1500 < s.pn) :
    Calls Tryd.prog 13 #[(.agg #[.int .i64 s.ctx, .int .i64 s.fmt, .int .i64 s.num, .int .i64 s.time, .int .i64 s.mark, .int .i64 s.id, .int .i64 s.udp, .int .i64 s.h.kind, .int .i64 s.h.tos, .int .i64 s.h.id, .int .i64 s.h.fixed, .int .i64 s.h.ttl, .int .i64 s.h.frm, .int .i64 s.h.to, .int .i64 s.h.fromPort, .int .i64 s.h.toPort, .int .i64 s.h.check, .int .i64 s.h.marker, .int .i64 s.h.type, .int .i64 s.h.seq, .int .i64 s.h.time, .int .i64 s.h.source, .int .i64 s.ds, .int .i64 s.df, .int .i64 s.chk, .slice s.pa s.pn s.pc])] w fun e w' => e = .returned (.bool (false)) ∧ Below w.heap.size w w' := by
  have BW := Lib.hid ((Below.refl w.heap.size w).alloc (Nat.le_refl _) (.cells #[.int .i64 s.ctx, .int .i64 s.fmt, .int .i64 s.num, .int .i64 s.time, .int .i64 s.mark, .int .i64 s.id, .int .i64 s.udp, .int .i64 s.h.kind, .int .i64 s.h.tos, .int .i64 s.h.id, .int .i64 s.h.fixed, .int .i64 s.h.ttl, .int .i64 s.h.frm, .int .i64 s.h.to, .int .i64 s.h.fromPort, .int .i64 s.h.toPort, .int .i64 s.h.check, .int .i64 s.h.marker, .int .i64 s.h.type, .int .i64 s.h.seq, .int .i64 s.h.time, .int .i64 s.h.source, .int .i64 s.ds, .int .i64 s.df, .int .i64 s.chk, .slice s.pa s.pn s.pc] 28))
  have KA := Lib.hid (heap_alloc_new w (.cells #[.int .i64 s.ctx, .int .i64 s.fmt, .int .i64 s.num, .int .i64 s.time, .int .i64 s.mark, .int .i64 s.id, .int .i64 s.udp, .int .i64 s.h.kind, .int .i64 s.h.tos, .int .i64 s.h.id, .int .i64 s.h.fixed, .int .i64 s.h.ttl, .int .i64 s.h.frm, .int .i64 s.h.to, .int .i64 s.h.fromPort, .int .i64 s.h.toPort, .int .i64 s.h.check, .int .i64 s.h.marker, .int .i64 s.h.type, .int .i64 s.h.seq, .int .i64 s.h.time, .int .i64 s.h.source, .int .i64 s.ds, .int .i64 s.df, .int .i64 s.chk, .slice s.pa s.pn s.pc] 28))
  have hc := cells_of KA.out
  have I_ctx := Lib.hid (fun W => fits08_any 4 s.ctx 15 W (by decide) (by decide))
  rw [h0] at I_ctx
  clear h0
  have hpn : decide ((1500 : Int) < (s.pn : Int)) = true := by simp; omega
  go_enter Tryd.func13, Tryd.ntmps13
  go_wp2_with (first | (go_at_call 34; ((with_reducible refine (I_ctx.out _).mono ?_); rintro e w' ⟨rfl, rfl⟩)) | fail)
  all_goals go_ret
  all_goals exact ⟨ret_bool (by simp), BW.out⟩

set_option maxRecDepth 100000 in
set_option maxHeartbeats 6400000 in
theorem val_no_w (s : Sm) (w : World) (h0 : inB s.ctx 15 = true) (pn : s.pn ≤ 1500) (hw : fmWidB s = false) :
    Calls Tryd.prog 13 #[(.agg #[.int .i64 s.ctx, .int .i64 s.fmt, .int .i64 s.num, .int .i64 s.time, .int .i64 s.mark, .int .i64 s.id, .int .i64 s.udp, .int .i64 s.h.kind, .int .i64 s.h.tos, .int .i64 s.h.id, .int .i64 s.h.fixed, .int .i64 s.h.ttl, .int .i64 s.h.frm, .int .i64 s.h.to, .int .i64 s.h.fromPort, .int .i64 s.h.toPort, .int .i64 s.h.check, .int .i64 s.h.marker, .int .i64 s.h.type, .int .i64 s.h.seq, .int .i64 s.h.time, .int .i64 s.h.source, .int .i64 s.ds, .int .i64 s.df, .int .i64 s.chk, .slice s.pa s.pn s.pc])] w fun e w' => e = .returned (.bool (false)) ∧ Below w.heap.size w w' := by
  have BW := Lib.hid ((Below.refl w.heap.size w).alloc (Nat.le_refl _) (.cells #[.int .i64 s.ctx, .int .i64 s.fmt, .int .i64 s.num, .int .i64 s.time, .int .i64 s.mark, .int .i64 s.id, .int .i64 s.udp, .int .i64 s.h.kind, .int .i64 s.h.tos, .int .i64 s.h.id, .int .i64 s.h.fixed, .int .i64 s.h.ttl, .int .i64 s.h.frm, .int .i64 s.h.to, .int .i64 s.h.fromPort, .int .i64 s.h.toPort, .int .i64 s.h.check, .int .i64 s.h.marker, .int .i64 s.h.type, .int .i64 s.h.seq, .int .i64 s.h.time, .int .i64 s.h.source, .int .i64 s.ds, .int .i64 s.df, .int .i64 s.chk, .slice s.pa s.pn s.pc] 28))
  have KA := Lib.hid (heap_alloc_new w (.cells #[.int .i64 s.ctx, .int .i64 s.fmt, .int .i64 s.num, .int .i64 s.time, .int .i64 s.mark, .int .i64 s.id, .int .i64 s.udp, .int .i64 s.h.kind, .int .i64 s.h.tos, .int .i64 s.h.id, .int .i64 s.h.fixed, .int .i64 s.h.ttl, .int .i64 s.h.frm, .int .i64 s.h.to, .int .i64 s.h.fromPort, .int .i64 s.h.toPort, .int .i64 s.h.check, .int .i64 s.h.marker, .int .i64 s.h.type, .int .i64 s.h.seq, .int .i64 s.h.time, .int .i64 s.h.source, .int .i64 s.ds, .int .i64 s.df, .int .i64 s.chk, .slice s.pa s.pn s.pc] 28))
  have hc := cells_of KA.out
  have I_ctx := Lib.hid (fun W => fits08_any 4 s.ctx 15 W (by decide) (by decide))
  rw [h0] at I_ctx
  clear h0
  have hpn : decide ((1500 : Int) < (s.pn : Int)) = false := by simp; omega
  have CW := Lib.hid (fun W => hasWidths_any s W)
  rw [hw] at CW
  clear hw
  go_enter Tryd.func13, Tryd.ntmps13
  go_wp2_with (first | (refine wpList_unguard (by rfl) ?_; refine wpList_load_sm KA.out rfl _ rfl rfl ?_) | (go_at_call 34; ((with_reducible refine (I_ctx.out _).mono ?_); rintro e w' ⟨rfl, rfl⟩)) | (go_at_call 35; ((with_reducible refine (CW.out _).mono ?_); rintro e w2 ⟨rfl, hb⟩; replace BW := Lib.hid (BW.out.trans (hb.mono BW.out.size)); replace KA := Lib.hid ((hb.block _ (lt_of_block KA.out)).trans KA.out); replace hc := cells_of KA.out; clear hb)) | fail)
  all_goals go_ret
  all_goals exact ⟨ret_bool (by simp), BW.out⟩

set_option maxRecDepth 100000 in
set_option maxHeartbeats 6400000 in
theorem val_1 (s : Sm) (w : World) (h0 : inB s.ctx 15 = true) (pn : s.pn ≤ 1500) (hw : fmWidB s = true) (hf : s.fmt = 1) :
    Calls Tryd.prog 13 #[(.agg #[.int .i64 s.ctx, .int .i64 s.fmt, .int .i64 s.num, .int .i64 s.time, .int .i64 s.mark, .int .i64 s.id, .int .i64 s.udp, .int .i64 s.h.kind, .int .i64 s.h.tos, .int .i64 s.h.id, .int .i64 s.h.fixed, .int .i64 s.h.ttl, .int .i64 s.h.frm, .int .i64 s.h.to, .int .i64 s.h.fromPort, .int .i64 s.h.toPort, .int .i64 s.h.check, .int .i64 s.h.marker, .int .i64 s.h.type, .int .i64 s.h.seq, .int .i64 s.h.time, .int .i64 s.h.source, .int .i64 s.ds, .int .i64 s.df, .int .i64 s.chk, .slice s.pa s.pn s.pc])] w fun e w' => e = .returned (.bool ((s.h.kind == 1 || s.h.kind == 2) && (eqB s.h (kindH s.h.kind) && smDyn0 s) && inB s.udp 65535)) ∧ Below w.heap.size w w' := by
  have BW := Lib.hid ((Below.refl w.heap.size w).alloc (Nat.le_refl _) (.cells #[.int .i64 s.ctx, .int .i64 s.fmt, .int .i64 s.num, .int .i64 s.time, .int .i64 s.mark, .int .i64 s.id, .int .i64 s.udp, .int .i64 s.h.kind, .int .i64 s.h.tos, .int .i64 s.h.id, .int .i64 s.h.fixed, .int .i64 s.h.ttl, .int .i64 s.h.frm, .int .i64 s.h.to, .int .i64 s.h.fromPort, .int .i64 s.h.toPort, .int .i64 s.h.check, .int .i64 s.h.marker, .int .i64 s.h.type, .int .i64 s.h.seq, .int .i64 s.h.time, .int .i64 s.h.source, .int .i64 s.ds, .int .i64 s.df, .int .i64 s.chk, .slice s.pa s.pn s.pc] 28))
  have KA := Lib.hid (heap_alloc_new w (.cells #[.int .i64 s.ctx, .int .i64 s.fmt, .int .i64 s.num, .int .i64 s.time, .int .i64 s.mark, .int .i64 s.id, .int .i64 s.udp, .int .i64 s.h.kind, .int .i64 s.h.tos, .int .i64 s.h.id, .int .i64 s.h.fixed, .int .i64 s.h.ttl, .int .i64 s.h.frm, .int .i64 s.h.to, .int .i64 s.h.fromPort, .int .i64 s.h.toPort, .int .i64 s.h.check, .int .i64 s.h.marker, .int .i64 s.h.type, .int .i64 s.h.seq, .int .i64 s.h.time, .int .i64 s.h.source, .int .i64 s.ds, .int .i64 s.df, .int .i64 s.chk, .slice s.pa s.pn s.pc] 28))
  have hc := cells_of KA.out
  have I_ctx := Lib.hid (fun W => fits08_any 4 s.ctx 15 W (by decide) (by decide))
  rw [h0] at I_ctx
  clear h0
  have hpn : decide ((1500 : Int) < (s.pn : Int)) = false := by simp; omega
  have CW := Lib.hid (fun W => hasWidths_any s W)
  rw [hw] at CW
  clear hw
  have f1 : (s.fmt == 1) = true := by rw [hf]; rfl
  have f2 : (s.fmt == 2) = false := by rw [hf]; rfl
  have f3 : (s.fmt == 3) = false := by rw [hf]; rfl
  have f4 : (s.fmt == 4) = false := by rw [hf]; rfl
  have f5 : (s.fmt == 5) = false := by rw [hf]; rfl
  have f6 : (s.fmt == 6) = false := by rw [hf]; rfl
  clear hf
  have CK := Lib.hid (fun W => isKind_any s.h.kind W)
  have CB := Lib.hid (fun W => isBare_any s s.h.kind W)
  have CU := Lib.hid (fun W => fits08_any 16 s.udp 65535 W (by decide) (by decide))
  generalize (s.h.kind == 1 || s.h.kind == 2) = r1 at CK ⊢
  generalize (eqB s.h (kindH s.h.kind) && smDyn0 s) = r2 at CB ⊢
  generalize inB s.udp 65535 = r3 at CU ⊢
  cases r1 <;> cases r2
  all_goals go_enter Tryd.func13, Tryd.ntmps13
  all_goals go_wp2_with (first | (refine wpList_unguard (by rfl) ?_; refine wpList_load_sm KA.out rfl _ rfl rfl ?_) | (go_at_call 34; ((with_reducible refine (I_ctx.out _).mono ?_); rintro e w' ⟨rfl, rfl⟩)) | (go_at_call 35; ((with_reducible refine (CW.out _).mono ?_); rintro e w2 ⟨rfl, hb⟩; replace BW := Lib.hid (BW.out.trans (hb.mono BW.out.size)); replace KA := Lib.hid ((hb.block _ (lt_of_block KA.out)).trans KA.out); replace hc := cells_of KA.out; clear hb)) | (go_at_call 36; ((with_reducible refine (CK.out _).mono ?_); rintro e w' ⟨rfl, rfl⟩)) | (go_at_call 37; ((with_reducible refine (CB.out _).mono ?_); rintro e w2 ⟨rfl, hb⟩; replace BW := Lib.hid (BW.out.trans (hb.mono BW.out.size)); replace KA := Lib.hid ((hb.block _ (lt_of_block KA.out)).trans KA.out); replace hc := cells_of KA.out; clear hb)) | (go_at_call 34; ((with_reducible refine (CU.out _).mono ?_); rintro e w' ⟨rfl, rfl⟩)) | fail)
  all_goals go_ret
  all_goals exact ⟨ret_bool (by simp), BW.out⟩

set_option maxRecDepth 100000 in
set_option maxHeartbeats 6400000 in
theorem val_2 (s : Sm) (w : World) (h0 : inB s.ctx 15 = true) (pn : s.pn ≤ 1500) (hw : fmWidB s = true) (hf : s.fmt = 2) :
    Calls Tryd.prog 13 #[(.agg #[.int .i64 s.ctx, .int .i64 s.fmt, .int .i64 s.num, .int .i64 s.time, .int .i64 s.mark, .int .i64 s.id, .int .i64 s.udp, .int .i64 s.h.kind, .int .i64 s.h.tos, .int .i64 s.h.id, .int .i64 s.h.fixed, .int .i64 s.h.ttl, .int .i64 s.h.frm, .int .i64 s.h.to, .int .i64 s.h.fromPort, .int .i64 s.h.toPort, .int .i64 s.h.check, .int .i64 s.h.marker, .int .i64 s.h.type, .int .i64 s.h.seq, .int .i64 s.h.time, .int .i64 s.h.source, .int .i64 s.ds, .int .i64 s.df, .int .i64 s.chk, .slice s.pa s.pn s.pc])] w fun e w' => e = .returned (.bool ((s.h.kind == 1 || s.h.kind == 2) && (eqB s.h (kindH s.h.kind) && smDyn0 s) && inB s.udp 65535)) ∧ Below w.heap.size w w' := by
  have BW := Lib.hid ((Below.refl w.heap.size w).alloc (Nat.le_refl _) (.cells #[.int .i64 s.ctx, .int .i64 s.fmt, .int .i64 s.num, .int .i64 s.time, .int .i64 s.mark, .int .i64 s.id, .int .i64 s.udp, .int .i64 s.h.kind, .int .i64 s.h.tos, .int .i64 s.h.id, .int .i64 s.h.fixed, .int .i64 s.h.ttl, .int .i64 s.h.frm, .int .i64 s.h.to, .int .i64 s.h.fromPort, .int .i64 s.h.toPort, .int .i64 s.h.check, .int .i64 s.h.marker, .int .i64 s.h.type, .int .i64 s.h.seq, .int .i64 s.h.time, .int .i64 s.h.source, .int .i64 s.ds, .int .i64 s.df, .int .i64 s.chk, .slice s.pa s.pn s.pc] 28))
  have KA := Lib.hid (heap_alloc_new w (.cells #[.int .i64 s.ctx, .int .i64 s.fmt, .int .i64 s.num, .int .i64 s.time, .int .i64 s.mark, .int .i64 s.id, .int .i64 s.udp, .int .i64 s.h.kind, .int .i64 s.h.tos, .int .i64 s.h.id, .int .i64 s.h.fixed, .int .i64 s.h.ttl, .int .i64 s.h.frm, .int .i64 s.h.to, .int .i64 s.h.fromPort, .int .i64 s.h.toPort, .int .i64 s.h.check, .int .i64 s.h.marker, .int .i64 s.h.type, .int .i64 s.h.seq, .int .i64 s.h.time, .int .i64 s.h.source, .int .i64 s.ds, .int .i64 s.df, .int .i64 s.chk, .slice s.pa s.pn s.pc] 28))
  have hc := cells_of KA.out
  have I_ctx := Lib.hid (fun W => fits08_any 4 s.ctx 15 W (by decide) (by decide))
  rw [h0] at I_ctx
  clear h0
  have hpn : decide ((1500 : Int) < (s.pn : Int)) = false := by simp; omega
  have CW := Lib.hid (fun W => hasWidths_any s W)
  rw [hw] at CW
  clear hw
  have f1 : (s.fmt == 1) = false := by rw [hf]; rfl
  have f2 : (s.fmt == 2) = true := by rw [hf]; rfl
  have f3 : (s.fmt == 3) = false := by rw [hf]; rfl
  have f4 : (s.fmt == 4) = false := by rw [hf]; rfl
  have f5 : (s.fmt == 5) = false := by rw [hf]; rfl
  have f6 : (s.fmt == 6) = false := by rw [hf]; rfl
  clear hf
  have CK := Lib.hid (fun W => isKind_any s.h.kind W)
  have CB := Lib.hid (fun W => isBare_any s s.h.kind W)
  have CU := Lib.hid (fun W => fits08_any 16 s.udp 65535 W (by decide) (by decide))
  generalize (s.h.kind == 1 || s.h.kind == 2) = r1 at CK ⊢
  generalize (eqB s.h (kindH s.h.kind) && smDyn0 s) = r2 at CB ⊢
  generalize inB s.udp 65535 = r3 at CU ⊢
  cases r1 <;> cases r2
  all_goals go_enter Tryd.func13, Tryd.ntmps13
  all_goals go_wp2_with (first | (refine wpList_unguard (by rfl) ?_; refine wpList_load_sm KA.out rfl _ rfl rfl ?_) | (go_at_call 34; ((with_reducible refine (I_ctx.out _).mono ?_); rintro e w' ⟨rfl, rfl⟩)) | (go_at_call 35; ((with_reducible refine (CW.out _).mono ?_); rintro e w2 ⟨rfl, hb⟩; replace BW := Lib.hid (BW.out.trans (hb.mono BW.out.size)); replace KA := Lib.hid ((hb.block _ (lt_of_block KA.out)).trans KA.out); replace hc := cells_of KA.out; clear hb)) | (go_at_call 36; ((with_reducible refine (CK.out _).mono ?_); rintro e w' ⟨rfl, rfl⟩)) | (go_at_call 37; ((with_reducible refine (CB.out _).mono ?_); rintro e w2 ⟨rfl, hb⟩; replace BW := Lib.hid (BW.out.trans (hb.mono BW.out.size)); replace KA := Lib.hid ((hb.block _ (lt_of_block KA.out)).trans KA.out); replace hc := cells_of KA.out; clear hb)) | (go_at_call 34; ((with_reducible refine (CU.out _).mono ?_); rintro e w' ⟨rfl, rfl⟩)) | fail)
  all_goals go_ret
  all_goals exact ⟨ret_bool (by simp), BW.out⟩

set_option maxRecDepth 100000 in
set_option maxHeartbeats 6400000 in
theorem val_3 (s : Sm) (w : World) (h0 : inB s.ctx 15 = true) (pn : s.pn ≤ 1500) (hw : fmWidB s = true) (hf : s.fmt = 3) :
    Calls Tryd.prog 13 #[(.agg #[.int .i64 s.ctx, .int .i64 s.fmt, .int .i64 s.num, .int .i64 s.time, .int .i64 s.mark, .int .i64 s.id, .int .i64 s.udp, .int .i64 s.h.kind, .int .i64 s.h.tos, .int .i64 s.h.id, .int .i64 s.h.fixed, .int .i64 s.h.ttl, .int .i64 s.h.frm, .int .i64 s.h.to, .int .i64 s.h.fromPort, .int .i64 s.h.toPort, .int .i64 s.h.check, .int .i64 s.h.marker, .int .i64 s.h.type, .int .i64 s.h.seq, .int .i64 s.h.time, .int .i64 s.h.source, .int .i64 s.ds, .int .i64 s.df, .int .i64 s.chk, .slice s.pa s.pn s.pc])] w fun e w' => e = .returned (.bool ((s.h.kind == 1 || s.h.kind == 2) && (eqB s.h (kindH s.h.kind) && smDyn0 s) && inB s.udp 65535)) ∧ Below w.heap.size w w' := by
  have BW := Lib.hid ((Below.refl w.heap.size w).alloc (Nat.le_refl _) (.cells #[.int .i64 s.ctx, .int .i64 s.fmt, .int .i64 s.num, .int .i64 s.time, .int .i64 s.mark, .int .i64 s.id, .int .i64 s.udp, .int .i64 s.h.kind, .int .i64 s.h.tos, .int .i64 s.h.id, .int .i64 s.h.fixed, .int .i64 s.h.ttl, .int .i64 s.h.frm, .int .i64 s.h.to, .int .i64 s.h.fromPort, .int .i64 s.h.toPort, .int .i64 s.h.check, .int .i64 s.h.marker, .int .i64 s.h.type, .int .i64 s.h.seq, .int .i64 s.h.time, .int .i64 s.h.source, .int .i64 s.ds, .int .i64 s.df, .int .i64 s.chk, .slice s.pa s.pn s.pc] 28))
  have KA := Lib.hid (heap_alloc_new w (.cells #[.int .i64 s.ctx, .int .i64 s.fmt, .int .i64 s.num, .int .i64 s.time, .int .i64 s.mark, .int .i64 s.id, .int .i64 s.udp, .int .i64 s.h.kind, .int .i64 s.h.tos, .int .i64 s.h.id, .int .i64 s.h.fixed, .int .i64 s.h.ttl, .int .i64 s.h.frm, .int .i64 s.h.to, .int .i64 s.h.fromPort, .int .i64 s.h.toPort, .int .i64 s.h.check, .int .i64 s.h.marker, .int .i64 s.h.type, .int .i64 s.h.seq, .int .i64 s.h.time, .int .i64 s.h.source, .int .i64 s.ds, .int .i64 s.df, .int .i64 s.chk, .slice s.pa s.pn s.pc] 28))
  have hc := cells_of KA.out
  have I_ctx := Lib.hid (fun W => fits08_any 4 s.ctx 15 W (by decide) (by decide))
  rw [h0] at I_ctx
  clear h0
  have hpn : decide ((1500 : Int) < (s.pn : Int)) = false := by simp; omega
  have CW := Lib.hid (fun W => hasWidths_any s W)
  rw [hw] at CW
  clear hw
  have f1 : (s.fmt == 1) = false := by rw [hf]; rfl
  have f2 : (s.fmt == 2) = false := by rw [hf]; rfl
  have f3 : (s.fmt == 3) = true := by rw [hf]; rfl
  have f4 : (s.fmt == 4) = false := by rw [hf]; rfl
  have f5 : (s.fmt == 5) = false := by rw [hf]; rfl
  have f6 : (s.fmt == 6) = false := by rw [hf]; rfl
  clear hf
  have CK := Lib.hid (fun W => isKind_any s.h.kind W)
  have CB := Lib.hid (fun W => isBare_any s s.h.kind W)
  have CU := Lib.hid (fun W => fits08_any 16 s.udp 65535 W (by decide) (by decide))
  generalize (s.h.kind == 1 || s.h.kind == 2) = r1 at CK ⊢
  generalize (eqB s.h (kindH s.h.kind) && smDyn0 s) = r2 at CB ⊢
  generalize inB s.udp 65535 = r3 at CU ⊢
  cases r1 <;> cases r2
  all_goals go_enter Tryd.func13, Tryd.ntmps13
  all_goals go_wp2_with (first | (refine wpList_unguard (by rfl) ?_; refine wpList_load_sm KA.out rfl _ rfl rfl ?_) | (go_at_call 34; ((with_reducible refine (I_ctx.out _).mono ?_); rintro e w' ⟨rfl, rfl⟩)) | (go_at_call 35; ((with_reducible refine (CW.out _).mono ?_); rintro e w2 ⟨rfl, hb⟩; replace BW := Lib.hid (BW.out.trans (hb.mono BW.out.size)); replace KA := Lib.hid ((hb.block _ (lt_of_block KA.out)).trans KA.out); replace hc := cells_of KA.out; clear hb)) | (go_at_call 36; ((with_reducible refine (CK.out _).mono ?_); rintro e w' ⟨rfl, rfl⟩)) | (go_at_call 37; ((with_reducible refine (CB.out _).mono ?_); rintro e w2 ⟨rfl, hb⟩; replace BW := Lib.hid (BW.out.trans (hb.mono BW.out.size)); replace KA := Lib.hid ((hb.block _ (lt_of_block KA.out)).trans KA.out); replace hc := cells_of KA.out; clear hb)) | (go_at_call 34; ((with_reducible refine (CU.out _).mono ?_); rintro e w' ⟨rfl, rfl⟩)) | fail)
  all_goals go_ret
  all_goals exact ⟨ret_bool (by simp), BW.out⟩

set_option maxRecDepth 100000 in
set_option maxHeartbeats 6400000 in
theorem val_4 (s : Sm) (w : World) (h0 : inB s.ctx 15 = true) (pn : s.pn ≤ 1500) (hw : fmWidB s = true) (hf : s.fmt = 4) (b : s.h.Fits) :
    Calls Tryd.prog 13 #[(.agg #[.int .i64 s.ctx, .int .i64 s.fmt, .int .i64 s.num, .int .i64 s.time, .int .i64 s.mark, .int .i64 s.id, .int .i64 s.udp, .int .i64 s.h.kind, .int .i64 s.h.tos, .int .i64 s.h.id, .int .i64 s.h.fixed, .int .i64 s.h.ttl, .int .i64 s.h.frm, .int .i64 s.h.to, .int .i64 s.h.fromPort, .int .i64 s.h.toPort, .int .i64 s.h.check, .int .i64 s.h.marker, .int .i64 s.h.type, .int .i64 s.h.seq, .int .i64 s.h.time, .int .i64 s.h.source, .int .i64 s.ds, .int .i64 s.df, .int .i64 s.chk, .slice s.pa s.pn s.pc])] w fun e w' => e = .returned (.bool (validB s.h && noStatB s.h && isDynB s && s.udp == 0)) ∧ Below w.heap.size w w' := by
  have BW := Lib.hid ((Below.refl w.heap.size w).alloc (Nat.le_refl _) (.cells #[.int .i64 s.ctx, .int .i64 s.fmt, .int .i64 s.num, .int .i64 s.time, .int .i64 s.mark, .int .i64 s.id, .int .i64 s.udp, .int .i64 s.h.kind, .int .i64 s.h.tos, .int .i64 s.h.id, .int .i64 s.h.fixed, .int .i64 s.h.ttl, .int .i64 s.h.frm, .int .i64 s.h.to, .int .i64 s.h.fromPort, .int .i64 s.h.toPort, .int .i64 s.h.check, .int .i64 s.h.marker, .int .i64 s.h.type, .int .i64 s.h.seq, .int .i64 s.h.time, .int .i64 s.h.source, .int .i64 s.ds, .int .i64 s.df, .int .i64 s.chk, .slice s.pa s.pn s.pc] 28))
  have KA := Lib.hid (heap_alloc_new w (.cells #[.int .i64 s.ctx, .int .i64 s.fmt, .int .i64 s.num, .int .i64 s.time, .int .i64 s.mark, .int .i64 s.id, .int .i64 s.udp, .int .i64 s.h.kind, .int .i64 s.h.tos, .int .i64 s.h.id, .int .i64 s.h.fixed, .int .i64 s.h.ttl, .int .i64 s.h.frm, .int .i64 s.h.to, .int .i64 s.h.fromPort, .int .i64 s.h.toPort, .int .i64 s.h.check, .int .i64 s.h.marker, .int .i64 s.h.type, .int .i64 s.h.seq, .int .i64 s.h.time, .int .i64 s.h.source, .int .i64 s.ds, .int .i64 s.df, .int .i64 s.chk, .slice s.pa s.pn s.pc] 28))
  have hc := cells_of KA.out
  have I_ctx := Lib.hid (fun W => fits08_any 4 s.ctx 15 W (by decide) (by decide))
  rw [h0] at I_ctx
  clear h0
  have hpn : decide ((1500 : Int) < (s.pn : Int)) = false := by simp; omega
  have CW := Lib.hid (fun W => hasWidths_any s W)
  rw [hw] at CW
  clear hw
  have f1 : (s.fmt == 1) = false := by rw [hf]; rfl
  have f2 : (s.fmt == 2) = false := by rw [hf]; rfl
  have f3 : (s.fmt == 3) = false := by rw [hf]; rfl
  have f4 : (s.fmt == 4) = true := by rw [hf]; rfl
  have f5 : (s.fmt == 5) = false := by rw [hf]; rfl
  have f6 : (s.fmt == 6) = false := by rw [hf]; rfl
  clear hf
  have CV := Lib.hid (fun W => Valid_any s.h W b)
  have CS := Lib.hid (fun W => hasNoStatic_any s.h W)
  have CD := Lib.hid (fun W => isDynamic_any s W)
  clear b
  generalize validB s.h = r1 at CV ⊢
  generalize noStatB s.h = r2 at CS ⊢
  generalize isDynB s = r3 at CD ⊢
  cases r1 <;> cases r2 <;> cases r3
  all_goals go_enter Tryd.func13, Tryd.ntmps13
  all_goals go_wp2_with (first | (refine wpList_unguard (by rfl) ?_; refine wpList_load_sm KA.out rfl _ rfl rfl ?_) | (refine wpList_unguard (by rfl) ?_; refine wpList_load_smh KA.out rfl _ rfl rfl ?_) | (go_at_call 34; ((with_reducible refine (I_ctx.out _).mono ?_); rintro e w' ⟨rfl, rfl⟩)) | (go_at_call 35; ((with_reducible refine (CW.out _).mono ?_); rintro e w2 ⟨rfl, hb⟩; replace BW := Lib.hid (BW.out.trans (hb.mono BW.out.size)); replace KA := Lib.hid ((hb.block _ (lt_of_block KA.out)).trans KA.out); replace hc := cells_of KA.out; clear hb)) | (go_at_call 38; ((with_reducible refine (CV.out _).mono ?_); rintro e w2 ⟨rfl, hb⟩; replace BW := Lib.hid (BW.out.trans (hb.mono BW.out.size)); replace KA := Lib.hid ((hb.block _ (lt_of_block KA.out)).trans KA.out); replace hc := cells_of KA.out; clear hb)) | (go_at_call 39; ((with_reducible refine (CS.out _).mono ?_); rintro e w2 ⟨rfl, hb⟩; replace BW := Lib.hid (BW.out.trans (hb.mono BW.out.size)); replace KA := Lib.hid ((hb.block _ (lt_of_block KA.out)).trans KA.out); replace hc := cells_of KA.out; clear hb)) | (go_at_call 40; ((with_reducible refine (CD.out _).mono ?_); rintro e w2 ⟨rfl, hb⟩; replace BW := Lib.hid (BW.out.trans (hb.mono BW.out.size)); replace KA := Lib.hid ((hb.block _ (lt_of_block KA.out)).trans KA.out); replace hc := cells_of KA.out; clear hb)) | fail)
  all_goals go_ret
  all_goals exact ⟨ret_bool (by simp), BW.out⟩

set_option maxRecDepth 100000 in
set_option maxHeartbeats 6400000 in
theorem val_5 (s : Sm) (w : World) (h0 : inB s.ctx 15 = true) (pn : s.pn ≤ 1500) (hw : fmWidB s = true) (hf : s.fmt = 5) (b : s.h.Fits) :
    Calls Tryd.prog 13 #[(.agg #[.int .i64 s.ctx, .int .i64 s.fmt, .int .i64 s.num, .int .i64 s.time, .int .i64 s.mark, .int .i64 s.id, .int .i64 s.udp, .int .i64 s.h.kind, .int .i64 s.h.tos, .int .i64 s.h.id, .int .i64 s.h.fixed, .int .i64 s.h.ttl, .int .i64 s.h.frm, .int .i64 s.h.to, .int .i64 s.h.fromPort, .int .i64 s.h.toPort, .int .i64 s.h.check, .int .i64 s.h.marker, .int .i64 s.h.type, .int .i64 s.h.seq, .int .i64 s.h.time, .int .i64 s.h.source, .int .i64 s.ds, .int .i64 s.df, .int .i64 s.chk, .slice s.pa s.pn s.pc])] w fun e w' => e = .returned (.bool (validB s.h && isDynB s && s.udp == 0)) ∧ Below w.heap.size w w' := by
  have BW := Lib.hid ((Below.refl w.heap.size w).alloc (Nat.le_refl _) (.cells #[.int .i64 s.ctx, .int .i64 s.fmt, .int .i64 s.num, .int .i64 s.time, .int .i64 s.mark, .int .i64 s.id, .int .i64 s.udp, .int .i64 s.h.kind, .int .i64 s.h.tos, .int .i64 s.h.id, .int .i64 s.h.fixed, .int .i64 s.h.ttl, .int .i64 s.h.frm, .int .i64 s.h.to, .int .i64 s.h.fromPort, .int .i64 s.h.toPort, .int .i64 s.h.check, .int .i64 s.h.marker, .int .i64 s.h.type, .int .i64 s.h.seq, .int .i64 s.h.time, .int .i64 s.h.source, .int .i64 s.ds, .int .i64 s.df, .int .i64 s.chk, .slice s.pa s.pn s.pc] 28))
  have KA := Lib.hid (heap_alloc_new w (.cells #[.int .i64 s.ctx, .int .i64 s.fmt, .int .i64 s.num, .int .i64 s.time, .int .i64 s.mark, .int .i64 s.id, .int .i64 s.udp, .int .i64 s.h.kind, .int .i64 s.h.tos, .int .i64 s.h.id, .int .i64 s.h.fixed, .int .i64 s.h.ttl, .int .i64 s.h.frm, .int .i64 s.h.to, .int .i64 s.h.fromPort, .int .i64 s.h.toPort, .int .i64 s.h.check, .int .i64 s.h.marker, .int .i64 s.h.type, .int .i64 s.h.seq, .int .i64 s.h.time, .int .i64 s.h.source, .int .i64 s.ds, .int .i64 s.df, .int .i64 s.chk, .slice s.pa s.pn s.pc] 28))
  have hc := cells_of KA.out
  have I_ctx := Lib.hid (fun W => fits08_any 4 s.ctx 15 W (by decide) (by decide))
  rw [h0] at I_ctx
  clear h0
  have hpn : decide ((1500 : Int) < (s.pn : Int)) = false := by simp; omega
  have CW := Lib.hid (fun W => hasWidths_any s W)
  rw [hw] at CW
  clear hw
  have f1 : (s.fmt == 1) = false := by rw [hf]; rfl
  have f2 : (s.fmt == 2) = false := by rw [hf]; rfl
  have f3 : (s.fmt == 3) = false := by rw [hf]; rfl
  have f4 : (s.fmt == 4) = false := by rw [hf]; rfl
  have f5 : (s.fmt == 5) = true := by rw [hf]; rfl
  have f6 : (s.fmt == 6) = false := by rw [hf]; rfl
  clear hf
  have CV := Lib.hid (fun W => Valid_any s.h W b)
  have CD := Lib.hid (fun W => isDynamic_any s W)
  clear b
  generalize validB s.h = r1 at CV ⊢
  generalize isDynB s = r3 at CD ⊢
  cases r1 <;> cases r3
  all_goals go_enter Tryd.func13, Tryd.ntmps13
  all_goals go_wp2_with (first | (refine wpList_unguard (by rfl) ?_; refine wpList_load_sm KA.out rfl _ rfl rfl ?_) | (refine wpList_unguard (by rfl) ?_; refine wpList_load_smh KA.out rfl _ rfl rfl ?_) | (go_at_call 34; ((with_reducible refine (I_ctx.out _).mono ?_); rintro e w' ⟨rfl, rfl⟩)) | (go_at_call 35; ((with_reducible refine (CW.out _).mono ?_); rintro e w2 ⟨rfl, hb⟩; replace BW := Lib.hid (BW.out.trans (hb.mono BW.out.size)); replace KA := Lib.hid ((hb.block _ (lt_of_block KA.out)).trans KA.out); replace hc := cells_of KA.out; clear hb)) | (go_at_call 38; ((with_reducible refine (CV.out _).mono ?_); rintro e w2 ⟨rfl, hb⟩; replace BW := Lib.hid (BW.out.trans (hb.mono BW.out.size)); replace KA := Lib.hid ((hb.block _ (lt_of_block KA.out)).trans KA.out); replace hc := cells_of KA.out; clear hb)) | (go_at_call 40; ((with_reducible refine (CD.out _).mono ?_); rintro e w2 ⟨rfl, hb⟩; replace BW := Lib.hid (BW.out.trans (hb.mono BW.out.size)); replace KA := Lib.hid ((hb.block _ (lt_of_block KA.out)).trans KA.out); replace hc := cells_of KA.out; clear hb)) | fail)
  all_goals go_ret
  all_goals exact ⟨ret_bool (by simp), BW.out⟩

set_option maxRecDepth 100000 in
set_option maxHeartbeats 6400000 in
theorem val_6 (s : Sm) (w : World) (h0 : inB s.ctx 15 = true) (pn : s.pn ≤ 1500) (hw : fmWidB s = true) (hf : s.fmt = 6) :
    Calls Tryd.prog 13 #[(.agg #[.int .i64 s.ctx, .int .i64 s.fmt, .int .i64 s.num, .int .i64 s.time, .int .i64 s.mark, .int .i64 s.id, .int .i64 s.udp, .int .i64 s.h.kind, .int .i64 s.h.tos, .int .i64 s.h.id, .int .i64 s.h.fixed, .int .i64 s.h.ttl, .int .i64 s.h.frm, .int .i64 s.h.to, .int .i64 s.h.fromPort, .int .i64 s.h.toPort, .int .i64 s.h.check, .int .i64 s.h.marker, .int .i64 s.h.type, .int .i64 s.h.seq, .int .i64 s.h.time, .int .i64 s.h.source, .int .i64 s.ds, .int .i64 s.df, .int .i64 s.chk, .slice s.pa s.pn s.pc])] w fun e w' => e = .returned (.bool (s.ctx == 0 && (eqB s.h (kindH 0) && smDyn0 s) && s.udp == 0)) ∧ Below w.heap.size w w' := by
  have BW := Lib.hid ((Below.refl w.heap.size w).alloc (Nat.le_refl _) (.cells #[.int .i64 s.ctx, .int .i64 s.fmt, .int .i64 s.num, .int .i64 s.time, .int .i64 s.mark, .int .i64 s.id, .int .i64 s.udp, .int .i64 s.h.kind, .int .i64 s.h.tos, .int .i64 s.h.id, .int .i64 s.h.fixed, .int .i64 s.h.ttl, .int .i64 s.h.frm, .int .i64 s.h.to, .int .i64 s.h.fromPort, .int .i64 s.h.toPort, .int .i64 s.h.check, .int .i64 s.h.marker, .int .i64 s.h.type, .int .i64 s.h.seq, .int .i64 s.h.time, .int .i64 s.h.source, .int .i64 s.ds, .int .i64 s.df, .int .i64 s.chk, .slice s.pa s.pn s.pc] 28))
  have KA := Lib.hid (heap_alloc_new w (.cells #[.int .i64 s.ctx, .int .i64 s.fmt, .int .i64 s.num, .int .i64 s.time, .int .i64 s.mark, .int .i64 s.id, .int .i64 s.udp, .int .i64 s.h.kind, .int .i64 s.h.tos, .int .i64 s.h.id, .int .i64 s.h.fixed, .int .i64 s.h.ttl, .int .i64 s.h.frm, .int .i64 s.h.to, .int .i64 s.h.fromPort, .int .i64 s.h.toPort, .int .i64 s.h.check, .int .i64 s.h.marker, .int .i64 s.h.type, .int .i64 s.h.seq, .int .i64 s.h.time, .int .i64 s.h.source, .int .i64 s.ds, .int .i64 s.df, .int .i64 s.chk, .slice s.pa s.pn s.pc] 28))
  have hc := cells_of KA.out
  have I_ctx := Lib.hid (fun W => fits08_any 4 s.ctx 15 W (by decide) (by decide))
  rw [h0] at I_ctx
  clear h0
  have hpn : decide ((1500 : Int) < (s.pn : Int)) = false := by simp; omega
  have CW := Lib.hid (fun W => hasWidths_any s W)
  rw [hw] at CW
  clear hw
  have f1 : (s.fmt == 1) = false := by rw [hf]; rfl
  have f2 : (s.fmt == 2) = false := by rw [hf]; rfl
  have f3 : (s.fmt == 3) = false := by rw [hf]; rfl
  have f4 : (s.fmt == 4) = false := by rw [hf]; rfl
  have f5 : (s.fmt == 5) = false := by rw [hf]; rfl
  have f6 : (s.fmt == 6) = true := by rw [hf]; rfl
  clear hf
  have CB := Lib.hid (fun W => isBare_any s 0 W)
  generalize (eqB s.h (kindH 0) && smDyn0 s) = r2 at CB ⊢
  cases c0 : (s.ctx == 0) <;> cases r2
  all_goals go_enter Tryd.func13, Tryd.ntmps13
  all_goals go_wp2_with (first | (refine wpList_unguard (by rfl) ?_; refine wpList_load_sm KA.out rfl _ rfl rfl ?_) | (go_at_call 34; ((with_reducible refine (I_ctx.out _).mono ?_); rintro e w' ⟨rfl, rfl⟩)) | (go_at_call 35; ((with_reducible refine (CW.out _).mono ?_); rintro e w2 ⟨rfl, hb⟩; replace BW := Lib.hid (BW.out.trans (hb.mono BW.out.size)); replace KA := Lib.hid ((hb.block _ (lt_of_block KA.out)).trans KA.out); replace hc := cells_of KA.out; clear hb)) | (go_at_call 37; ((with_reducible refine (CB.out _).mono ?_); rintro e w2 ⟨rfl, hb⟩; replace BW := Lib.hid (BW.out.trans (hb.mono BW.out.size)); replace KA := Lib.hid ((hb.block _ (lt_of_block KA.out)).trans KA.out); replace hc := cells_of KA.out; clear hb)) | fail)
  all_goals go_ret
  all_goals exact ⟨ret_bool (by simp), BW.out⟩

set_option maxRecDepth 100000 in
set_option maxHeartbeats 6400000 in
theorem val_no_f (s : Sm) (w : World) (h0 : inB s.ctx 15 = true) (pn : s.pn ≤ 1500) (hw : fmWidB s = true) (hf : s.fmt < 1 ∨ 6 < s.fmt) :
    Calls Tryd.prog 13 #[(.agg #[.int .i64 s.ctx, .int .i64 s.fmt, .int .i64 s.num, .int .i64 s.time, .int .i64 s.mark, .int .i64 s.id, .int .i64 s.udp, .int .i64 s.h.kind, .int .i64 s.h.tos, .int .i64 s.h.id, .int .i64 s.h.fixed, .int .i64 s.h.ttl, .int .i64 s.h.frm, .int .i64 s.h.to, .int .i64 s.h.fromPort, .int .i64 s.h.toPort, .int .i64 s.h.check, .int .i64 s.h.marker, .int .i64 s.h.type, .int .i64 s.h.seq, .int .i64 s.h.time, .int .i64 s.h.source, .int .i64 s.ds, .int .i64 s.df, .int .i64 s.chk, .slice s.pa s.pn s.pc])] w fun e w' => e = .returned (.bool (false)) ∧ Below w.heap.size w w' := by
  have BW := Lib.hid ((Below.refl w.heap.size w).alloc (Nat.le_refl _) (.cells #[.int .i64 s.ctx, .int .i64 s.fmt, .int .i64 s.num, .int .i64 s.time, .int .i64 s.mark, .int .i64 s.id, .int .i64 s.udp, .int .i64 s.h.kind, .int .i64 s.h.tos, .int .i64 s.h.id, .int .i64 s.h.fixed, .int .i64 s.h.ttl, .int .i64 s.h.frm, .int .i64 s.h.to, .int .i64 s.h.fromPort, .int .i64 s.h.toPort, .int .i64 s.h.check, .int .i64 s.h.marker, .int .i64 s.h.type, .int .i64 s.h.seq, .int .i64 s.h.time, .int .i64 s.h.source, .int .i64 s.ds, .int .i64 s.df, .int .i64 s.chk, .slice s.pa s.pn s.pc] 28))
  have KA := Lib.hid (heap_alloc_new w (.cells #[.int .i64 s.ctx, .int .i64 s.fmt, .int .i64 s.num, .int .i64 s.time, .int .i64 s.mark, .int .i64 s.id, .int .i64 s.udp, .int .i64 s.h.kind, .int .i64 s.h.tos, .int .i64 s.h.id, .int .i64 s.h.fixed, .int .i64 s.h.ttl, .int .i64 s.h.frm, .int .i64 s.h.to, .int .i64 s.h.fromPort, .int .i64 s.h.toPort, .int .i64 s.h.check, .int .i64 s.h.marker, .int .i64 s.h.type, .int .i64 s.h.seq, .int .i64 s.h.time, .int .i64 s.h.source, .int .i64 s.ds, .int .i64 s.df, .int .i64 s.chk, .slice s.pa s.pn s.pc] 28))
  have hc := cells_of KA.out
  have I_ctx := Lib.hid (fun W => fits08_any 4 s.ctx 15 W (by decide) (by decide))
  rw [h0] at I_ctx
  clear h0
  have hpn : decide ((1500 : Int) < (s.pn : Int)) = false := by simp; omega
  have CW := Lib.hid (fun W => hasWidths_any s W)
  rw [hw] at CW
  clear hw
  have f1 : (s.fmt == 1) = false := by simp; omega
  have f2 : (s.fmt == 2) = false := by simp; omega
  have f3 : (s.fmt == 3) = false := by simp; omega
  have f4 : (s.fmt == 4) = false := by simp; omega
  have f5 : (s.fmt == 5) = false := by simp; omega
  have f6 : (s.fmt == 6) = false := by simp; omega
  clear hf
  go_enter Tryd.func13, Tryd.ntmps13
  go_wp2_with (first | (refine wpList_unguard (by rfl) ?_; refine wpList_load_sm KA.out rfl _ rfl rfl ?_) | (go_at_call 34; ((with_reducible refine (I_ctx.out _).mono ?_); rintro e w' ⟨rfl, rfl⟩)) | (go_at_call 35; ((with_reducible refine (CW.out _).mono ?_); rintro e w2 ⟨rfl, hb⟩; replace BW := Lib.hid (BW.out.trans (hb.mono BW.out.size)); replace KA := Lib.hid ((hb.block _ (lt_of_block KA.out)).trans KA.out); replace hc := cells_of KA.out; clear hb)) | fail)
  all_goals go_ret
  all_goals exact ⟨ret_bool (by simp), BW.out⟩

end Go.Proofs.YtkhcfmnebflgkaaDoor
