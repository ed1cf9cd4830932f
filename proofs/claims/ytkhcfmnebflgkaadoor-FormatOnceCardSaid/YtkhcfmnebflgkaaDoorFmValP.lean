/-
  The program's own Valid of layer 8: the same as the document's.
-/
import Derived.Test.YtkhcfmnebflgkaaDoorFmFns
import Derived.Test.YtkhcfmnebflgkaaDoorJLow
namespace Go.Proofs.YtkhcfmnebflgkaaDoor
open Go Go.RowKit

def wMax (n : Int) : Int := 2 ^ n.toNat - 1
def fmWidB (s : Sm) : Bool := inB s.num (wMax (wNum s.fmt s.h.kind)) && inB s.time (wMax (wTime s.fmt s.h.kind)) && inB s.mark (wMax (wMark s.fmt s.h.kind)) && inB s.id (wMax (wId s.fmt s.h.kind)) && inB s.chk (wMax (wChk s.fmt))
theorem w_le (f k : Int) : (0 ≤ wNum f k ∧ wNum f k ≤ 32) ∧ (0 ≤ wTime f k ∧ wTime f k ≤ 32) ∧ (0 ≤ wMark f k ∧ wMark f k ≤ 32) ∧ (0 ≤ wId f k ∧ wId f k ≤ 32) ∧ (0 ≤ wChk f ∧ wChk f ≤ 32) := by
  refine ⟨?_, ?_, ?_, ?_, ?_⟩
  · unfold wNum; (repeat' split) <;> omega
  · unfold wTime; (repeat' split) <;> omega
  · unfold wMark; (repeat' split) <;> omega
  · unfold wId; (repeat' split) <;> omega
  · unfold wChk; (repeat' split) <;> omega

set_option maxRecDepth 100000 in
set_option maxHeartbeats 6400000 in
theorem hasWidths_any (s : Sm) (w : World) :
    Calls Tryd.prog 35 #[(.agg #[.int .i64 s.ctx, .int .i64 s.fmt, .int .i64 s.num, .int .i64 s.time, .int .i64 s.mark, .int .i64 s.id, .int .i64 s.udp, .int .i64 s.h.kind, .int .i64 s.h.tos, .int .i64 s.h.id, .int .i64 s.h.fixed, .int .i64 s.h.ttl, .int .i64 s.h.frm, .int .i64 s.h.to, .int .i64 s.h.fromPort, .int .i64 s.h.toPort, .int .i64 s.h.check, .int .i64 s.h.marker, .int .i64 s.h.type, .int .i64 s.h.seq, .int .i64 s.h.time, .int .i64 s.h.source, .int .i64 s.ds, .int .i64 s.df, .int .i64 s.chk, .slice s.pa s.pn s.pc])] w fun e w' => e = .returned (.bool (fmWidB s)) ∧ Below w.heap.size w w' := by
  have BW := Lib.hid ((Below.refl w.heap.size w).alloc (Nat.le_refl _) (.cells #[.int .i64 s.ctx, .int .i64 s.fmt, .int .i64 s.num, .int .i64 s.time, .int .i64 s.mark, .int .i64 s.id, .int .i64 s.udp, .int .i64 s.h.kind, .int .i64 s.h.tos, .int .i64 s.h.id, .int .i64 s.h.fixed, .int .i64 s.h.ttl, .int .i64 s.h.frm, .int .i64 s.h.to, .int .i64 s.h.fromPort, .int .i64 s.h.toPort, .int .i64 s.h.check, .int .i64 s.h.marker, .int .i64 s.h.type, .int .i64 s.h.seq, .int .i64 s.h.time, .int .i64 s.h.source, .int .i64 s.ds, .int .i64 s.df, .int .i64 s.chk, .slice s.pa s.pn s.pc] 28))
  have K := heap_alloc_new w (.cells #[.int .i64 s.ctx, .int .i64 s.fmt, .int .i64 s.num, .int .i64 s.time, .int .i64 s.mark, .int .i64 s.id, .int .i64 s.udp, .int .i64 s.h.kind, .int .i64 s.h.tos, .int .i64 s.h.id, .int .i64 s.h.fixed, .int .i64 s.h.ttl, .int .i64 s.h.frm, .int .i64 s.h.to, .int .i64 s.h.fromPort, .int .i64 s.h.toPort, .int .i64 s.h.check, .int .i64 s.h.marker, .int .i64 s.h.type, .int .i64 s.h.seq, .int .i64 s.h.time, .int .i64 s.h.source, .int .i64 s.ds, .int .i64 s.df, .int .i64 s.chk, .slice s.pa s.pn s.pc] 28)
  have hc := cells_of K
  have HK := Lib.hid K
  clear K
  have hsz : Hid ((w.alloc (.cells #[.int .i64 s.ctx, .int .i64 s.fmt, .int .i64 s.num, .int .i64 s.time, .int .i64 s.mark, .int .i64 s.id, .int .i64 s.udp, .int .i64 s.h.kind, .int .i64 s.h.tos, .int .i64 s.h.id, .int .i64 s.h.fixed, .int .i64 s.h.ttl, .int .i64 s.h.frm, .int .i64 s.h.to, .int .i64 s.h.fromPort, .int .i64 s.h.toPort, .int .i64 s.h.check, .int .i64 s.h.marker, .int .i64 s.h.type, .int .i64 s.h.seq, .int .i64 s.h.time, .int .i64 s.h.source, .int .i64 s.ds, .int .i64 s.df, .int .i64 s.chk, .slice s.pa s.pn s.pc] 28)).heap.size = w.heap.size + 1) := by show _ = _; simp
  have wo := fun W => widthsOf_any s.fmt s.h.kind W
  unfold WidR at wo
  have WO := Lib.hid wo
  clear wo
  obtain ⟨l1, l2, l3, l4, l5⟩ := w_le s.fmt s.h.kind
  have F1 := Lib.hid (fun W => fits08_any (wNum s.fmt s.h.kind) s.num (wMax (wNum s.fmt s.h.kind)) W l1 (by unfold wMax; omega))
  have F2 := Lib.hid (fun W => fits08_any (wTime s.fmt s.h.kind) s.time (wMax (wTime s.fmt s.h.kind)) W l2 (by unfold wMax; omega))
  have F3 := Lib.hid (fun W => fits08_any (wMark s.fmt s.h.kind) s.mark (wMax (wMark s.fmt s.h.kind)) W l3 (by unfold wMax; omega))
  have F4 := Lib.hid (fun W => fits08_any (wId s.fmt s.h.kind) s.id (wMax (wId s.fmt s.h.kind)) W l4 (by unfold wMax; omega))
  have F5 := Lib.hid (fun W => fits08_any (wChk s.fmt) s.chk (wMax (wChk s.fmt)) W l5 (by unfold wMax; omega))
  have HR : Hid (fmWidB s = (inB s.num (wMax (wNum s.fmt s.h.kind)) && inB s.time (wMax (wTime s.fmt s.h.kind)) && inB s.mark (wMax (wMark s.fmt s.h.kind)) && inB s.id (wMax (wId s.fmt s.h.kind)) && inB s.chk (wMax (wChk s.fmt)))) := rfl
  generalize inB s.num (wMax (wNum s.fmt s.h.kind)) = c1 at F1 HR
  generalize inB s.time (wMax (wTime s.fmt s.h.kind)) = c2 at F2 HR
  generalize inB s.mark (wMax (wMark s.fmt s.h.kind)) = c3 at F3 HR
  generalize inB s.id (wMax (wId s.fmt s.h.kind)) = c4 at F4 HR
  generalize inB s.chk (wMax (wChk s.fmt)) = c5 at F5 HR
  generalize fmWidB s = R at HR ⊢
  generalize wNum s.fmt s.h.kind = n1 at WO F1
  generalize wTime s.fmt s.h.kind = n2 at WO F2
  generalize wMark s.fmt s.h.kind = n3 at WO F3
  generalize wId s.fmt s.h.kind = n4 at WO F4
  generalize wChk s.fmt = n5 at WO F5
  clear l1 l2 l3 l4 l5
  go_enter Tryd.func35, Tryd.ntmps35
  go_wp2_with fail
  refine (WO.out _).mono ?_
  rintro e w1 ⟨rfl, hb⟩
  have HB := Lib.hid (BW.out.trans (hb.mono (by simp)))
  have hw1 : w.heap.size < w1.heap.size := by have := hb.size; rw [hsz.out] at this; omega
  have hc1 : ∀ i, w1.cell? ⟨w.heap.size, i, none⟩ = #[.int .i64 s.ctx, .int .i64 s.fmt, .int .i64 s.num, .int .i64 s.time, .int .i64 s.mark, .int .i64 s.id, .int .i64 s.udp, .int .i64 s.h.kind, .int .i64 s.h.tos, .int .i64 s.h.id, .int .i64 s.h.fixed, .int .i64 s.h.ttl, .int .i64 s.h.frm, .int .i64 s.h.to, .int .i64 s.h.fromPort, .int .i64 s.h.toPort, .int .i64 s.h.check, .int .i64 s.h.marker, .int .i64 s.h.type, .int .i64 s.h.seq, .int .i64 s.h.time, .int .i64 s.h.source, .int .i64 s.ds, .int .i64 s.df, .int .i64 s.chk, .slice s.pa s.pn s.pc][i]? := cells_of ((hb.block _ (by rw [hsz.out]; omega)).trans HK.out)
  clear hb hc hsz
  have HB2 := Lib.hid (HB.out.alloc (by omega) (.cells #[.int .i64 n1, .int .i64 n2, .int .i64 n3, .int .i64 n4, .int .i64 n5] 92))
  have K2 := heap_alloc_new w1 (.cells #[.int .i64 n1, .int .i64 n2, .int .i64 n3, .int .i64 n4, .int .i64 n5] 92)
  have hc2 := cells_of K2
  have hc3 : ∀ i, (w1.alloc (.cells #[.int .i64 n1, .int .i64 n2, .int .i64 n3, .int .i64 n4, .int .i64 n5] 92)).cell? ⟨w.heap.size, i, none⟩ = #[.int .i64 s.ctx, .int .i64 s.fmt, .int .i64 s.num, .int .i64 s.time, .int .i64 s.mark, .int .i64 s.id, .int .i64 s.udp, .int .i64 s.h.kind, .int .i64 s.h.tos, .int .i64 s.h.id, .int .i64 s.h.fixed, .int .i64 s.h.ttl, .int .i64 s.h.frm, .int .i64 s.h.to, .int .i64 s.h.fromPort, .int .i64 s.h.toPort, .int .i64 s.h.check, .int .i64 s.h.marker, .int .i64 s.h.type, .int .i64 s.h.seq, .int .i64 s.h.time, .int .i64 s.h.source, .int .i64 s.ds, .int .i64 s.df, .int .i64 s.chk, .slice s.pa s.pn s.pc][i]? := fun i => (World.cell?_of_block (heap_alloc_old _ _ hw1)).trans (hc1 i)
  clear hc1 K2 hw1
  go_wp2_with (first | (go_at_call 34; ((with_reducible refine (F1.out _).mono ?_); rintro e w' ⟨rfl, rfl⟩)) | (go_at_call 34; ((with_reducible refine (F2.out _).mono ?_); rintro e w' ⟨rfl, rfl⟩)) | (go_at_call 34; ((with_reducible refine (F3.out _).mono ?_); rintro e w' ⟨rfl, rfl⟩)) | (go_at_call 34; ((with_reducible refine (F4.out _).mono ?_); rintro e w' ⟨rfl, rfl⟩)) | (go_at_call 34; ((with_reducible refine (F5.out _).mono ?_); rintro e w' ⟨rfl, rfl⟩)) | fail)
  all_goals go_ret
  all_goals refine ⟨ret_bool ?_, HB2.out⟩
  all_goals rw [HR.out]
  all_goals clear BW HR F1 F2 F3 F4 F5 HB HB2
  all_goals first | (simp; done) | simp_all
end Go.Proofs.YtkhcfmnebflgkaaDoor
