/-
  An array of two headers, built.
-/
import Derived.Test.YtphekpkkeiaccaaHd
import Derived.Test.YtphekpkkeiaccaaRegion
import Derived.Test.YtphekpkkeiaccaaProg
namespace Go.Proofs.Ytphekpkkeiaccaa
open Go Go.RowKit

theorem build2 (a z : Hd) (W : World) : Sem.run Try.prog (Instr.build 24 #[(0, (.agg #[.int .i64 a.kind, .int .i64 a.tos, .int .i64 a.id, .int .i64 a.fixed, .int .i64 a.ttl, .int .i64 a.frm, .int .i64 a.to, .int .i64 a.fromPort, .int .i64 a.toPort, .int .i64 a.check, .int .i64 a.marker, .int .i64 a.type, .int .i64 a.seq, .int .i64 a.time, .int .i64 a.source])), (1, (.agg #[.int .i64 z.kind, .int .i64 z.tos, .int .i64 z.id, .int .i64 z.fixed, .int .i64 z.ttl, .int .i64 z.frm, .int .i64 z.to, .int .i64 z.fromPort, .int .i64 z.toPort, .int .i64 z.check, .int .i64 z.marker, .int .i64 z.type, .int .i64 z.seq, .int .i64 z.time, .int .i64 z.source]))]) W = .ok (.agg #[.int .i64 a.kind, .int .i64 a.tos, .int .i64 a.id, .int .i64 a.fixed, .int .i64 a.ttl, .int .i64 a.frm, .int .i64 a.to, .int .i64 a.fromPort, .int .i64 a.toPort, .int .i64 a.check, .int .i64 a.marker, .int .i64 a.type, .int .i64 a.seq, .int .i64 a.time, .int .i64 a.source, .int .i64 z.kind, .int .i64 z.tos, .int .i64 z.id, .int .i64 z.fixed, .int .i64 z.ttl, .int .i64 z.frm, .int .i64 z.to, .int .i64 z.fromPort, .int .i64 z.toPort, .int .i64 z.check, .int .i64 z.marker, .int .i64 z.type, .int .i64 z.seq, .int .i64 z.time, .int .i64 z.source]) W := by kernel_rfl
theorem yieldsIf_build2 {ops : Array Oper} {S : World → Prop} {op : Oper} {A : Act} {a z : Hd} (hw : Region.wanted op (yielded ops A.tmps) = true) (x y : Operand) (ho : op.op = .build 24 #[(0, x), (1, y)])
    (hx : A.eval x = (.agg #[.int .i64 a.kind, .int .i64 a.tos, .int .i64 a.id, .int .i64 a.fixed, .int .i64 a.ttl, .int .i64 a.frm, .int .i64 a.to, .int .i64 a.fromPort, .int .i64 a.toPort, .int .i64 a.check, .int .i64 a.marker, .int .i64 a.type, .int .i64 a.seq, .int .i64 a.time, .int .i64 a.source])) (hy : A.eval y = (.agg #[.int .i64 z.kind, .int .i64 z.tos, .int .i64 z.id, .int .i64 z.fixed, .int .i64 z.ttl, .int .i64 z.frm, .int .i64 z.to, .int .i64 z.fromPort, .int .i64 z.toPort, .int .i64 z.check, .int .i64 z.marker, .int .i64 z.type, .int .i64 z.seq, .int .i64 z.time, .int .i64 z.source])) : YieldsIf Try.prog ops S op (.agg #[.int .i64 a.kind, .int .i64 a.tos, .int .i64 a.id, .int .i64 a.fixed, .int .i64 a.ttl, .int .i64 a.frm, .int .i64 a.to, .int .i64 a.fromPort, .int .i64 a.toPort, .int .i64 a.check, .int .i64 a.marker, .int .i64 a.type, .int .i64 a.seq, .int .i64 a.time, .int .i64 a.source, .int .i64 z.kind, .int .i64 z.tos, .int .i64 z.id, .int .i64 z.fixed, .int .i64 z.ttl, .int .i64 z.frm, .int .i64 z.to, .int .i64 z.fromPort, .int .i64 z.toPort, .int .i64 z.check, .int .i64 z.marker, .int .i64 z.type, .int .i64 z.seq, .int .i64 z.time, .int .i64 z.source]) A :=
  .inl ⟨hw, fun w _ => by
    unfold execOp
    simp only [ho, List.map_toArray, List.map_cons, List.map_nil, hx, hy, Sem.run_bind, build2, Result.andThen_ok, Sem.run_pure]⟩
end Go.Proofs.Ytphekpkkeiaccaa
