/-
  Two headers compared with ==.
-/
import Derived.Test.YtphekpkkeiaccaaHd
import Derived.Test.YtphekpkkeiaccaaProg
import Derived.Laws.StructEq
namespace Go.Proofs.Ytphekpkkeiaccaa
open Go Go.RowKit

def eqB (a b : Hd) : Bool := decide (a.kind = b.kind ∧ a.tos = b.tos ∧ a.id = b.id ∧ a.fixed = b.fixed ∧ a.ttl = b.ttl ∧ a.frm = b.frm ∧ a.to = b.to ∧ a.fromPort = b.fromPort ∧ a.toPort = b.toPort ∧ a.check = b.check ∧ a.marker = b.marker ∧ a.type = b.type ∧ a.seq = b.seq ∧ a.time = b.time ∧ a.source = b.source)
theorem eqB_self (a : Hd) : eqB a a = true := by unfold eqB; simp
theorem eqB_iff (a b : Hd) : eqB a b = true ↔ a = b := by
  constructor
  · intro h
    have h := of_decide_eq_true h
    obtain ⟨h0, h1, h2, h3, h4, h5, h6, h7, h8, h9, h10, h11, h12, h13, h14⟩ := h
    cases a; cases b; simp only at *; subst h0; subst h1; subst h2; subst h3; subst h4; subst h5; subst h6; subst h7; subst h8; subst h9; subst h10; subst h11; subst h12; subst h13; subst h14; rfl
  · rintro rfl; exact eqB_self a
theorem eqB_comm (a b : Hd) : eqB a b = eqB b a := by
  apply Bool.eq_iff_iff.2; rw [eqB_iff, eqB_iff]; exact eq_comm

theorem if_and_ok (W : World) (p q : Prop) [Decidable p] [Decidable q] (x : Result Value) (hx : x = .ok (.bool (decide q)) W) : (if p then x else .ok (.bool false) W) = .ok (.bool (decide (p ∧ q))) W := by
  by_cases hp : p <;> simp [hp, hx]
theorem if_ok (W : World) (p : Prop) [Decidable p] : (if p then (.ok (.bool true) W : Result Value) else .ok (.bool false) W) = .ok (.bool (decide p)) W := by
  by_cases hp : p <;> simp [hp]

theorem eql_hd (a b : Hd) (W : World) : Sem.run Try.prog (binOp .eql 23 (.agg #[.int .i64 a.kind, .int .i64 a.tos, .int .i64 a.id, .int .i64 a.fixed, .int .i64 a.ttl, .int .i64 a.frm, .int .i64 a.to, .int .i64 a.fromPort, .int .i64 a.toPort, .int .i64 a.check, .int .i64 a.marker, .int .i64 a.type, .int .i64 a.seq, .int .i64 a.time, .int .i64 a.source]) (.agg #[.int .i64 b.kind, .int .i64 b.tos, .int .i64 b.id, .int .i64 b.fixed, .int .i64 b.ttl, .int .i64 b.frm, .int .i64 b.to, .int .i64 b.fromPort, .int .i64 b.toPort, .int .i64 b.check, .int .i64 b.marker, .int .i64 b.type, .int .i64 b.seq, .int .i64 b.time, .int .i64 b.source])) W = .ok (.bool (eqB a b)) W := by
  have u3 := Try.underlying3
  have a3 := Try.isAgg3
  have z3 := Try.sizeOf3
  have hS : Try.prog.underlying 23 = some (.struct (Try.prog.fieldsOf 23)) := by kernel_rfl
  have hp : Try.prog.stoodInHeld 23 = false := by kernel_rfl
  rw [run_eql_struct, show (10000 : Nat) = 9999 + 1 from rfl, run_equalIn_agg W 9999 23 _ _ hS hp]
  simp only [Program.fieldsOf, Try.underlying23]
  go_simp
  unfold eqB
  clear hS hp u3 a3 z3
  iterate 14 refine if_and_ok _ _ _ _ ?_
  exact if_ok _ _
end Go.Proofs.Ytphekpkkeiaccaa
