/-
  FlowExact: what all functions of layer 6 return for any headers, parameters and number is what the document says. No condition.
-/
import Derived.Test.YtphekpkkeiaccaaFlAwake
import Derived.Test.YtphekpkkeiaccaaFlChg
import Derived.Test.YtphekpkkeiaccaaFlPredR
import Derived.Test.YtphekpkkeiaccaaFlLearnR
import Derived.Test.YtphekpkkeiaccaaRegion
import Derived.Test.YtphekpkkeiaccaaHdArr
import Derived.Test.YtphekpkkeiaccaaLift
import Derived.Test.YtphekpkkeiaccaaRows
import Derived.Deep.DeepCutAuto
import Derived.Deep.RegionHeld3
namespace Go.Proofs.Ytphekpkkeiaccaa.flowExact
open Go Go.RowKit Go.ChangeShapes Go.WideShapes Go.ChangeAt

/-- two headers and dynamic parameters in three blocks, wherever they lie -/
structure AB (W : World) (k1 k2 k3 : Nat) (a b : Hd) (s f : Int) : Prop where
  a : W.heap[k1]? = some (.cells #[.int .i64 a.kind, .int .i64 a.tos, .int .i64 a.id, .int .i64 a.fixed, .int .i64 a.ttl, .int .i64 a.frm, .int .i64 a.to, .int .i64 a.fromPort, .int .i64 a.toPort, .int .i64 a.check, .int .i64 a.marker, .int .i64 a.type, .int .i64 a.seq, .int .i64 a.time, .int .i64 a.source] 23 (0, 0))
  b : W.heap[k2]? = some (.cells #[.int .i64 b.kind, .int .i64 b.tos, .int .i64 b.id, .int .i64 b.fixed, .int .i64 b.ttl, .int .i64 b.frm, .int .i64 b.to, .int .i64 b.fromPort, .int .i64 b.toPort, .int .i64 b.check, .int .i64 b.marker, .int .i64 b.type, .int .i64 b.seq, .int .i64 b.time, .int .i64 b.source] 23 (0, 0))
  d : W.heap[k3]? = some (.cells #[.int .i64 s, .int .i64 f] 26 (0, 0))
theorem AB.below {w w' : World} {k1 k2 k3 : Nat} {a b : Hd} {s f : Int} (p : AB w k1 k2 k3 a b s f) (hb : Below w.heap.size w w') : AB w' k1 k2 k3 a b s f :=
  ⟨(hb.block _ (lt_of_block p.a)).trans p.a, (hb.block _ (lt_of_block p.b)).trans p.b, (hb.block _ (lt_of_block p.d)).trans p.d⟩
theorem AB.drew {w : World} {k1 k2 k3 : Nat} {a b : Hd} {s f : Int} (p : AB w k1 k2 k3 a b s f) : AB w.drew k1 k2 k3 a b s f := ⟨p.a, p.b, p.d⟩
theorem AB.cells {W : World} {k1 k2 k3 : Nat} {a b : Hd} {s f : Int} (p : AB W k1 k2 k3 a b s f) : W.cell? ⟨k1, 0, none⟩ = some (.int .i64 a.kind) ∧ W.cell? ⟨k1, 1, none⟩ = some (.int .i64 a.tos) ∧ W.cell? ⟨k1, 2, none⟩ = some (.int .i64 a.id) ∧ W.cell? ⟨k1, 3, none⟩ = some (.int .i64 a.fixed) ∧ W.cell? ⟨k1, 4, none⟩ = some (.int .i64 a.ttl) ∧ W.cell? ⟨k1, 5, none⟩ = some (.int .i64 a.frm) ∧ W.cell? ⟨k1, 6, none⟩ = some (.int .i64 a.to) ∧ W.cell? ⟨k1, 7, none⟩ = some (.int .i64 a.fromPort) ∧ W.cell? ⟨k1, 8, none⟩ = some (.int .i64 a.toPort) ∧ W.cell? ⟨k1, 9, none⟩ = some (.int .i64 a.check) ∧ W.cell? ⟨k1, 10, none⟩ = some (.int .i64 a.marker) ∧ W.cell? ⟨k1, 11, none⟩ = some (.int .i64 a.type) ∧ W.cell? ⟨k1, 12, none⟩ = some (.int .i64 a.seq) ∧ W.cell? ⟨k1, 13, none⟩ = some (.int .i64 a.time) ∧ W.cell? ⟨k1, 14, none⟩ = some (.int .i64 a.source) ∧ W.cell? ⟨k2, 0, none⟩ = some (.int .i64 b.kind) ∧ W.cell? ⟨k2, 1, none⟩ = some (.int .i64 b.tos) ∧ W.cell? ⟨k2, 2, none⟩ = some (.int .i64 b.id) ∧ W.cell? ⟨k2, 3, none⟩ = some (.int .i64 b.fixed) ∧ W.cell? ⟨k2, 4, none⟩ = some (.int .i64 b.ttl) ∧ W.cell? ⟨k2, 5, none⟩ = some (.int .i64 b.frm) ∧ W.cell? ⟨k2, 6, none⟩ = some (.int .i64 b.to) ∧ W.cell? ⟨k2, 7, none⟩ = some (.int .i64 b.fromPort) ∧ W.cell? ⟨k2, 8, none⟩ = some (.int .i64 b.toPort) ∧ W.cell? ⟨k2, 9, none⟩ = some (.int .i64 b.check) ∧ W.cell? ⟨k2, 10, none⟩ = some (.int .i64 b.marker) ∧ W.cell? ⟨k2, 11, none⟩ = some (.int .i64 b.type) ∧ W.cell? ⟨k2, 12, none⟩ = some (.int .i64 b.seq) ∧ W.cell? ⟨k2, 13, none⟩ = some (.int .i64 b.time) ∧ W.cell? ⟨k2, 14, none⟩ = some (.int .i64 b.source) ∧ W.cell? ⟨k3, 0, none⟩ = some (.int .i64 s) ∧ W.cell? ⟨k3, 1, none⟩ = some (.int .i64 f) :=
  ⟨cells_of p.a 0, cells_of p.a 1, cells_of p.a 2, cells_of p.a 3, cells_of p.a 4, cells_of p.a 5, cells_of p.a 6, cells_of p.a 7, cells_of p.a 8, cells_of p.a 9, cells_of p.a 10, cells_of p.a 11, cells_of p.a 12, cells_of p.a 13, cells_of p.a 14, cells_of p.b 0, cells_of p.b 1, cells_of p.b 2, cells_of p.b 3, cells_of p.b 4, cells_of p.b 5, cells_of p.b 6, cells_of p.b 7, cells_of p.b 8, cells_of p.b 9, cells_of p.b 10, cells_of p.b 11, cells_of p.b 12, cells_of p.b 13, cells_of p.b 14, cells_of p.d 0, cells_of p.d 1⟩
theorem AB.ra {W : World} {k1 k2 k3 : Nat} {a b : Hd} {s f : Int} (p : AB W k1 k2 k3 a b s f) : W.rangeAt k1 0 [.int .i64 a.kind, .int .i64 a.tos, .int .i64 a.id, .int .i64 a.fixed, .int .i64 a.ttl, .int .i64 a.frm, .int .i64 a.to, .int .i64 a.fromPort, .int .i64 a.toPort, .int .i64 a.check, .int .i64 a.marker, .int .i64 a.type, .int .i64 a.seq, .int .i64 a.time, .int .i64 a.source] := World.rangeAt_of_block p.a 0 15
theorem AB.rb {W : World} {k1 k2 k3 : Nat} {a b : Hd} {s f : Int} (p : AB W k1 k2 k3 a b s f) : W.rangeAt k2 0 [.int .i64 b.kind, .int .i64 b.tos, .int .i64 b.id, .int .i64 b.fixed, .int .i64 b.ttl, .int .i64 b.frm, .int .i64 b.to, .int .i64 b.fromPort, .int .i64 b.toPort, .int .i64 b.check, .int .i64 b.marker, .int .i64 b.type, .int .i64 b.seq, .int .i64 b.time, .int .i64 b.source] := World.rangeAt_of_block p.b 0 15
theorem AB.rd {W : World} {k1 k2 k3 : Nat} {a b : Hd} {s f : Int} (p : AB W k1 k2 k3 a b s f) : W.rangeAt k3 0 [.int .i64 s, .int .i64 f] := World.rangeAt_of_block p.d 0 2
theorem info_hd : (Try.prog.info? 23).map (·.size) = some 15 := by kernel_rfl
theorem info_dyn : (Try.prog.info? 26).map (·.size) = some 2 := by kernel_rfl
theorem AB.laid1 {k3 : Nat} (w : World) (a b : Hd) (s f : Int) (d : w.heap[k3]? = some (.cells #[.int .i64 s, .int .i64 f] 26 (0, 0))) : AB ((w.alloc (.cells #[.int .i64 a.kind, .int .i64 a.tos, .int .i64 a.id, .int .i64 a.fixed, .int .i64 a.ttl, .int .i64 a.frm, .int .i64 a.to, .int .i64 a.fromPort, .int .i64 a.toPort, .int .i64 a.check, .int .i64 a.marker, .int .i64 a.type, .int .i64 a.seq, .int .i64 a.time, .int .i64 a.source] 23)).alloc (.cells #[.int .i64 b.kind, .int .i64 b.tos, .int .i64 b.id, .int .i64 b.fixed, .int .i64 b.ttl, .int .i64 b.frm, .int .i64 b.to, .int .i64 b.fromPort, .int .i64 b.toPort, .int .i64 b.check, .int .i64 b.marker, .int .i64 b.type, .int .i64 b.seq, .int .i64 b.time, .int .i64 b.source] 23)) w.heap.size (w.heap.size + 1) k3 a b s f :=
  ⟨(HH.laid w a b).1, (HH.laid w a b).2, (heap_alloc_old _ _ (by simp; exact Nat.lt_succ_of_lt (lt_of_block d))).trans ((heap_alloc_old _ _ (lt_of_block d)).trans d)⟩
theorem AB.laid2 {k3 : Nat} (w : World) (a b : Hd) (s f : Int) (d : w.heap[k3]? = some (.cells #[.int .i64 s, .int .i64 f] 26 (0, 0))) : AB ((w.alloc (.cells #[.int .i64 b.kind, .int .i64 b.tos, .int .i64 b.id, .int .i64 b.fixed, .int .i64 b.ttl, .int .i64 b.frm, .int .i64 b.to, .int .i64 b.fromPort, .int .i64 b.toPort, .int .i64 b.check, .int .i64 b.marker, .int .i64 b.type, .int .i64 b.seq, .int .i64 b.time, .int .i64 b.source] 23)).alloc (.cells #[.int .i64 a.kind, .int .i64 a.tos, .int .i64 a.id, .int .i64 a.fixed, .int .i64 a.ttl, .int .i64 a.frm, .int .i64 a.to, .int .i64 a.fromPort, .int .i64 a.toPort, .int .i64 a.check, .int .i64 a.marker, .int .i64 a.type, .int .i64 a.seq, .int .i64 a.time, .int .i64 a.source] 23)) (w.heap.size + 1) w.heap.size k3 a b s f :=
  ⟨(HH.laid w b a).2, (HH.laid w b a).1, (heap_alloc_old _ _ (by simp; exact Nat.lt_succ_of_lt (lt_of_block d))).trans ((heap_alloc_old _ _ (lt_of_block d)).trans d)⟩
theorem eql_dyn (s f : Int) (W : World) : Sem.run Try.prog (binOp .eql 26 (.agg #[.int .i64 s, .int .i64 f]) (.agg #[.int .i64 s, .int .i64 f])) W = .ok (.bool true) W := by
  have u3 := Try.underlying3
  have a3 := Try.isAgg3
  have z3 := Try.sizeOf3
  have hS : Try.prog.underlying 26 = some (.struct (Try.prog.fieldsOf 26)) := by kernel_rfl
  have hp : Try.prog.stoodInHeld 26 = false := by kernel_rfl
  rw [run_eql_struct, show (10000 : Nat) = 9999 + 1 from rfl, run_equalIn_agg W 9999 26 _ _ hS hp]
  simp only [Program.fieldsOf, Try.underlying26]
  go_simp


set_option maxRecDepth 100000 in
set_option maxHeartbeats 12800000 in
theorem walk (w : World) (a b : Hd) (fa : a.Fits) (fb : b.Fits) (s f : Int) (n : Int) (_bn : -9223372036854775808 ≤ n ∧ n ≤ 9223372036854775807) :
    Calls Try.prog 3 #[.agg #[.int .i64 a.kind, .int .i64 a.tos, .int .i64 a.id, .int .i64 a.fixed, .int .i64 a.ttl, .int .i64 a.frm, .int .i64 a.to, .int .i64 a.fromPort, .int .i64 a.toPort, .int .i64 a.check, .int .i64 a.marker, .int .i64 a.type, .int .i64 a.seq, .int .i64 a.time, .int .i64 a.source, .int .i64 b.kind, .int .i64 b.tos, .int .i64 b.id, .int .i64 b.fixed, .int .i64 b.ttl, .int .i64 b.frm, .int .i64 b.to, .int .i64 b.fromPort, .int .i64 b.toPort, .int .i64 b.check, .int .i64 b.marker, .int .i64 b.type, .int .i64 b.seq, .int .i64 b.time, .int .i64 b.source], .agg #[.int .i64 s, .int .i64 f], .int .i64 n] w fun e w' => e = .returned (.bool true) ∧ Below w.heap.size w w' := by
  have CW := Lib.hid awake_any
  have C1 := Lib.hid (flSame_any a b)
  have C2 := Lib.hid (rflSame_any a b)
  have C3 := Lib.hid (Static_any a)
  have C4 := Lib.hid (rStatic_any a)
  have C5 := Lib.hid (Number_any a)
  have C6 := Lib.hid (rNumber_any a)
  have C7 := Lib.hid (Changed_any a b)
  have C8 := Lib.hid (rChanged_any a b)
  have C9 := Lib.hid (fun W => Predict_any s f n a W fa)
  have C10 := Lib.hid (fun W => rPredict_any s f n a W fa)
  have C11 := Lib.hid (fun W => Learn_any a b W fa fb)
  have C12 := Lib.hid (fun W => rLearn_any a b W fa fb)
  have e1 := eqB_self (statH a)
  have E1 := eql_hd (statH a) (statH a)
  have E2 := eql_hd (predH s f a n) (predH s f a n)
  rw [eqB_self] at E1 E2
  have E3 := eql_dyn (learnS a b) (learnF a b)
  generalize sameB a b = b1 at C1 C2
  generalize statH a = x1 at C3 C4 E1
  generalize numV a = n1 at C5 C6
  generalize chgV a b = n2 at C7 C8
  generalize predH s f a n = x2 at C9 C10 E2
  generalize learnS a b = n3 at C11 C12 E3
  generalize learnF a b = n4 at C11 C12 E3
  clear fa fb e1
  have BW := Lib.hid (((Below.refl w.heap.size w).alloc (Nat.le_refl _) (.cells #[.int .i64 a.kind, .int .i64 a.tos, .int .i64 a.id, .int .i64 a.fixed, .int .i64 a.ttl, .int .i64 a.frm, .int .i64 a.to, .int .i64 a.fromPort, .int .i64 a.toPort, .int .i64 a.check, .int .i64 a.marker, .int .i64 a.type, .int .i64 a.seq, .int .i64 a.time, .int .i64 a.source, .int .i64 b.kind, .int .i64 b.tos, .int .i64 b.id, .int .i64 b.fixed, .int .i64 b.ttl, .int .i64 b.frm, .int .i64 b.to, .int .i64 b.fromPort, .int .i64 b.toPort, .int .i64 b.check, .int .i64 b.marker, .int .i64 b.type, .int .i64 b.seq, .int .i64 b.time, .int .i64 b.source] 24)).alloc (by simp) (.cells #[.int .i64 s, .int .i64 f] 26))
  have KA : ((w.alloc (.cells #[.int .i64 a.kind, .int .i64 a.tos, .int .i64 a.id, .int .i64 a.fixed, .int .i64 a.ttl, .int .i64 a.frm, .int .i64 a.to, .int .i64 a.fromPort, .int .i64 a.toPort, .int .i64 a.check, .int .i64 a.marker, .int .i64 a.type, .int .i64 a.seq, .int .i64 a.time, .int .i64 a.source, .int .i64 b.kind, .int .i64 b.tos, .int .i64 b.id, .int .i64 b.fixed, .int .i64 b.ttl, .int .i64 b.frm, .int .i64 b.to, .int .i64 b.fromPort, .int .i64 b.toPort, .int .i64 b.check, .int .i64 b.marker, .int .i64 b.type, .int .i64 b.seq, .int .i64 b.time, .int .i64 b.source] 24)).alloc (.cells #[.int .i64 s, .int .i64 f] 26)).heap[w.heap.size]? = some (.cells #[.int .i64 a.kind, .int .i64 a.tos, .int .i64 a.id, .int .i64 a.fixed, .int .i64 a.ttl, .int .i64 a.frm, .int .i64 a.to, .int .i64 a.fromPort, .int .i64 a.toPort, .int .i64 a.check, .int .i64 a.marker, .int .i64 a.type, .int .i64 a.seq, .int .i64 a.time, .int .i64 a.source, .int .i64 b.kind, .int .i64 b.tos, .int .i64 b.id, .int .i64 b.fixed, .int .i64 b.ttl, .int .i64 b.frm, .int .i64 b.to, .int .i64 b.fromPort, .int .i64 b.toPort, .int .i64 b.check, .int .i64 b.marker, .int .i64 b.type, .int .i64 b.seq, .int .i64 b.time, .int .i64 b.source] 24 (0, 0)) := (heap_alloc_old (w.alloc (.cells #[.int .i64 a.kind, .int .i64 a.tos, .int .i64 a.id, .int .i64 a.fixed, .int .i64 a.ttl, .int .i64 a.frm, .int .i64 a.to, .int .i64 a.fromPort, .int .i64 a.toPort, .int .i64 a.check, .int .i64 a.marker, .int .i64 a.type, .int .i64 a.seq, .int .i64 a.time, .int .i64 a.source, .int .i64 b.kind, .int .i64 b.tos, .int .i64 b.id, .int .i64 b.fixed, .int .i64 b.ttl, .int .i64 b.frm, .int .i64 b.to, .int .i64 b.fromPort, .int .i64 b.toPort, .int .i64 b.check, .int .i64 b.marker, .int .i64 b.type, .int .i64 b.seq, .int .i64 b.time, .int .i64 b.source] 24)) (.cells #[.int .i64 s, .int .i64 f] 26) (by simp)).trans (heap_alloc_new w (.cells #[.int .i64 a.kind, .int .i64 a.tos, .int .i64 a.id, .int .i64 a.fixed, .int .i64 a.ttl, .int .i64 a.frm, .int .i64 a.to, .int .i64 a.fromPort, .int .i64 a.toPort, .int .i64 a.check, .int .i64 a.marker, .int .i64 a.type, .int .i64 a.seq, .int .i64 a.time, .int .i64 a.source, .int .i64 b.kind, .int .i64 b.tos, .int .i64 b.id, .int .i64 b.fixed, .int .i64 b.ttl, .int .i64 b.frm, .int .i64 b.to, .int .i64 b.fromPort, .int .i64 b.toPort, .int .i64 b.check, .int .i64 b.marker, .int .i64 b.type, .int .i64 b.seq, .int .i64 b.time, .int .i64 b.source] 24))
  have KD := heap_alloc_new (w.alloc (.cells #[.int .i64 a.kind, .int .i64 a.tos, .int .i64 a.id, .int .i64 a.fixed, .int .i64 a.ttl, .int .i64 a.frm, .int .i64 a.to, .int .i64 a.fromPort, .int .i64 a.toPort, .int .i64 a.check, .int .i64 a.marker, .int .i64 a.type, .int .i64 a.seq, .int .i64 a.time, .int .i64 a.source, .int .i64 b.kind, .int .i64 b.tos, .int .i64 b.id, .int .i64 b.fixed, .int .i64 b.ttl, .int .i64 b.frm, .int .i64 b.to, .int .i64 b.fromPort, .int .i64 b.toPort, .int .i64 b.check, .int .i64 b.marker, .int .i64 b.type, .int .i64 b.seq, .int .i64 b.time, .int .i64 b.source] 24)) (.cells #[.int .i64 s, .int .i64 f] 26)
  rw [show (w.alloc (.cells #[.int .i64 a.kind, .int .i64 a.tos, .int .i64 a.id, .int .i64 a.fixed, .int .i64 a.ttl, .int .i64 a.frm, .int .i64 a.to, .int .i64 a.fromPort, .int .i64 a.toPort, .int .i64 a.check, .int .i64 a.marker, .int .i64 a.type, .int .i64 a.seq, .int .i64 a.time, .int .i64 a.source, .int .i64 b.kind, .int .i64 b.tos, .int .i64 b.id, .int .i64 b.fixed, .int .i64 b.ttl, .int .i64 b.frm, .int .i64 b.to, .int .i64 b.fromPort, .int .i64 b.toPort, .int .i64 b.check, .int .i64 b.marker, .int .i64 b.type, .int .i64 b.seq, .int .i64 b.time, .int .i64 b.source] 24)).heap.size = w.heap.size + 1 by simp] at KD
  replace KA := Lib.hid KA
  replace KD := Lib.hid KD
  go_enter Try.func3, Try.ntmps3
  go_wp2_with fail
  generalize (w.alloc (.cells #[.int .i64 a.kind, .int .i64 a.tos, .int .i64 a.id, .int .i64 a.fixed, .int .i64 a.ttl, .int .i64 a.frm, .int .i64 a.to, .int .i64 a.fromPort, .int .i64 a.toPort, .int .i64 a.check, .int .i64 a.marker, .int .i64 a.type, .int .i64 a.seq, .int .i64 a.time, .int .i64 a.source, .int .i64 b.kind, .int .i64 b.tos, .int .i64 b.id, .int .i64 b.fixed, .int .i64 b.ttl, .int .i64 b.frm, .int .i64 b.to, .int .i64 b.fromPort, .int .i64 b.toPort, .int .i64 b.check, .int .i64 b.marker, .int .i64 b.type, .int .i64 b.seq, .int .i64 b.time, .int .i64 b.source] 24)).alloc (.cells #[.int .i64 s, .int .i64 f] 26) = W0 at BW KA KD ⊢
  have ha := cells_of KA.out
  go_cut [7, 8] (fun s7 s8 wx => ∃ k1 k2 : Nat, s7 = .pointer (some ⟨k1, 0, none⟩) ∧ s8 = .pointer (some ⟨k2, 0, none⟩) ∧ AB wx k1 k2 (w.heap.size + 1) a b s f ∧ Below w.heap.size w wx)
  case first =>
    clear CW C1 C2 C3 C4 C5 C6 C7 C8 C9 C10 C11 C12 E1 E2 E3 KA
    as_aux_lemma =>
      go_region_held3 (fun w' => w'.cell? ⟨w.heap.size, 0, none⟩ = some (.int .i64 a.kind) ∧ w'.cell? ⟨w.heap.size, 1, none⟩ = some (.int .i64 a.tos) ∧ w'.cell? ⟨w.heap.size, 2, none⟩ = some (.int .i64 a.id) ∧ w'.cell? ⟨w.heap.size, 3, none⟩ = some (.int .i64 a.fixed) ∧ w'.cell? ⟨w.heap.size, 4, none⟩ = some (.int .i64 a.ttl) ∧ w'.cell? ⟨w.heap.size, 5, none⟩ = some (.int .i64 a.frm) ∧ w'.cell? ⟨w.heap.size, 6, none⟩ = some (.int .i64 a.to) ∧ w'.cell? ⟨w.heap.size, 7, none⟩ = some (.int .i64 a.fromPort) ∧ w'.cell? ⟨w.heap.size, 8, none⟩ = some (.int .i64 a.toPort) ∧ w'.cell? ⟨w.heap.size, 9, none⟩ = some (.int .i64 a.check) ∧ w'.cell? ⟨w.heap.size, 10, none⟩ = some (.int .i64 a.marker) ∧ w'.cell? ⟨w.heap.size, 11, none⟩ = some (.int .i64 a.type) ∧ w'.cell? ⟨w.heap.size, 12, none⟩ = some (.int .i64 a.seq) ∧ w'.cell? ⟨w.heap.size, 13, none⟩ = some (.int .i64 a.time) ∧ w'.cell? ⟨w.heap.size, 14, none⟩ = some (.int .i64 a.source) ∧ w'.cell? ⟨w.heap.size, 15, none⟩ = some (.int .i64 b.kind) ∧ w'.cell? ⟨w.heap.size, 16, none⟩ = some (.int .i64 b.tos) ∧ w'.cell? ⟨w.heap.size, 17, none⟩ = some (.int .i64 b.id) ∧ w'.cell? ⟨w.heap.size, 18, none⟩ = some (.int .i64 b.fixed) ∧ w'.cell? ⟨w.heap.size, 19, none⟩ = some (.int .i64 b.ttl) ∧ w'.cell? ⟨w.heap.size, 20, none⟩ = some (.int .i64 b.frm) ∧ w'.cell? ⟨w.heap.size, 21, none⟩ = some (.int .i64 b.to) ∧ w'.cell? ⟨w.heap.size, 22, none⟩ = some (.int .i64 b.fromPort) ∧ w'.cell? ⟨w.heap.size, 23, none⟩ = some (.int .i64 b.toPort) ∧ w'.cell? ⟨w.heap.size, 24, none⟩ = some (.int .i64 b.check) ∧ w'.cell? ⟨w.heap.size, 25, none⟩ = some (.int .i64 b.marker) ∧ w'.cell? ⟨w.heap.size, 26, none⟩ = some (.int .i64 b.type) ∧ w'.cell? ⟨w.heap.size, 27, none⟩ = some (.int .i64 b.seq) ∧ w'.cell? ⟨w.heap.size, 28, none⟩ = some (.int .i64 b.time) ∧ w'.cell? ⟨w.heap.size, 29, none⟩ = some (.int .i64 b.source)) (first | exact ⟨ha 0, ha 1, ha 2, ha 3, ha 4, ha 5, ha 6, ha 7, ha 8, ha 9, ha 10, ha 11, ha 12, ha 13, ha 14, ha 15, ha 16, ha 17, ha 18, ha 19, ha 20, ha 21, ha 22, ha 23, ha 24, ha 25, ha 26, ha 27, ha 28, ha 29⟩ | go_keep) (fail)
      all_goals go_wp2
      all_goals go_meet
      all_goals first
        | exact ⟨W0.heap.size, W0.heap.size + 1, rfl, rfl, (AB.laid1 W0 a b s f KD.out).drew, ((BW.out.alloc BW.out.size _).alloc (by simp; exact Nat.le_succ_of_le BW.out.size) _).drew⟩
        | exact ⟨W0.heap.size + 1, W0.heap.size, rfl, rfl, (AB.laid2 W0 a b s f KD.out).drew, ((BW.out.alloc BW.out.size _).alloc (by simp; exact Nat.le_succ_of_le BW.out.size) _).drew⟩
  case rest =>
    obtain ⟨k1, k2, rfl, rfl, hA, hB⟩ := hcut
    clear ha KA KD BW
    have A0 := Lib.hid hA
    have B0 := Lib.hid hB
    clear hA hB
    generalize w.heap.size + 1 = k3 at A0 ⊢
    go_wp2_with fail
    refine wp_region_noPanic ?_
    refine wp_region_held_drew (S := (fun W => AB W k1 k2 k3 a b s f)) (by kernel_rfl) A0.out.drew (fun hHeld => ?_)
    refine wpAnyH_ready (rs := [0]) (by kernel_rfl) (by simp) ?_
    refine AllReadyH.cons rfl (fun K hK => ?_) AllReadyH.nil
    go_simp
    go_at_call 8
    refine (CW.out _).mono ?_; rintro e v1 ⟨rfl, hb⟩; have A1 := Lib.hid (A0.out.drew.below hb); have B1 := Lib.hid (B0.out.drew.trans (hb.mono B0.out.drew.size)); clear hb A0 B0
    refine hK.out _ _ (A1.out) (fun hHeld => ?_)
    clear hK K
    as_aux_lemma =>
      refine take_lit (i := 1) (v := (.bool true)) 14 rfl rfl (by kernel_rfl) (by kernel_rfl) (by kernel_rfl) (fun _ _ _ h => h) (Or.inl ⟨by rfl, fun w hSw => by go_simp⟩) (by assumption) ?_
      simp only [Act.put, List.setIfInBounds_toArray, List.set_cons_zero, List.set_cons_succ]
      refine take_lit (i := 2) (v := (.agg #[.int .i64 a.kind, .int .i64 a.tos, .int .i64 a.id, .int .i64 a.fixed, .int .i64 a.ttl, .int .i64 a.frm, .int .i64 a.to, .int .i64 a.fromPort, .int .i64 a.toPort, .int .i64 a.check, .int .i64 a.marker, .int .i64 a.type, .int .i64 a.seq, .int .i64 a.time, .int .i64 a.source])) 15 rfl rfl (by kernel_rfl) (by kernel_rfl) (by kernel_rfl) (fun _ _ _ h => h) (yieldsIf_load_mid (by rfl) _ _ rfl _ _ rfl _ _ (fun W p => AB.ra p) Try.underlying23 rfl info_hd) (by assumption) ?_
      simp only [Act.put, List.setIfInBounds_toArray, List.set_cons_zero, List.set_cons_succ]
      refine take_lit (i := 3) (v := (.agg #[.int .i64 b.kind, .int .i64 b.tos, .int .i64 b.id, .int .i64 b.fixed, .int .i64 b.ttl, .int .i64 b.frm, .int .i64 b.to, .int .i64 b.fromPort, .int .i64 b.toPort, .int .i64 b.check, .int .i64 b.marker, .int .i64 b.type, .int .i64 b.seq, .int .i64 b.time, .int .i64 b.source])) 16 rfl rfl (by kernel_rfl) (by kernel_rfl) (by kernel_rfl) (fun _ _ _ h => h) (yieldsIf_load_mid (by rfl) _ _ rfl _ _ rfl _ _ (fun W p => AB.rb p) Try.underlying23 rfl info_hd) (by assumption) ?_
      simp only [Act.put, List.setIfInBounds_toArray, List.set_cons_zero, List.set_cons_succ]
      refine take_lit (i := 5) (v := (.agg #[.int .i64 a.kind, .int .i64 a.tos, .int .i64 a.id, .int .i64 a.fixed, .int .i64 a.ttl, .int .i64 a.frm, .int .i64 a.to, .int .i64 a.fromPort, .int .i64 a.toPort, .int .i64 a.check, .int .i64 a.marker, .int .i64 a.type, .int .i64 a.seq, .int .i64 a.time, .int .i64 a.source])) 18 rfl rfl (by kernel_rfl) (by kernel_rfl) (by kernel_rfl) (fun _ _ _ h => h) (yieldsIf_load_mid (by rfl) _ _ rfl _ _ rfl _ _ (fun W p => AB.ra p) Try.underlying23 rfl info_hd) (by assumption) ?_
      simp only [Act.put, List.setIfInBounds_toArray, List.set_cons_zero, List.set_cons_succ]
      refine take_lit (i := 6) (v := (.agg #[.int .i64 b.kind, .int .i64 b.tos, .int .i64 b.id, .int .i64 b.fixed, .int .i64 b.ttl, .int .i64 b.frm, .int .i64 b.to, .int .i64 b.fromPort, .int .i64 b.toPort, .int .i64 b.check, .int .i64 b.marker, .int .i64 b.type, .int .i64 b.seq, .int .i64 b.time, .int .i64 b.source])) 19 rfl rfl (by kernel_rfl) (by kernel_rfl) (by kernel_rfl) (fun _ _ _ h => h) (yieldsIf_load_mid (by rfl) _ _ rfl _ _ rfl _ _ (fun W p => AB.rb p) Try.underlying23 rfl info_hd) (by assumption) ?_
      simp only [Act.put, List.setIfInBounds_toArray, List.set_cons_zero, List.set_cons_succ]
      refine wpAnyH_ready (rs := [4]) (by kernel_rfl) (by simp) ?_
      refine AllReadyH.cons rfl (fun K hK => ?_) AllReadyH.nil
      go_simp
      go_at_call 9
      refine (C1.out _).mono ?_; rintro e v2 ⟨rfl, hb⟩; have A2 := Lib.hid (A1.out.below hb); have B2 := Lib.hid (B1.out.trans (hb.mono B1.out.size)); clear hb A1 B1
      refine hK.out _ _ (A2.out) (fun hHeld => ?_)
      clear hK K
      as_aux_lemma =>
        refine wpAnyH_ready (rs := [7]) (by kernel_rfl) (by simp) ?_
        refine AllReadyH.cons rfl (fun K hK => ?_) AllReadyH.nil
        go_simp
        go_at_call 10
        refine (C2.out _).mono ?_; rintro e v3 ⟨rfl, hb⟩; have A3 := Lib.hid (A2.out.below hb); have B3 := Lib.hid (B2.out.trans (hb.mono B2.out.size)); clear hb A2 B2
        refine hK.out _ _ (A3.out) (fun hHeld => ?_)
        clear hK K
        as_aux_lemma =>
          refine take_lit (i := 8) (v := (.bool true)) 21 rfl rfl (by kernel_rfl) (by kernel_rfl) (by kernel_rfl) (fun _ _ _ h => h) (Or.inl ⟨by rfl, fun w hSw => by go_simp⟩) (by assumption) ?_
          simp only [Act.put, List.setIfInBounds_toArray, List.set_cons_zero, List.set_cons_succ]
          refine take_lit (i := 9) (v := (.bool true)) 22 rfl rfl (by kernel_rfl) (by kernel_rfl) (by kernel_rfl) (fun _ _ _ h => h) (Or.inl ⟨by rfl, fun w hSw => by go_simp⟩) (by assumption) ?_
          simp only [Act.put, List.setIfInBounds_toArray, List.set_cons_zero, List.set_cons_succ]
          refine take_lit (i := 10) (v := (.bool true)) 23 rfl rfl (by kernel_rfl) (by kernel_rfl) (by kernel_rfl) (fun _ _ _ h => h) (Or.inl ⟨by rfl, fun w hSw => by go_simp⟩) (by assumption) ?_
          simp only [Act.put, List.setIfInBounds_toArray, List.set_cons_zero, List.set_cons_succ]
          refine take_lit (i := 11) (v := (.agg #[.int .i64 a.kind, .int .i64 a.tos, .int .i64 a.id, .int .i64 a.fixed, .int .i64 a.ttl, .int .i64 a.frm, .int .i64 a.to, .int .i64 a.fromPort, .int .i64 a.toPort, .int .i64 a.check, .int .i64 a.marker, .int .i64 a.type, .int .i64 a.seq, .int .i64 a.time, .int .i64 a.source])) 24 rfl rfl (by kernel_rfl) (by kernel_rfl) (by kernel_rfl) (fun _ _ _ h => h) (yieldsIf_load_mid (by rfl) _ _ rfl _ _ rfl _ _ (fun W p => AB.ra p) Try.underlying23 rfl info_hd) (by assumption) ?_
          simp only [Act.put, List.setIfInBounds_toArray, List.set_cons_zero, List.set_cons_succ]
          refine take_lit (i := 13) (v := (.agg #[.int .i64 a.kind, .int .i64 a.tos, .int .i64 a.id, .int .i64 a.fixed, .int .i64 a.ttl, .int .i64 a.frm, .int .i64 a.to, .int .i64 a.fromPort, .int .i64 a.toPort, .int .i64 a.check, .int .i64 a.marker, .int .i64 a.type, .int .i64 a.seq, .int .i64 a.time, .int .i64 a.source])) 26 rfl rfl (by kernel_rfl) (by kernel_rfl) (by kernel_rfl) (fun _ _ _ h => h) (yieldsIf_load_mid (by rfl) _ _ rfl _ _ rfl _ _ (fun W p => AB.ra p) Try.underlying23 rfl info_hd) (by assumption) ?_
          simp only [Act.put, List.setIfInBounds_toArray, List.set_cons_zero, List.set_cons_succ]
          refine wpAnyH_ready (rs := [12]) (by kernel_rfl) (by simp) ?_
          refine AllReadyH.cons rfl (fun K hK => ?_) AllReadyH.nil
          go_simp
          go_at_call 11
          refine (C3.out _).mono ?_; rintro e v4 ⟨rfl, hb⟩; have A4 := Lib.hid (A3.out.below hb); have B4 := Lib.hid (B3.out.trans (hb.mono B3.out.size)); clear hb A3 B3
          refine hK.out _ _ (A4.out) (fun hHeld => ?_)
          clear hK K
          as_aux_lemma =>
            refine wpAnyH_ready (rs := [14]) (by kernel_rfl) (by simp) ?_
            refine AllReadyH.cons rfl (fun K hK => ?_) AllReadyH.nil
            go_simp
            go_at_call 12
            refine (C4.out _).mono ?_; rintro e v5 ⟨rfl, hb⟩; have A5 := Lib.hid (A4.out.below hb); have B5 := Lib.hid (B4.out.trans (hb.mono B4.out.size)); clear hb A4 B4
            refine hK.out _ _ (A5.out) (fun hHeld => ?_)
            clear hK K
            as_aux_lemma =>
              refine take_lit (i := 15) (v := (.bool true)) 28 rfl rfl (by kernel_rfl) (by kernel_rfl) (by kernel_rfl) (fun _ _ _ h => h) (Or.inl ⟨by rfl, fun w hSw => by go_simp⟩) (by assumption) ?_
              simp only [Act.put, List.setIfInBounds_toArray, List.set_cons_zero, List.set_cons_succ]
              refine take_lit (i := 16) (v := (.bool true)) 29 rfl rfl (by kernel_rfl) (by kernel_rfl) (by kernel_rfl) (fun _ _ _ h => h) (Or.inl ⟨by rfl, fun w hSw => by go_simp⟩) (by assumption) ?_
              simp only [Act.put, List.setIfInBounds_toArray, List.set_cons_zero, List.set_cons_succ]
              refine take_lit (i := 17) (v := (.bool true)) 30 rfl rfl (by kernel_rfl) (by kernel_rfl) (by kernel_rfl) (fun _ _ _ h => h) (Or.inl ⟨by rfl, fun w hSw => by go_simp⟩) (by assumption) ?_
              simp only [Act.put, List.setIfInBounds_toArray, List.set_cons_zero, List.set_cons_succ]
              refine take_lit (i := 18) (v := (.agg #[.int .i64 a.kind, .int .i64 a.tos, .int .i64 a.id, .int .i64 a.fixed, .int .i64 a.ttl, .int .i64 a.frm, .int .i64 a.to, .int .i64 a.fromPort, .int .i64 a.toPort, .int .i64 a.check, .int .i64 a.marker, .int .i64 a.type, .int .i64 a.seq, .int .i64 a.time, .int .i64 a.source])) 31 rfl rfl (by kernel_rfl) (by kernel_rfl) (by kernel_rfl) (fun _ _ _ h => h) (yieldsIf_load_mid (by rfl) _ _ rfl _ _ rfl _ _ (fun W p => AB.ra p) Try.underlying23 rfl info_hd) (by assumption) ?_
              simp only [Act.put, List.setIfInBounds_toArray, List.set_cons_zero, List.set_cons_succ]
              refine take_lit (i := 20) (v := (.agg #[.int .i64 a.kind, .int .i64 a.tos, .int .i64 a.id, .int .i64 a.fixed, .int .i64 a.ttl, .int .i64 a.frm, .int .i64 a.to, .int .i64 a.fromPort, .int .i64 a.toPort, .int .i64 a.check, .int .i64 a.marker, .int .i64 a.type, .int .i64 a.seq, .int .i64 a.time, .int .i64 a.source])) 33 rfl rfl (by kernel_rfl) (by kernel_rfl) (by kernel_rfl) (fun _ _ _ h => h) (yieldsIf_load_mid (by rfl) _ _ rfl _ _ rfl _ _ (fun W p => AB.ra p) Try.underlying23 rfl info_hd) (by assumption) ?_
              simp only [Act.put, List.setIfInBounds_toArray, List.set_cons_zero, List.set_cons_succ]
              refine wpAnyH_ready (rs := [19]) (by kernel_rfl) (by simp) ?_
              refine AllReadyH.cons rfl (fun K hK => ?_) AllReadyH.nil
              go_simp
              go_at_call 13
              refine (C5.out _).mono ?_; rintro e v6 ⟨rfl, hb⟩; have A6 := Lib.hid (A5.out.below hb); have B6 := Lib.hid (B5.out.trans (hb.mono B5.out.size)); clear hb A5 B5
              refine hK.out _ _ (A6.out) (fun hHeld => ?_)
              clear hK K
              as_aux_lemma =>
                refine wpAnyH_ready (rs := [21]) (by kernel_rfl) (by simp) ?_
                refine AllReadyH.cons rfl (fun K hK => ?_) AllReadyH.nil
                go_simp
                go_at_call 14
                refine (C6.out _).mono ?_; rintro e v7 ⟨rfl, hb⟩; have A7 := Lib.hid (A6.out.below hb); have B7 := Lib.hid (B6.out.trans (hb.mono B6.out.size)); clear hb A6 B6
                refine hK.out _ _ (A7.out) (fun hHeld => ?_)
                clear hK K
                as_aux_lemma =>
                  refine take_lit (i := 22) (v := (.bool true)) 35 rfl rfl (by kernel_rfl) (by kernel_rfl) (by kernel_rfl) (fun _ _ _ h => h) (Or.inl ⟨by rfl, fun w hSw => by go_simp⟩) (by assumption) ?_
                  simp only [Act.put, List.setIfInBounds_toArray, List.set_cons_zero, List.set_cons_succ]
                  refine take_lit (i := 23) (v := (.bool true)) 36 rfl rfl (by kernel_rfl) (by kernel_rfl) (by kernel_rfl) (fun _ _ _ h => h) (Or.inl ⟨by rfl, fun w hSw => by go_simp⟩) (by assumption) ?_
                  simp only [Act.put, List.setIfInBounds_toArray, List.set_cons_zero, List.set_cons_succ]
                  refine take_lit (i := 24) (v := (.bool true)) 37 rfl rfl (by kernel_rfl) (by kernel_rfl) (by kernel_rfl) (fun _ _ _ h => h) (Or.inl ⟨by rfl, fun w hSw => by go_simp⟩) (by assumption) ?_
                  simp only [Act.put, List.setIfInBounds_toArray, List.set_cons_zero, List.set_cons_succ]
                  refine take_lit (i := 25) (v := (.agg #[.int .i64 a.kind, .int .i64 a.tos, .int .i64 a.id, .int .i64 a.fixed, .int .i64 a.ttl, .int .i64 a.frm, .int .i64 a.to, .int .i64 a.fromPort, .int .i64 a.toPort, .int .i64 a.check, .int .i64 a.marker, .int .i64 a.type, .int .i64 a.seq, .int .i64 a.time, .int .i64 a.source])) 38 rfl rfl (by kernel_rfl) (by kernel_rfl) (by kernel_rfl) (fun _ _ _ h => h) (yieldsIf_load_mid (by rfl) _ _ rfl _ _ rfl _ _ (fun W p => AB.ra p) Try.underlying23 rfl info_hd) (by assumption) ?_
                  simp only [Act.put, List.setIfInBounds_toArray, List.set_cons_zero, List.set_cons_succ]
                  refine take_lit (i := 26) (v := (.agg #[.int .i64 b.kind, .int .i64 b.tos, .int .i64 b.id, .int .i64 b.fixed, .int .i64 b.ttl, .int .i64 b.frm, .int .i64 b.to, .int .i64 b.fromPort, .int .i64 b.toPort, .int .i64 b.check, .int .i64 b.marker, .int .i64 b.type, .int .i64 b.seq, .int .i64 b.time, .int .i64 b.source])) 39 rfl rfl (by kernel_rfl) (by kernel_rfl) (by kernel_rfl) (fun _ _ _ h => h) (yieldsIf_load_mid (by rfl) _ _ rfl _ _ rfl _ _ (fun W p => AB.rb p) Try.underlying23 rfl info_hd) (by assumption) ?_
                  simp only [Act.put, List.setIfInBounds_toArray, List.set_cons_zero, List.set_cons_succ]
                  refine take_lit (i := 28) (v := (.agg #[.int .i64 a.kind, .int .i64 a.tos, .int .i64 a.id, .int .i64 a.fixed, .int .i64 a.ttl, .int .i64 a.frm, .int .i64 a.to, .int .i64 a.fromPort, .int .i64 a.toPort, .int .i64 a.check, .int .i64 a.marker, .int .i64 a.type, .int .i64 a.seq, .int .i64 a.time, .int .i64 a.source])) 41 rfl rfl (by kernel_rfl) (by kernel_rfl) (by kernel_rfl) (fun _ _ _ h => h) (yieldsIf_load_mid (by rfl) _ _ rfl _ _ rfl _ _ (fun W p => AB.ra p) Try.underlying23 rfl info_hd) (by assumption) ?_
                  simp only [Act.put, List.setIfInBounds_toArray, List.set_cons_zero, List.set_cons_succ]
                  refine take_lit (i := 29) (v := (.agg #[.int .i64 b.kind, .int .i64 b.tos, .int .i64 b.id, .int .i64 b.fixed, .int .i64 b.ttl, .int .i64 b.frm, .int .i64 b.to, .int .i64 b.fromPort, .int .i64 b.toPort, .int .i64 b.check, .int .i64 b.marker, .int .i64 b.type, .int .i64 b.seq, .int .i64 b.time, .int .i64 b.source])) 42 rfl rfl (by kernel_rfl) (by kernel_rfl) (by kernel_rfl) (fun _ _ _ h => h) (yieldsIf_load_mid (by rfl) _ _ rfl _ _ rfl _ _ (fun W p => AB.rb p) Try.underlying23 rfl info_hd) (by assumption) ?_
                  simp only [Act.put, List.setIfInBounds_toArray, List.set_cons_zero, List.set_cons_succ]
                  refine wpAnyH_ready (rs := [27]) (by kernel_rfl) (by simp) ?_
                  refine AllReadyH.cons rfl (fun K hK => ?_) AllReadyH.nil
                  go_simp
                  go_at_call 15
                  refine (C7.out _).mono ?_; rintro e v8 ⟨rfl, hb⟩; have A8 := Lib.hid (A7.out.below hb); have B8 := Lib.hid (B7.out.trans (hb.mono B7.out.size)); clear hb A7 B7
                  refine hK.out _ _ (A8.out) (fun hHeld => ?_)
                  clear hK K
                  as_aux_lemma =>
                    refine wpAnyH_ready (rs := [30]) (by kernel_rfl) (by simp) ?_
                    refine AllReadyH.cons rfl (fun K hK => ?_) AllReadyH.nil
                    go_simp
                    go_at_call 16
                    refine (C8.out _).mono ?_; rintro e v9 ⟨rfl, hb⟩; have A9 := Lib.hid (A8.out.below hb); have B9 := Lib.hid (B8.out.trans (hb.mono B8.out.size)); clear hb A8 B8
                    refine hK.out _ _ (A9.out) (fun hHeld => ?_)
                    clear hK K
                    as_aux_lemma =>
                      refine take_lit (i := 31) (v := (.bool true)) 44 rfl rfl (by kernel_rfl) (by kernel_rfl) (by kernel_rfl) (fun _ _ _ h => h) (Or.inl ⟨by rfl, fun w hSw => by go_simp⟩) (by assumption) ?_
                      simp only [Act.put, List.setIfInBounds_toArray, List.set_cons_zero, List.set_cons_succ]
                      refine take_lit (i := 32) (v := (.bool true)) 45 rfl rfl (by kernel_rfl) (by kernel_rfl) (by kernel_rfl) (fun _ _ _ h => h) (Or.inl ⟨by rfl, fun w hSw => by go_simp⟩) (by assumption) ?_
                      simp only [Act.put, List.setIfInBounds_toArray, List.set_cons_zero, List.set_cons_succ]
                      refine take_lit (i := 33) (v := (.bool true)) 46 rfl rfl (by kernel_rfl) (by kernel_rfl) (by kernel_rfl) (fun _ _ _ h => h) (Or.inl ⟨by rfl, fun w hSw => by go_simp⟩) (by assumption) ?_
                      simp only [Act.put, List.setIfInBounds_toArray, List.set_cons_zero, List.set_cons_succ]
                      refine take_lit (i := 34) (v := (.agg #[.int .i64 s, .int .i64 f])) 47 rfl rfl (by kernel_rfl) (by kernel_rfl) (by kernel_rfl) (fun _ _ _ h => h) (yieldsIf_load_mid (by rfl) _ _ rfl _ _ rfl _ _ (fun W p => AB.rd p) Try.underlying26 rfl info_dyn) (by assumption) ?_
                      simp only [Act.put, List.setIfInBounds_toArray, List.set_cons_zero, List.set_cons_succ]
                      refine take_lit (i := 35) (v := (.agg #[.int .i64 a.kind, .int .i64 a.tos, .int .i64 a.id, .int .i64 a.fixed, .int .i64 a.ttl, .int .i64 a.frm, .int .i64 a.to, .int .i64 a.fromPort, .int .i64 a.toPort, .int .i64 a.check, .int .i64 a.marker, .int .i64 a.type, .int .i64 a.seq, .int .i64 a.time, .int .i64 a.source])) 48 rfl rfl (by kernel_rfl) (by kernel_rfl) (by kernel_rfl) (fun _ _ _ h => h) (yieldsIf_load_mid (by rfl) _ _ rfl _ _ rfl _ _ (fun W p => AB.ra p) Try.underlying23 rfl info_hd) (by assumption) ?_
                      simp only [Act.put, List.setIfInBounds_toArray, List.set_cons_zero, List.set_cons_succ]
                      refine take_lit (i := 36) (v := (.int .i64 n)) 49 rfl rfl (by kernel_rfl) (by kernel_rfl) (by kernel_rfl) (fun _ _ _ h => h) (Or.inl ⟨by rfl, fun w hSw => by go_simp⟩) (by assumption) ?_
                      simp only [Act.put, List.setIfInBounds_toArray, List.set_cons_zero, List.set_cons_succ]
                      refine take_lit (i := 38) (v := (.agg #[.int .i64 s, .int .i64 f])) 51 rfl rfl (by kernel_rfl) (by kernel_rfl) (by kernel_rfl) (fun _ _ _ h => h) (yieldsIf_load_mid (by rfl) _ _ rfl _ _ rfl _ _ (fun W p => AB.rd p) Try.underlying26 rfl info_dyn) (by assumption) ?_
                      simp only [Act.put, List.setIfInBounds_toArray, List.set_cons_zero, List.set_cons_succ]
                      refine take_lit (i := 39) (v := (.agg #[.int .i64 a.kind, .int .i64 a.tos, .int .i64 a.id, .int .i64 a.fixed, .int .i64 a.ttl, .int .i64 a.frm, .int .i64 a.to, .int .i64 a.fromPort, .int .i64 a.toPort, .int .i64 a.check, .int .i64 a.marker, .int .i64 a.type, .int .i64 a.seq, .int .i64 a.time, .int .i64 a.source])) 52 rfl rfl (by kernel_rfl) (by kernel_rfl) (by kernel_rfl) (fun _ _ _ h => h) (yieldsIf_load_mid (by rfl) _ _ rfl _ _ rfl _ _ (fun W p => AB.ra p) Try.underlying23 rfl info_hd) (by assumption) ?_
                      simp only [Act.put, List.setIfInBounds_toArray, List.set_cons_zero, List.set_cons_succ]
                      refine take_lit (i := 40) (v := (.int .i64 n)) 53 rfl rfl (by kernel_rfl) (by kernel_rfl) (by kernel_rfl) (fun _ _ _ h => h) (Or.inl ⟨by rfl, fun w hSw => by go_simp⟩) (by assumption) ?_
                      simp only [Act.put, List.setIfInBounds_toArray, List.set_cons_zero, List.set_cons_succ]
                      refine wpAnyH_ready (rs := [37]) (by kernel_rfl) (by simp) ?_
                      refine AllReadyH.cons rfl (fun K hK => ?_) AllReadyH.nil
                      go_simp
                      go_at_call 17
                      refine (C9.out _).mono ?_; rintro e v10 ⟨rfl, hb⟩; have A10 := Lib.hid (A9.out.below hb); have B10 := Lib.hid (B9.out.trans (hb.mono B9.out.size)); clear hb A9 B9
                      refine hK.out _ _ (A10.out) (fun hHeld => ?_)
                      clear hK K
                      as_aux_lemma =>
                        refine wpAnyH_ready (rs := [41]) (by kernel_rfl) (by simp) ?_
                        refine AllReadyH.cons rfl (fun K hK => ?_) AllReadyH.nil
                        go_simp
                        go_at_call 18
                        refine (C10.out _).mono ?_; rintro e v11 ⟨rfl, hb⟩; have A11 := Lib.hid (A10.out.below hb); have B11 := Lib.hid (B10.out.trans (hb.mono B10.out.size)); clear hb A10 B10
                        refine hK.out _ _ (A11.out) (fun hHeld => ?_)
                        clear hK K
                        as_aux_lemma =>
                          refine take_lit (i := 42) (v := (.bool true)) 55 rfl rfl (by kernel_rfl) (by kernel_rfl) (by kernel_rfl) (fun _ _ _ h => h) (Or.inl ⟨by rfl, fun w hSw => by go_simp⟩) (by assumption) ?_
                          simp only [Act.put, List.setIfInBounds_toArray, List.set_cons_zero, List.set_cons_succ]
                          refine take_lit (i := 43) (v := (.bool true)) 56 rfl rfl (by kernel_rfl) (by kernel_rfl) (by kernel_rfl) (fun _ _ _ h => h) (Or.inl ⟨by rfl, fun w hSw => by go_simp⟩) (by assumption) ?_
                          simp only [Act.put, List.setIfInBounds_toArray, List.set_cons_zero, List.set_cons_succ]
                          refine take_lit (i := 44) (v := (.bool true)) 57 rfl rfl (by kernel_rfl) (by kernel_rfl) (by kernel_rfl) (fun _ _ _ h => h) (Or.inl ⟨by rfl, fun w hSw => by go_simp⟩) (by assumption) ?_
                          simp only [Act.put, List.setIfInBounds_toArray, List.set_cons_zero, List.set_cons_succ]
                          refine take_lit (i := 45) (v := (.agg #[.int .i64 a.kind, .int .i64 a.tos, .int .i64 a.id, .int .i64 a.fixed, .int .i64 a.ttl, .int .i64 a.frm, .int .i64 a.to, .int .i64 a.fromPort, .int .i64 a.toPort, .int .i64 a.check, .int .i64 a.marker, .int .i64 a.type, .int .i64 a.seq, .int .i64 a.time, .int .i64 a.source])) 58 rfl rfl (by kernel_rfl) (by kernel_rfl) (by kernel_rfl) (fun _ _ _ h => h) (yieldsIf_load_mid (by rfl) _ _ rfl _ _ rfl _ _ (fun W p => AB.ra p) Try.underlying23 rfl info_hd) (by assumption) ?_
                          simp only [Act.put, List.setIfInBounds_toArray, List.set_cons_zero, List.set_cons_succ]
                          refine take_lit (i := 46) (v := (.agg #[.int .i64 b.kind, .int .i64 b.tos, .int .i64 b.id, .int .i64 b.fixed, .int .i64 b.ttl, .int .i64 b.frm, .int .i64 b.to, .int .i64 b.fromPort, .int .i64 b.toPort, .int .i64 b.check, .int .i64 b.marker, .int .i64 b.type, .int .i64 b.seq, .int .i64 b.time, .int .i64 b.source])) 59 rfl rfl (by kernel_rfl) (by kernel_rfl) (by kernel_rfl) (fun _ _ _ h => h) (yieldsIf_load_mid (by rfl) _ _ rfl _ _ rfl _ _ (fun W p => AB.rb p) Try.underlying23 rfl info_hd) (by assumption) ?_
                          simp only [Act.put, List.setIfInBounds_toArray, List.set_cons_zero, List.set_cons_succ]
                          refine take_lit (i := 48) (v := (.agg #[.int .i64 a.kind, .int .i64 a.tos, .int .i64 a.id, .int .i64 a.fixed, .int .i64 a.ttl, .int .i64 a.frm, .int .i64 a.to, .int .i64 a.fromPort, .int .i64 a.toPort, .int .i64 a.check, .int .i64 a.marker, .int .i64 a.type, .int .i64 a.seq, .int .i64 a.time, .int .i64 a.source])) 61 rfl rfl (by kernel_rfl) (by kernel_rfl) (by kernel_rfl) (fun _ _ _ h => h) (yieldsIf_load_mid (by rfl) _ _ rfl _ _ rfl _ _ (fun W p => AB.ra p) Try.underlying23 rfl info_hd) (by assumption) ?_
                          simp only [Act.put, List.setIfInBounds_toArray, List.set_cons_zero, List.set_cons_succ]
                          refine take_lit (i := 49) (v := (.agg #[.int .i64 b.kind, .int .i64 b.tos, .int .i64 b.id, .int .i64 b.fixed, .int .i64 b.ttl, .int .i64 b.frm, .int .i64 b.to, .int .i64 b.fromPort, .int .i64 b.toPort, .int .i64 b.check, .int .i64 b.marker, .int .i64 b.type, .int .i64 b.seq, .int .i64 b.time, .int .i64 b.source])) 62 rfl rfl (by kernel_rfl) (by kernel_rfl) (by kernel_rfl) (fun _ _ _ h => h) (yieldsIf_load_mid (by rfl) _ _ rfl _ _ rfl _ _ (fun W p => AB.rb p) Try.underlying23 rfl info_hd) (by assumption) ?_
                          simp only [Act.put, List.setIfInBounds_toArray, List.set_cons_zero, List.set_cons_succ]
                          refine wpAnyH_ready (rs := [47]) (by kernel_rfl) (by simp) ?_
                          refine AllReadyH.cons rfl (fun K hK => ?_) AllReadyH.nil
                          go_simp
                          go_at_call 19
                          refine (C11.out _).mono ?_; rintro e v12 ⟨rfl, hb⟩; have A12 := Lib.hid (A11.out.below hb); have B12 := Lib.hid (B11.out.trans (hb.mono B11.out.size)); clear hb A11 B11
                          refine hK.out _ _ (A12.out) (fun hHeld => ?_)
                          clear hK K
                          as_aux_lemma =>
                            refine wpAnyH_ready (rs := [50]) (by kernel_rfl) (by simp) ?_
                            refine AllReadyH.cons rfl (fun K hK => ?_) AllReadyH.nil
                            go_simp
                            go_at_call 20
                            refine (C12.out _).mono ?_; rintro e v13 ⟨rfl, hb⟩; have A13 := Lib.hid (A12.out.below hb); have B13 := Lib.hid (B12.out.trans (hb.mono B12.out.size)); clear hb A12 B12
                            refine hK.out _ _ (A13.out) (fun hHeld => ?_)
                            clear hK K
                            as_aux_lemma =>
                              refine take_lit (i := 51) (v := (.bool true)) 64 rfl rfl (by kernel_rfl) (by kernel_rfl) (by kernel_rfl) (fun _ _ _ h => h) (Or.inl ⟨by rfl, fun w hSw => by go_simp⟩) (by assumption) ?_
                              simp only [Act.put, List.setIfInBounds_toArray, List.set_cons_zero, List.set_cons_succ]
                              refine take_lit (i := 52) (v := (.bool true)) 65 rfl rfl (by kernel_rfl) (by kernel_rfl) (by kernel_rfl) (fun _ _ _ h => h) (Or.inl ⟨by rfl, fun w hSw => by go_simp⟩) (by assumption) ?_
                              simp only [Act.put, List.setIfInBounds_toArray, List.set_cons_zero, List.set_cons_succ]
                              refine take_lit (i := 53) (v := (.bool true)) 6 rfl rfl (by kernel_rfl) (by kernel_rfl) (by kernel_rfl) (fun _ _ _ h => h) (Or.inl ⟨by rfl, fun w hSw => by go_simp⟩) (by assumption) ?_
                              simp only [Act.put, List.setIfInBounds_toArray, List.set_cons_zero, List.set_cons_succ]
                              refine wpAnyH_done (by kernel_rfl) ?_ _
                              refine NoPanic.normal ?_
                              go_wp2
                              go_ret
                              exact ⟨rfl, B13.out⟩

theorem own : ownKnob Try.prog.godebug = none := by kernel_rfl
theorem laidOut : laidOutB Try.prog = true := by kernel_rfl
theorem read_hd2 : Try.prog.readableRec 24 = true := by kernel_rfl
theorem read_dyn : Try.prog.readableRec 26 = true := by kernel_rfl
theorem read_int : Try.prog.readableRec 3 = true := by kernel_rfl
theorem cells_hd2 : Try.prog.cellsOf 24 = 30 := by kernel_rfl
theorem cells_dyn : Try.prog.cellsOf 26 = 2 := by kernel_rfl
theorem cells_hd : Try.prog.cellsOf 23 = 15 := by kernel_rfl
theorem lt_hd2 : 24 < Try.prog.types.size := of_decide_eq_true (by kernel_rfl)
theorem lt_dyn : 26 < Try.prog.types.size := of_decide_eq_true (by kernel_rfl)
theorem lt_int : 3 < Try.prog.types.size := of_decide_eq_true (by kernel_rfl)

set_option maxRecDepth 100000 in
theorem lifted (os : Os) (started : os.Started) (H : Type) (enc : TypeId × Value → H) :
    ReturnsInHanded {} Try.checked os 3 .any (Rows.flowExactSpec.pre6 enc Try.prog Try.f3 Rows.flowExactRow.domain false) (Rows.flowExactSpec.post enc Try.prog Try.f3 false true false false) := by
  refine law_lifted (C := Try.checked) (rt := 4) [24, 26, 3] own started (by kernel_rfl) Try.func3 laidOut (by rw [Try.params3])
    (fun t ht => by simp only [List.mem_cons, List.not_mem_nil, or_false] at ht; rcases ht with rfl | rfl | rfl <;> first | exact ⟨read_hd2, lt_hd2⟩ | exact ⟨read_dyn, lt_dyn⟩ | exact ⟨read_int, lt_int⟩) rfl Try.underlying4 rfl
    (fun ds h => by match ds, h with | [d0, d1, d2], _ => rfl)
    (ChangeSpec.witness6 (enc := enc) (C := Try.checked) false ⟨#[], #[.agg #[.int .i64 0, .int .i64 0, .int .i64 0, .int .i64 0, .int .i64 0, .int .i64 0, .int .i64 0, .int .i64 0, .int .i64 0, .int .i64 0, .int .i64 0, .int .i64 0, .int .i64 0, .int .i64 0, .int .i64 0, .int .i64 0, .int .i64 0, .int .i64 0, .int .i64 0, .int .i64 0, .int .i64 0, .int .i64 0, .int .i64 0, .int .i64 0, .int .i64 0, .int .i64 0, .int .i64 0, .int .i64 0, .int .i64 0, .int .i64 0], .agg #[.int .i64 0, .int .i64 0], .int .i64 0], []⟩ 8 (by kernel_rfl) (by kernel_rfl) (by kernel_rfl) (by kernel_rfl)) ?_
  intro W base args ds p hval hA hsz
  obtain ⟨v0, vs0, d0, ds0, p0, q0, hargs, rfl, rfl, h0, r0⟩ := trodAll_cons hA
  obtain ⟨v1, vs1, d1, ds1, p1, q1, rfl, rfl, rfl, h1, r1⟩ := trodAll_cons r0
  obtain ⟨v2, vs2, d2, ds2, p2, q2, rfl, rfl, rfl, h2, r2⟩ := trodAll_cons r1
  obtain ⟨rfl, rfl, rfl⟩ := trodAll_nil r2
  obtain rfl : args = #[v0, v1, v2] := by cases args; simp_all
  obtain ⟨ya0, yb0, rfl, fa0, fb0⟩ := open_hd2 Try.underlying24 Try.underlying23 (by kernel_rfl) cells_hd cells_hd2 (fun f hf => by simp only [List.mem_cons, List.not_mem_nil, or_false] at hf; rcases hf with rfl | rfl | rfl | rfl | rfl | rfl | rfl | rfl | rfl | rfl | rfl | rfl | rfl | rfl | rfl <;> exact Try.underlying3) (hval 0 _ v0 rfl rfl) h0
  obtain ⟨xs1, xf1, rfl, bs1, bf1⟩ := open_two Try.underlying26 (by kernel_rfl) cells_dyn (fun f hf => by simp only [List.mem_cons, List.not_mem_nil, or_false] at hf; rcases hf with rfl | rfl <;> exact Try.underlying3) (hval 1 _ v1 rfl rfl) h1
  obtain ⟨x2, rfl, b2⟩ := open_i64 Try.underlying3 (hval 2 _ v2 rfl rfl) h2
  exact walk W ya0 yb0 fa0 fb0 xs1 xf1 x2 b2

/-- THE STATEMENT -/
theorem proved : Rows.FlowExactSaid :=
  OpenClaim.holds_of_wide 3 Try.f3 rfl rfl rfl rfl rfl rfl rfl ⟨rfl, rfl, rfl, rfl, rfl⟩ rfl rfl rfl rfl rfl (by kernel_rfl) Try.func3 (by kernel_rfl)
    (of_decide_eq_true (by kernel_rfl)) (by unfold Func.isWrapper; first | (rw [if_pos (by decide +kernel)]; kernel_rfl) | (rw [if_neg (by decide +kernel)]; exact ⟨rfl, rfl⟩))
    (fun os started H enc _ => lifted os started H enc)
#print axioms proved
end Go.Proofs.Ytphekpkkeiaccaa.flowExact
