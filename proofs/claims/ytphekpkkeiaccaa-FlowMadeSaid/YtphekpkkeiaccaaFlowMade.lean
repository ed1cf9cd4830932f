/-
  FlowMade: the same as FlowExact for headers that follow each other, and odd ones. No condition.
-/
import Derived.Test.YtphekpkkeiaccaaFlowExact
import Derived.Test.YtphekpkkeiaccaaDiceFollow
import Derived.Test.YtphekpkkeiaccaaDiceDyn
import Derived.Test.YtphekpkkeiaccaaDiceOdd
import Derived.Test.YtphekpkkeiaccaaHdStep
import Derived.Test.YtphekpkkeiaccaaFlBuild2
import Derived.Test.YtphekpkkeiaccaaDiceHeader2
import Derived.Deep.DeepCutAuto
namespace Go.Proofs.Ytphekpkkeiaccaa.flowMade
open Go Go.RowKit Go.ChangeShapes Go.WideShapes Go.ChangeAt

structure MA (w : World) (g : Nat) (W : World) (ka : Nat) (a : Hd) : Prop where
  pa : W.heap[ka]? = some (.cells #[.int .i64 a.kind, .int .i64 a.tos, .int .i64 a.id, .int .i64 a.fixed, .int .i64 a.ttl, .int .i64 a.frm, .int .i64 a.to, .int .i64 a.fromPort, .int .i64 a.toPort, .int .i64 a.check, .int .i64 a.marker, .int .i64 a.type, .int .i64 a.seq, .int .i64 a.time, .int .i64 a.source] 23 (0, 0))
  bl : Below w.heap.size w W
  d : DiceIn W g
  wg : w.heap.size ≤ g
  ga : g < ka
theorem MA.below {W W' : World} {w : World} {g : Nat} {ka : Nat} {a : Hd} (pq : MA w g W ka a) (hb : Below W.heap.size W W') : MA w g W' ka a :=
  ⟨(hb.block _ (lt_of_block pq.pa)).trans pq.pa, pq.bl.trans (hb.mono pq.bl.size), pq.d.keep hb, pq.wg, pq.ga⟩
theorem MA.alloc {W : World} {w : World} {g : Nat} {ka : Nat} {a : Hd} (pq : MA w g W ka a) (o : Obj) : MA w g (W.alloc o) ka a := pq.below ((Below.refl _ _).alloc (Nat.le_refl _) o)
theorem MA.drew {W : World} {w : World} {g : Nat} {ka : Nat} {a : Hd} (pq : MA w g W ka a) : MA w g W.drew ka a := ⟨pq.pa, pq.bl.drew, pq.d.drew, pq.wg, pq.ga⟩
theorem MA.row {W W' : World} {w : World} {g : Nat} {ka : Nat} {a : Hd} (pq : MA w g W ka a) {bb : Nat} (hg : W.grownBy W' (some bb)) (hw : w.heap.size ≤ bb) (hgb : g < bb) (na : ka ≠ bb) : MA w g W' ka a :=
  ⟨(hg.block _ (lt_of_block pq.pa) (by simpa using na)).trans pq.pa, pq.bl.trans (Below.of_row hg (fun q hq => by cases hq; exact hw) pq.bl.size), pq.d.keepRow hg (fun q hq => by cases hq; exact hgb), pq.wg, pq.ga⟩
theorem MA.next {W W' : World} {w : World} {g : Nat} {ka : Nat} {a : Hd} (pq : MA w g W ka a) (hd : DiceIn W' g) (hg : W.grownBy W' (some g)) : MA w g W' ka a :=
  ⟨(hg.block _ (lt_of_block pq.pa) (by have := pq.ga; simp; omega)).trans pq.pa, pq.bl.trans (Below.of_row hg (fun q hq => by cases hq; exact pq.wg) pq.bl.size), hd, pq.wg, pq.ga⟩
theorem MA.ra {W : World} {w : World} {g : Nat} {ka : Nat} {a : Hd} (pq : MA w g W ka a) : W.rangeAt ka 0 [.int .i64 a.kind, .int .i64 a.tos, .int .i64 a.id, .int .i64 a.fixed, .int .i64 a.ttl, .int .i64 a.frm, .int .i64 a.to, .int .i64 a.fromPort, .int .i64 a.toPort, .int .i64 a.check, .int .i64 a.marker, .int .i64 a.type, .int .i64 a.seq, .int .i64 a.time, .int .i64 a.source] := World.rangeAt_of_block pq.pa 0 15
structure MB (w : World) (g : Nat) (W : World) (ka kb : Nat) (a b : Hd) : Prop where
  pa : W.heap[ka]? = some (.cells #[.int .i64 a.kind, .int .i64 a.tos, .int .i64 a.id, .int .i64 a.fixed, .int .i64 a.ttl, .int .i64 a.frm, .int .i64 a.to, .int .i64 a.fromPort, .int .i64 a.toPort, .int .i64 a.check, .int .i64 a.marker, .int .i64 a.type, .int .i64 a.seq, .int .i64 a.time, .int .i64 a.source] 23 (0, 0))
  pb : W.heap[kb]? = some (.cells #[.int .i64 b.kind, .int .i64 b.tos, .int .i64 b.id, .int .i64 b.fixed, .int .i64 b.ttl, .int .i64 b.frm, .int .i64 b.to, .int .i64 b.fromPort, .int .i64 b.toPort, .int .i64 b.check, .int .i64 b.marker, .int .i64 b.type, .int .i64 b.seq, .int .i64 b.time, .int .i64 b.source] 23 (0, 0))
  bl : Below w.heap.size w W
  d : DiceIn W g
  wg : w.heap.size ≤ g
  ga : g < ka
  gb : g < kb
theorem MB.below {W W' : World} {w : World} {g : Nat} {ka kb : Nat} {a b : Hd} (pq : MB w g W ka kb a b) (hb : Below W.heap.size W W') : MB w g W' ka kb a b :=
  ⟨(hb.block _ (lt_of_block pq.pa)).trans pq.pa, (hb.block _ (lt_of_block pq.pb)).trans pq.pb, pq.bl.trans (hb.mono pq.bl.size), pq.d.keep hb, pq.wg, pq.ga, pq.gb⟩
theorem MB.alloc {W : World} {w : World} {g : Nat} {ka kb : Nat} {a b : Hd} (pq : MB w g W ka kb a b) (o : Obj) : MB w g (W.alloc o) ka kb a b := pq.below ((Below.refl _ _).alloc (Nat.le_refl _) o)
theorem MB.drew {W : World} {w : World} {g : Nat} {ka kb : Nat} {a b : Hd} (pq : MB w g W ka kb a b) : MB w g W.drew ka kb a b := ⟨pq.pa, pq.pb, pq.bl.drew, pq.d.drew, pq.wg, pq.ga, pq.gb⟩
theorem MB.row {W W' : World} {w : World} {g : Nat} {ka kb : Nat} {a b : Hd} (pq : MB w g W ka kb a b) {bb : Nat} (hg : W.grownBy W' (some bb)) (hw : w.heap.size ≤ bb) (hgb : g < bb) (na : ka ≠ bb) (nb : kb ≠ bb) : MB w g W' ka kb a b :=
  ⟨(hg.block _ (lt_of_block pq.pa) (by simpa using na)).trans pq.pa, (hg.block _ (lt_of_block pq.pb) (by simpa using nb)).trans pq.pb, pq.bl.trans (Below.of_row hg (fun q hq => by cases hq; exact hw) pq.bl.size), pq.d.keepRow hg (fun q hq => by cases hq; exact hgb), pq.wg, pq.ga, pq.gb⟩
theorem MB.next {W W' : World} {w : World} {g : Nat} {ka kb : Nat} {a b : Hd} (pq : MB w g W ka kb a b) (hd : DiceIn W' g) (hg : W.grownBy W' (some g)) : MB w g W' ka kb a b :=
  ⟨(hg.block _ (lt_of_block pq.pa) (by have := pq.ga; simp; omega)).trans pq.pa, (hg.block _ (lt_of_block pq.pb) (by have := pq.gb; simp; omega)).trans pq.pb, pq.bl.trans (Below.of_row hg (fun q hq => by cases hq; exact pq.wg) pq.bl.size), hd, pq.wg, pq.ga, pq.gb⟩
theorem MB.ra {W : World} {w : World} {g : Nat} {ka kb : Nat} {a b : Hd} (pq : MB w g W ka kb a b) : W.rangeAt ka 0 [.int .i64 a.kind, .int .i64 a.tos, .int .i64 a.id, .int .i64 a.fixed, .int .i64 a.ttl, .int .i64 a.frm, .int .i64 a.to, .int .i64 a.fromPort, .int .i64 a.toPort, .int .i64 a.check, .int .i64 a.marker, .int .i64 a.type, .int .i64 a.seq, .int .i64 a.time, .int .i64 a.source] := World.rangeAt_of_block pq.pa 0 15
theorem MB.rb {W : World} {w : World} {g : Nat} {ka kb : Nat} {a b : Hd} (pq : MB w g W ka kb a b) : W.rangeAt kb 0 [.int .i64 b.kind, .int .i64 b.tos, .int .i64 b.id, .int .i64 b.fixed, .int .i64 b.ttl, .int .i64 b.frm, .int .i64 b.to, .int .i64 b.fromPort, .int .i64 b.toPort, .int .i64 b.check, .int .i64 b.marker, .int .i64 b.type, .int .i64 b.seq, .int .i64 b.time, .int .i64 b.source] := World.rangeAt_of_block pq.pb 0 15
structure MX (w : World) (g : Nat) (W : World) (ka kb kx : Nat) (a b : Hd) (sx fx : Int) : Prop where
  pa : W.heap[ka]? = some (.cells #[.int .i64 a.kind, .int .i64 a.tos, .int .i64 a.id, .int .i64 a.fixed, .int .i64 a.ttl, .int .i64 a.frm, .int .i64 a.to, .int .i64 a.fromPort, .int .i64 a.toPort, .int .i64 a.check, .int .i64 a.marker, .int .i64 a.type, .int .i64 a.seq, .int .i64 a.time, .int .i64 a.source] 23 (0, 0))
  pb : W.heap[kb]? = some (.cells #[.int .i64 b.kind, .int .i64 b.tos, .int .i64 b.id, .int .i64 b.fixed, .int .i64 b.ttl, .int .i64 b.frm, .int .i64 b.to, .int .i64 b.fromPort, .int .i64 b.toPort, .int .i64 b.check, .int .i64 b.marker, .int .i64 b.type, .int .i64 b.seq, .int .i64 b.time, .int .i64 b.source] 23 (0, 0))
  px : W.heap[kx]? = some (.cells #[.int .i64 sx, .int .i64 fx] 26 (0, 0))
  bl : Below w.heap.size w W
  d : DiceIn W g
  wg : w.heap.size ≤ g
  ga : g < ka
  gb : g < kb
  gx : g < kx
theorem MX.below {W W' : World} {w : World} {g : Nat} {ka kb kx : Nat} {a b : Hd} {sx fx : Int} (pq : MX w g W ka kb kx a b sx fx) (hb : Below W.heap.size W W') : MX w g W' ka kb kx a b sx fx :=
  ⟨(hb.block _ (lt_of_block pq.pa)).trans pq.pa, (hb.block _ (lt_of_block pq.pb)).trans pq.pb, (hb.block _ (lt_of_block pq.px)).trans pq.px, pq.bl.trans (hb.mono pq.bl.size), pq.d.keep hb, pq.wg, pq.ga, pq.gb, pq.gx⟩
theorem MX.alloc {W : World} {w : World} {g : Nat} {ka kb kx : Nat} {a b : Hd} {sx fx : Int} (pq : MX w g W ka kb kx a b sx fx) (o : Obj) : MX w g (W.alloc o) ka kb kx a b sx fx := pq.below ((Below.refl _ _).alloc (Nat.le_refl _) o)
theorem MX.drew {W : World} {w : World} {g : Nat} {ka kb kx : Nat} {a b : Hd} {sx fx : Int} (pq : MX w g W ka kb kx a b sx fx) : MX w g W.drew ka kb kx a b sx fx := ⟨pq.pa, pq.pb, pq.px, pq.bl.drew, pq.d.drew, pq.wg, pq.ga, pq.gb, pq.gx⟩
theorem MX.row {W W' : World} {w : World} {g : Nat} {ka kb kx : Nat} {a b : Hd} {sx fx : Int} (pq : MX w g W ka kb kx a b sx fx) {bb : Nat} (hg : W.grownBy W' (some bb)) (hw : w.heap.size ≤ bb) (hgb : g < bb) (na : ka ≠ bb) (nb : kb ≠ bb) (nx : kx ≠ bb) : MX w g W' ka kb kx a b sx fx :=
  ⟨(hg.block _ (lt_of_block pq.pa) (by simpa using na)).trans pq.pa, (hg.block _ (lt_of_block pq.pb) (by simpa using nb)).trans pq.pb, (hg.block _ (lt_of_block pq.px) (by simpa using nx)).trans pq.px, pq.bl.trans (Below.of_row hg (fun q hq => by cases hq; exact hw) pq.bl.size), pq.d.keepRow hg (fun q hq => by cases hq; exact hgb), pq.wg, pq.ga, pq.gb, pq.gx⟩
theorem MX.next {W W' : World} {w : World} {g : Nat} {ka kb kx : Nat} {a b : Hd} {sx fx : Int} (pq : MX w g W ka kb kx a b sx fx) (hd : DiceIn W' g) (hg : W.grownBy W' (some g)) : MX w g W' ka kb kx a b sx fx :=
  ⟨(hg.block _ (lt_of_block pq.pa) (by have := pq.ga; simp; omega)).trans pq.pa, (hg.block _ (lt_of_block pq.pb) (by have := pq.gb; simp; omega)).trans pq.pb, (hg.block _ (lt_of_block pq.px) (by have := pq.gx; simp; omega)).trans pq.px, pq.bl.trans (Below.of_row hg (fun q hq => by cases hq; exact pq.wg) pq.bl.size), hd, pq.wg, pq.ga, pq.gb, pq.gx⟩
theorem MX.ra {W : World} {w : World} {g : Nat} {ka kb kx : Nat} {a b : Hd} {sx fx : Int} (pq : MX w g W ka kb kx a b sx fx) : W.rangeAt ka 0 [.int .i64 a.kind, .int .i64 a.tos, .int .i64 a.id, .int .i64 a.fixed, .int .i64 a.ttl, .int .i64 a.frm, .int .i64 a.to, .int .i64 a.fromPort, .int .i64 a.toPort, .int .i64 a.check, .int .i64 a.marker, .int .i64 a.type, .int .i64 a.seq, .int .i64 a.time, .int .i64 a.source] := World.rangeAt_of_block pq.pa 0 15
theorem MX.rb {W : World} {w : World} {g : Nat} {ka kb kx : Nat} {a b : Hd} {sx fx : Int} (pq : MX w g W ka kb kx a b sx fx) : W.rangeAt kb 0 [.int .i64 b.kind, .int .i64 b.tos, .int .i64 b.id, .int .i64 b.fixed, .int .i64 b.ttl, .int .i64 b.frm, .int .i64 b.to, .int .i64 b.fromPort, .int .i64 b.toPort, .int .i64 b.check, .int .i64 b.marker, .int .i64 b.type, .int .i64 b.seq, .int .i64 b.time, .int .i64 b.source] := World.rangeAt_of_block pq.pb 0 15
theorem MX.rx {W : World} {w : World} {g : Nat} {ka kb kx : Nat} {a b : Hd} {sx fx : Int} (pq : MX w g W ka kb kx a b sx fx) : W.rangeAt kx 0 [.int .i64 sx, .int .i64 fx] := World.rangeAt_of_block pq.px 0 2
structure M3 (w : World) (W : World) (ka kb kx : Nat) (a b : Hd) (sx fx : Int) : Prop where
  pa : W.heap[ka]? = some (.cells #[.int .i64 a.kind, .int .i64 a.tos, .int .i64 a.id, .int .i64 a.fixed, .int .i64 a.ttl, .int .i64 a.frm, .int .i64 a.to, .int .i64 a.fromPort, .int .i64 a.toPort, .int .i64 a.check, .int .i64 a.marker, .int .i64 a.type, .int .i64 a.seq, .int .i64 a.time, .int .i64 a.source] 23 (0, 0))
  pb : W.heap[kb]? = some (.cells #[.int .i64 b.kind, .int .i64 b.tos, .int .i64 b.id, .int .i64 b.fixed, .int .i64 b.ttl, .int .i64 b.frm, .int .i64 b.to, .int .i64 b.fromPort, .int .i64 b.toPort, .int .i64 b.check, .int .i64 b.marker, .int .i64 b.type, .int .i64 b.seq, .int .i64 b.time, .int .i64 b.source] 23 (0, 0))
  px : W.heap[kx]? = some (.cells #[.int .i64 sx, .int .i64 fx] 26 (0, 0))
  bl : Below w.heap.size w W
theorem M3.below {W W' : World} {w : World} {ka kb kx : Nat} {a b : Hd} {sx fx : Int} (pq : M3 w W ka kb kx a b sx fx) (hb : Below W.heap.size W W') : M3 w W' ka kb kx a b sx fx :=
  ⟨(hb.block _ (lt_of_block pq.pa)).trans pq.pa, (hb.block _ (lt_of_block pq.pb)).trans pq.pb, (hb.block _ (lt_of_block pq.px)).trans pq.px, pq.bl.trans (hb.mono pq.bl.size)⟩
theorem M3.alloc {W : World} {w : World} {ka kb kx : Nat} {a b : Hd} {sx fx : Int} (pq : M3 w W ka kb kx a b sx fx) (o : Obj) : M3 w (W.alloc o) ka kb kx a b sx fx := pq.below ((Below.refl _ _).alloc (Nat.le_refl _) o)
theorem M3.drew {W : World} {w : World} {ka kb kx : Nat} {a b : Hd} {sx fx : Int} (pq : M3 w W ka kb kx a b sx fx) : M3 w W.drew ka kb kx a b sx fx := ⟨pq.pa, pq.pb, pq.px, pq.bl.drew⟩
theorem M3.row {W W' : World} {w : World} {ka kb kx : Nat} {a b : Hd} {sx fx : Int} (pq : M3 w W ka kb kx a b sx fx) {bb : Nat} (hg : W.grownBy W' (some bb)) (hw : w.heap.size ≤ bb) (na : ka ≠ bb) (nb : kb ≠ bb) (nx : kx ≠ bb) : M3 w W' ka kb kx a b sx fx :=
  ⟨(hg.block _ (lt_of_block pq.pa) (by simpa using na)).trans pq.pa, (hg.block _ (lt_of_block pq.pb) (by simpa using nb)).trans pq.pb, (hg.block _ (lt_of_block pq.px) (by simpa using nx)).trans pq.px, pq.bl.trans (Below.of_row hg (fun q hq => by cases hq; exact hw) pq.bl.size)⟩
theorem M3.ra {W : World} {w : World} {ka kb kx : Nat} {a b : Hd} {sx fx : Int} (pq : M3 w W ka kb kx a b sx fx) : W.rangeAt ka 0 [.int .i64 a.kind, .int .i64 a.tos, .int .i64 a.id, .int .i64 a.fixed, .int .i64 a.ttl, .int .i64 a.frm, .int .i64 a.to, .int .i64 a.fromPort, .int .i64 a.toPort, .int .i64 a.check, .int .i64 a.marker, .int .i64 a.type, .int .i64 a.seq, .int .i64 a.time, .int .i64 a.source] := World.rangeAt_of_block pq.pa 0 15
theorem M3.rb {W : World} {w : World} {ka kb kx : Nat} {a b : Hd} {sx fx : Int} (pq : M3 w W ka kb kx a b sx fx) : W.rangeAt kb 0 [.int .i64 b.kind, .int .i64 b.tos, .int .i64 b.id, .int .i64 b.fixed, .int .i64 b.ttl, .int .i64 b.frm, .int .i64 b.to, .int .i64 b.fromPort, .int .i64 b.toPort, .int .i64 b.check, .int .i64 b.marker, .int .i64 b.type, .int .i64 b.seq, .int .i64 b.time, .int .i64 b.source] := World.rangeAt_of_block pq.pb 0 15
theorem M3.rx {W : World} {w : World} {ka kb kx : Nat} {a b : Hd} {sx fx : Int} (pq : M3 w W ka kb kx a b sx fx) : W.rangeAt kx 0 [.int .i64 sx, .int .i64 fx] := World.rangeAt_of_block pq.px 0 2
theorem info_hd : (Try.prog.info? 23).map (·.size) = some 15 := by kernel_rfl
theorem info_dyn : (Try.prog.info? 26).map (·.size) = some 2 := by kernel_rfl

theorem MX.setb {w : World} {g : Nat} {W W' : World} {ka kb kx : Nat} {a b y : Hd} {sx fx : Int} (p : MX w g W ka kb kx a b sx fx) (hn : ka ≠ kb) (hx : kb ≠ kx) (k : W'.heap[kb]? = some (.cells #[.int .i64 y.kind, .int .i64 y.tos, .int .i64 y.id, .int .i64 y.fixed, .int .i64 y.ttl, .int .i64 y.frm, .int .i64 y.to, .int .i64 y.fromPort, .int .i64 y.toPort, .int .i64 y.check, .int .i64 y.marker, .int .i64 y.type, .int .i64 y.seq, .int .i64 y.time, .int .i64 y.source] 23 (0, 0))) (q : W.grownBy W' (some kb)) : MX w g W' ka kb kx a y sx fx :=
  ⟨(q.block _ (lt_of_block p.pa) (by simpa using hn)).trans p.pa, k, (q.block _ (lt_of_block p.px) (by simpa using (Ne.symm hx))).trans p.px, p.bl.trans (Below.of_row q (fun i hi => by cases hi; have := p.gb; have := p.wg; omega) p.bl.size), p.d.keepRow q (fun i hi => by cases hi; exact p.gb), p.wg, p.ga, p.gb, p.gx⟩
theorem MX.setf {w : World} {g : Nat} {W : World} {ka kb kx : Nat} {a b : Hd} {sx fx : Int} (p : MX w g W ka kb kx a b sx fx) (hn : ka ≠ kx ∧ kb ≠ kx) (v : Int) : MX w g (W.setCell ⟨kx, 1, none⟩ (.int .i64 v)) ka kb kx a b sx v := by
  have r := blk_set p.px 1 (.int .i64 v)
  simp only [List.setIfInBounds_toArray, List.set_cons_succ, List.set_cons_zero] at r
  exact ⟨blk_set_ne p.pa hn.1 1 _, blk_set_ne p.pb hn.2 1 _, r, p.bl.setCell (Nat.le_trans p.wg (Nat.le_of_lt p.gx)) _, p.d.set p.gx 1 _, p.wg, p.ga, p.gb, p.gx⟩

set_option maxRecDepth 100000 in
set_option maxHeartbeats 12800000 in
theorem walk (w : World) (a0 : Option Addr) (n cap : Nat) (t : List Int) (hs : Sl .i64 w a0 n t) (num : Int) (bnum : -9223372036854775808 ≤ num ∧ num ≤ 9223372036854775807) :
    Calls Try.prog 4 #[.slice a0 n cap, .int .i64 num] w fun e w' => e = .returned (.bool true) ∧ Below w.heap.size w w' := by
  have hr := hs.reach
  have Hs := Lib.hid hs
  have AW := Lib.hid awake_any
  clear hs
  by_cases hn : n ≤ 400
  · have hd : decide (n ≤ 400) = true := decide_eq_true hn
    go_enter Try.func4, Try.ntmps4
    go_wp2_with (go_at_call 21; refine (light_any _ _ _ _ (by omega)).mono ?_; rintro e w' ⟨rfl, rfl⟩)
    refine (roll_in a0 n cap t _ Hs.out).mono ?_
    rintro e w1 ⟨rfl, hd1, hb1, hz1⟩
    have D1 := Lib.hid hd1
    have B1 := Lib.hid hb1
    have hz1' : w.heap.size < w1.heap.size := by omega
    clear hd1 hb1 hz1 hd AW Hs hr
    have AW := Lib.hid awake_any
    go_wp2_with fail
    refine (next_in w.heap.size 4 _ D1.out (by omega) (by omega)).mono ?_
    rintro e w2 ⟨k, rfl, k0, k1, hd2, hg2⟩
    have D2 := Lib.hid hd2
    have B2 := Lib.hid (B1.out.trans (Below.of_but hg2 (Nat.le_refl _) (by omega)))
    have hz2 := Nat.lt_of_lt_of_le hz1' hg2.size
    clear hd2 hg2
    go_wp2_with fail
    refine (header_made w.heap.size k _ D2.out k0 (by omega)).mono ?_
    rintro e w3 ⟨a, rfl, va, ma, hd3, hg3⟩
    have VA := Lib.hid va
    have hz3 := Nat.lt_of_lt_of_le hz2 hg3.size
    have L4 := Lib.hid (show MA w w.heap.size (w3.alloc (.cells #[.int .i64 a.kind, .int .i64 a.tos, .int .i64 a.id, .int .i64 a.fixed, .int .i64 a.ttl, .int .i64 a.frm, .int .i64 a.to, .int .i64 a.fromPort, .int .i64 a.toPort, .int .i64 a.check, .int .i64 a.marker, .int .i64 a.type, .int .i64 a.seq, .int .i64 a.time, .int .i64 a.source] 23)) w3.heap.size a from
      ⟨heap_alloc_new w3 _, (B2.out.trans (Below.of_but hg3 (Nat.le_refl _) (by omega))).alloc (by have := hg3.size; omega) _, hd3.alloc _, Nat.le_refl _, hz3⟩)
    clear hd3 hg3 va ma D1 D2 B1 B2 hz1' hz2 hz3 k0 k1
    go_upto_region 5 with fail
    generalize w3.alloc (.cells #[.int .i64 a.kind, .int .i64 a.tos, .int .i64 a.id, .int .i64 a.fixed, .int .i64 a.ttl, .int .i64 a.frm, .int .i64 a.to, .int .i64 a.fromPort, .int .i64 a.toPort, .int .i64 a.check, .int .i64 a.marker, .int .i64 a.type, .int .i64 a.seq, .int .i64 a.time, .int .i64 a.source] 23) = w4 at L4 ⊢
    generalize w3.heap.size = ka at L4 ⊢
    go_cut [7] (fun s7 wx => ∃ (kb : Nat) (y : Hd), s7 = .pointer (some ⟨kb, 0, none⟩) ∧ y.Fits ∧ ka ≠ kb ∧ MB w w.heap.size wx ka kb a y)
    case first =>
      clear AW
      as_aux_lemma =>
        refine wp_region_noPanic ?_
        refine wp_region_held_drew (S := (fun W => MA w w.heap.size W ka a)) (by kernel_rfl) L4.out.drew (fun hHeld => ?_)
        refine take_lit (i := 0) (v := (.pointer (some ⟨w.heap.size, 0, none⟩))) 19 rfl rfl (by kernel_rfl) (by kernel_rfl) (by kernel_rfl) (fun _ _ _ h => h) (Or.inl ⟨by rfl, fun w hSw => by go_simp⟩) (by assumption) ?_
        simp only [Act.put, List.setIfInBounds_toArray, List.set_cons_zero, List.set_cons_succ]
        refine take_lit (i := 1) (v := (.agg #[.int .i64 a.kind, .int .i64 a.tos, .int .i64 a.id, .int .i64 a.fixed, .int .i64 a.ttl, .int .i64 a.frm, .int .i64 a.to, .int .i64 a.fromPort, .int .i64 a.toPort, .int .i64 a.check, .int .i64 a.marker, .int .i64 a.type, .int .i64 a.seq, .int .i64 a.time, .int .i64 a.source])) 20 rfl rfl (by kernel_rfl) (by kernel_rfl) (by kernel_rfl) (fun _ _ _ h => h) (yieldsIf_load_mid (by rfl) _ _ rfl _ _ rfl _ _ (fun W p => MA.ra p) Try.underlying23 rfl info_hd) (by assumption) ?_
        simp only [Act.put, List.setIfInBounds_toArray, List.set_cons_zero, List.set_cons_succ]
        refine take_lit (i := 2) (v := (.pointer (some ⟨w.heap.size, 0, none⟩))) 21 rfl rfl (by kernel_rfl) (by kernel_rfl) (by kernel_rfl) (fun _ _ _ h => h) (Or.inl ⟨by rfl, fun w hSw => by go_simp⟩) (by assumption) ?_
        simp only [Act.put, List.setIfInBounds_toArray, List.set_cons_zero, List.set_cons_succ]
        refine wpAnyH_ready (rs := [3, 5]) (by kernel_rfl) (by simp) ?_
        refine AllReadyH.cons rfl (fun K hK => ?_) (AllReadyH.cons rfl (fun K hK => ?_) AllReadyH.nil)
        · go_simp
          go_at_call 26
          refine (one_in w.heap.size 2 _ (MA.d (L4.out.drew)) (by omega) (by omega)).mono ?_
          rintro e v1 ⟨b1, rfl, hd1, hg1⟩
          have A1 := Lib.hid (MA.next (L4.out.drew) hd1 hg1)
          refine hK.out _ _ A1.out (fun hHeld => ?_)
          clear hK K
          refine wpAnyH_ready (rs := [4, 5]) (by kernel_rfl) (by simp) ?_
          refine AllReadyH.cons rfl (fun K hK => ?_) (AllReadyH.cons rfl (fun K hK => ?_) AllReadyH.nil)
          · go_simp
            go_at_call 25
            refine (follow_in w.heap.size a b1 _ (MA.d (A1.out)) VA.out).mono ?_
            rintro e v2 ⟨y, rfl, vy, _fy, hd2, hg2⟩
            have A2 := Lib.hid (MA.next (A1.out) hd2 hg2)
            refine hK.out _ _ A2.out (fun hHeld => ?_)
            clear hK K
            refine wpAnyH_ready (rs := [5]) (by kernel_rfl) (by simp) ?_
            refine AllReadyH.cons rfl (fun K hK => ?_) AllReadyH.nil
            · go_simp
              have KZ2 := heap_alloc_new v2 (.cells #[.int .i64 0, .int .i64 0, .int .i64 0, .int .i64 0, .int .i64 0, .int .i64 0, .int .i64 0, .int .i64 0, .int .i64 0, .int .i64 0, .int .i64 0, .int .i64 0, .int .i64 0, .int .i64 0, .int .i64 0] 23)
              refine hK.out _ _ (MA.alloc (A2.out) _) (fun hHeld => ?_)
              clear hK K
              refine wpAnyH_ready (rs := [6]) (by kernel_rfl) (by simp) ?_
              refine AllReadyH.cons rfl (fun K hK => ?_) AllReadyH.nil
              refine step_store_hd (x := ⟨0, 0, 0, 0, 0, 0, 0, 0, 0, 0, 0, 0, 0, 0, 0⟩) rfl rfl _ _ rfl rfl rfl KZ2 ?_
              intro u KU GU
              have SU := Lib.hid (MA.row (MA.alloc (A2.out) _) GU (MA.bl (A2.out)).size (MA.d (A2.out)).lt (Nat.ne_of_lt (lt_of_block (MA.pa (A2.out)))))
              refine hK.out _ _ SU.out (fun hHeld => ?_)
              clear hK K
              refine wpAnyH_done (by kernel_rfl) ?_ _
              refine NoPanic.normal ?_
              go_wp2
              go_meet
              exact ⟨_, y, rfl, vy.valid.fits, Nat.ne_of_lt (lt_of_block (MA.pa (A2.out))), ⟨SU.out.pa, KU, SU.out.bl, SU.out.d, SU.out.wg, SU.out.ga, (MA.d (A2.out)).lt⟩⟩
          · go_simp
            have KZ1 := heap_alloc_new v1 (.cells #[.int .i64 0, .int .i64 0, .int .i64 0, .int .i64 0, .int .i64 0, .int .i64 0, .int .i64 0, .int .i64 0, .int .i64 0, .int .i64 0, .int .i64 0, .int .i64 0, .int .i64 0, .int .i64 0, .int .i64 0] 23)
            refine hK.out _ _ (MA.alloc (A1.out) _) (fun hHeld => ?_)
            clear hK K
            refine wpAnyH_ready (rs := [4]) (by kernel_rfl) (by simp) ?_
            refine AllReadyH.cons rfl (fun K hK => ?_) AllReadyH.nil
            · go_simp
              go_at_call 25
              refine (follow_in w.heap.size a b1 _ (MA.d (MA.alloc (A1.out) _)) VA.out).mono ?_
              rintro e v2 ⟨y, rfl, vy, _fy, hd2, hg2⟩
              have A2 := Lib.hid (MA.next (MA.alloc (A1.out) _) hd2 hg2)
              have KZ2 := (hg2.block _ (lt_of_block KZ1) (fun e => by have q := MA.d (A1.out); have := q.lt; have e2 := Option.some.inj e; omega)).trans KZ1
              refine hK.out _ _ A2.out (fun hHeld => ?_)
              clear hK K
              refine wpAnyH_ready (rs := [6]) (by kernel_rfl) (by simp) ?_
              refine AllReadyH.cons rfl (fun K hK => ?_) AllReadyH.nil
              refine step_store_hd (x := ⟨0, 0, 0, 0, 0, 0, 0, 0, 0, 0, 0, 0, 0, 0, 0⟩) rfl rfl _ _ rfl rfl rfl KZ2 ?_
              intro u KU GU
              have SU := Lib.hid (MA.row (A2.out) GU (MA.bl (A1.out)).size (MA.d (A1.out)).lt (Nat.ne_of_lt (lt_of_block (MA.pa (A1.out)))))
              refine hK.out _ _ SU.out (fun hHeld => ?_)
              clear hK K
              refine wpAnyH_done (by kernel_rfl) ?_ _
              refine NoPanic.normal ?_
              go_wp2
              go_meet
              exact ⟨_, y, rfl, vy.valid.fits, Nat.ne_of_lt (lt_of_block (MA.pa (A1.out))), ⟨SU.out.pa, KU, SU.out.bl, SU.out.d, SU.out.wg, SU.out.ga, (MA.d (A1.out)).lt⟩⟩
        · go_simp
          have KZ0 : ((w4.alloc (.cells #[.int .i64 0, .int .i64 0, .int .i64 0, .int .i64 0, .int .i64 0, .int .i64 0, .int .i64 0, .int .i64 0, .int .i64 0, .int .i64 0, .int .i64 0, .int .i64 0, .int .i64 0, .int .i64 0, .int .i64 0] 23)).drew).heap[w4.heap.size]? = some (.cells #[.int .i64 0, .int .i64 0, .int .i64 0, .int .i64 0, .int .i64 0, .int .i64 0, .int .i64 0, .int .i64 0, .int .i64 0, .int .i64 0, .int .i64 0, .int .i64 0, .int .i64 0, .int .i64 0, .int .i64 0] 23 (0, 0)) := heap_alloc_new w4 _
          refine hK.out _ _ ((MA.alloc (L4.out) _).drew) (fun hHeld => ?_)
          clear hK K
          refine wpAnyH_ready (rs := [3]) (by kernel_rfl) (by simp) ?_
          refine AllReadyH.cons rfl (fun K hK => ?_) AllReadyH.nil
          · go_simp
            go_at_call 26
            refine (one_in w.heap.size 2 _ (MA.d ((MA.alloc (L4.out) _).drew)) (by omega) (by omega)).mono ?_
            rintro e v1 ⟨b1, rfl, hd1, hg1⟩
            have A1 := Lib.hid (MA.next ((MA.alloc (L4.out) _).drew) hd1 hg1)
            have KZ1 := (hg1.block _ (lt_of_block KZ0) (fun e => by have q := MA.d (L4.out); have := q.lt; have e2 := Option.some.inj e; omega)).trans KZ0
            refine hK.out _ _ A1.out (fun hHeld => ?_)
            clear hK K
            refine wpAnyH_ready (rs := [4]) (by kernel_rfl) (by simp) ?_
            refine AllReadyH.cons rfl (fun K hK => ?_) AllReadyH.nil
            · go_simp
              go_at_call 25
              refine (follow_in w.heap.size a b1 _ (MA.d (A1.out)) VA.out).mono ?_
              rintro e v2 ⟨y, rfl, vy, _fy, hd2, hg2⟩
              have A2 := Lib.hid (MA.next (A1.out) hd2 hg2)
              have KZ2 := (hg2.block _ (lt_of_block KZ1) (fun e => by have q := MA.d (L4.out); have := q.lt; have e2 := Option.some.inj e; omega)).trans KZ1
              refine hK.out _ _ A2.out (fun hHeld => ?_)
              clear hK K
              refine wpAnyH_ready (rs := [6]) (by kernel_rfl) (by simp) ?_
              refine AllReadyH.cons rfl (fun K hK => ?_) AllReadyH.nil
              refine step_store_hd (x := ⟨0, 0, 0, 0, 0, 0, 0, 0, 0, 0, 0, 0, 0, 0, 0⟩) rfl rfl _ _ rfl rfl rfl KZ2 ?_
              intro u KU GU
              have SU := Lib.hid (MA.row (A2.out) GU (MA.bl (L4.out)).size (MA.d (L4.out)).lt (Nat.ne_of_lt (lt_of_block (MA.pa (L4.out)))))
              refine hK.out _ _ SU.out (fun hHeld => ?_)
              clear hK K
              refine wpAnyH_done (by kernel_rfl) ?_ _
              refine NoPanic.normal ?_
              go_wp2
              go_meet
              exact ⟨_, y, rfl, vy.valid.fits, Nat.ne_of_lt (lt_of_block (MA.pa (L4.out))), ⟨SU.out.pa, KU, SU.out.bl, SU.out.d, SU.out.wg, SU.out.ga, (MA.d (L4.out)).lt⟩⟩
    case rest =>
      obtain ⟨kb, y, rfl, fy, hne, hL⟩ := hcut
      clear L4
      have FY := Lib.hid fy
      have L5 := Lib.hid hL
      clear fy hL
      have ca := cells_of L5.out.pa
      go_upto_region 7 with (go_at_call 27; refine (dynamic_in w.heap.size _ _ L5.out.d).mono ?_; rintro e w6 ⟨s, f, rfl, hdy, hd, hg⟩; have L6 := Lib.hid (L5.out.next hd hg); clear hdy hd hg ca)
      have L7 := Lib.hid (show MX w w.heap.size (w6.alloc (.cells #[.int .i64 s, .int .i64 f] 26)) ka kb w6.heap.size a y s f from
        ⟨(L6.out.alloc _).pa, (L6.out.alloc _).pb, heap_alloc_new w6 _, (L6.out.alloc _).bl, (L6.out.alloc _).d, Nat.le_refl _, L6.out.ga, L6.out.gb, L6.out.d.lt⟩)
      have nx : ka ≠ w6.heap.size ∧ kb ≠ w6.heap.size := ⟨Nat.ne_of_lt (lt_of_block L6.out.pa), Nat.ne_of_lt (lt_of_block L6.out.pb)⟩
      clear L5 L6
      generalize w6.alloc (.cells #[.int .i64 s, .int .i64 f] 26) = w7 at L7 ⊢
      generalize w6.heap.size = kx at L7 nx ⊢
      go_upto_if 29 with (go_at_call 26; refine (one_in w.heap.size 6 _ L7.out.d (by omega) (by omega)).mono ?_; rintro e w8 ⟨b1, rfl, hd, hg⟩; have L8 := Lib.hid (L7.out.next hd hg); clear hd hg)
      clear L7
      have cb := cells_of L8.out.pb
      have fb := frozen_of L8.out.pb
      go_cut [] (fun wx => ∃ z : Hd, z.Fits ∧ MX w w.heap.size wx ka kb kx a z s f)
      case first =>
        clear AW
        cases b1 with
        | true =>
          go_wp2_with (go_at_call 28; refine (odd_in w.heap.size y _ L8.out.d FY.out).mono ?_; rintro e w9 ⟨z, rfl, fz, hd, hg⟩; have FZ := Lib.hid fz; have L9 := Lib.hid (L8.out.next hd hg); clear fz hd hg cb fb; have cb := cells_of L9.out.pb; have fb := frozen_of L9.out.pb)
          clear cb fb
          go_meet
          exact at_put (Q := fun W => ∃ z : Hd, z.Fits ∧ MX w w.heap.size W ka kb kx a z s f) z y w9 kb L9.out.pb (fun W k q => ⟨z, FZ.out, L9.out.setb hne nx.2 k q⟩)
        | false =>
          go_wp2
          go_meet
          exact ⟨y, FY.out, L8.out⟩
      case rest =>
        obtain ⟨z, fz, hL⟩ := hcut
        clear L8 cb fb FY
        have FZ := Lib.hid fz
        have L9 := Lib.hid hL
        clear fz hL
        go_upto_if 34 with (go_at_call 26; refine (one_in w.heap.size 6 _ L9.out.d (by omega) (by omega)).mono ?_; rintro e w10 ⟨b2, rfl, hd, hg⟩; have L10 := Lib.hid (L9.out.next hd hg); clear hd hg)
        clear L9
        go_cut [] (fun wx => ∃ q : Int, MX w w.heap.size wx ka kb kx a z s q)
        case first =>
          clear AW
          cases b2 with
          | true =>
            go_wp2_with (go_at_call 24; refine (next_in w.heap.size 4 _ L10.out.d (by omega) (by omega)).mono ?_; rintro e w11 ⟨q, rfl, q0, q1, hd, hg⟩; have L11 := Lib.hid (L10.out.next hd hg); clear hd hg; have cd := cells_of L11.out.px; have fd := frozen_of L11.out.px)
            clear cd fd
            go_meet
            exact ⟨q - 1, L11.out.setf nx (q - 1)⟩
          | false =>
            go_wp2
            go_meet
            exact ⟨f, L10.out⟩
        case rest =>
          obtain ⟨q, hL⟩ := hcut
          clear L10 hne nx
          have A0 := Lib.hid (show M3 w _ ka kb kx a z s q from ⟨hL.pa, hL.pb, hL.px, hL.bl⟩)
          clear hL
          have bz := numV_bd z
          have C1 := Lib.hid (fun W => flowExact.walk W a z VA.out.fits FZ.out s q num bnum)
          have C2 := Lib.hid (Number_any z)
          have C3 := Lib.hid (fun W => flowExact.walk W z a FZ.out VA.out.fits s q (numV z) (by omega))
          generalize numV z = nb at C2 C3
          clear AW VA FZ bz
          go_wp2_with fail
          as_aux_lemma =>
            refine wp_region_noPanic ?_
            refine wp_region_held_drew (S := (fun W => M3 w W ka kb kx a z s q)) (by kernel_rfl) A0.out.drew (fun hHeld => ?_)
            refine take_lit (i := 0) (v := (.agg #[.int .i64 a.kind, .int .i64 a.tos, .int .i64 a.id, .int .i64 a.fixed, .int .i64 a.ttl, .int .i64 a.frm, .int .i64 a.to, .int .i64 a.fromPort, .int .i64 a.toPort, .int .i64 a.check, .int .i64 a.marker, .int .i64 a.type, .int .i64 a.seq, .int .i64 a.time, .int .i64 a.source])) 39 rfl rfl (by kernel_rfl) (by kernel_rfl) (by kernel_rfl) (fun _ _ _ h => h) (yieldsIf_load_mid (by rfl) _ _ rfl _ _ rfl _ _ (fun W p => M3.ra p) Try.underlying23 rfl info_hd) (by assumption) ?_
            simp only [Act.put, List.setIfInBounds_toArray, List.set_cons_zero, List.set_cons_succ]
            refine take_lit (i := 1) (v := (.agg #[.int .i64 z.kind, .int .i64 z.tos, .int .i64 z.id, .int .i64 z.fixed, .int .i64 z.ttl, .int .i64 z.frm, .int .i64 z.to, .int .i64 z.fromPort, .int .i64 z.toPort, .int .i64 z.check, .int .i64 z.marker, .int .i64 z.type, .int .i64 z.seq, .int .i64 z.time, .int .i64 z.source])) 40 rfl rfl (by kernel_rfl) (by kernel_rfl) (by kernel_rfl) (fun _ _ _ h => h) (yieldsIf_load_mid (by rfl) _ _ rfl _ _ rfl _ _ (fun W p => M3.rb p) Try.underlying23 rfl info_hd) (by assumption) ?_
            simp only [Act.put, List.setIfInBounds_toArray, List.set_cons_zero, List.set_cons_succ]
            refine take_lit (i := 2) (v := (.agg #[.int .i64 a.kind, .int .i64 a.tos, .int .i64 a.id, .int .i64 a.fixed, .int .i64 a.ttl, .int .i64 a.frm, .int .i64 a.to, .int .i64 a.fromPort, .int .i64 a.toPort, .int .i64 a.check, .int .i64 a.marker, .int .i64 a.type, .int .i64 a.seq, .int .i64 a.time, .int .i64 a.source, .int .i64 z.kind, .int .i64 z.tos, .int .i64 z.id, .int .i64 z.fixed, .int .i64 z.ttl, .int .i64 z.frm, .int .i64 z.to, .int .i64 z.fromPort, .int .i64 z.toPort, .int .i64 z.check, .int .i64 z.marker, .int .i64 z.type, .int .i64 z.seq, .int .i64 z.time, .int .i64 z.source])) 41 rfl rfl (by kernel_rfl) (by kernel_rfl) (by kernel_rfl) (fun _ _ _ h => h) (yieldsIf_build2 (a := a) (z := z) (by rfl) _ _ rfl rfl rfl) (by assumption) ?_
            simp only [Act.put, List.setIfInBounds_toArray, List.set_cons_zero, List.set_cons_succ]
            refine take_lit (i := 3) (v := (.agg #[.int .i64 s, .int .i64 q])) 42 rfl rfl (by kernel_rfl) (by kernel_rfl) (by kernel_rfl) (fun _ _ _ h => h) (yieldsIf_load_mid (by rfl) _ _ rfl _ _ rfl _ _ (fun W p => M3.rx p) Try.underlying26 rfl info_dyn) (by assumption) ?_
            simp only [Act.put, List.setIfInBounds_toArray, List.set_cons_zero, List.set_cons_succ]
            refine take_lit (i := 4) (v := (.int .i64 num)) 43 rfl rfl (by kernel_rfl) (by kernel_rfl) (by kernel_rfl) (fun _ _ _ h => h) (Or.inl ⟨by rfl, fun w hSw => by go_simp⟩) (by assumption) ?_
            simp only [Act.put, List.setIfInBounds_toArray, List.set_cons_zero, List.set_cons_succ]
            refine wpAnyH_ready (rs := [5]) (by kernel_rfl) (by simp) ?_
            refine AllReadyH.cons rfl (fun K hK => ?_) AllReadyH.nil
            go_simp
            go_at_call 3
            refine (C1.out _).mono ?_; rintro e v1 ⟨rfl, hb⟩; have A1 := Lib.hid (M3.below (A0.out.drew) hb); clear hb A0
            refine hK.out _ _ (A1.out) (fun hHeld => ?_)
            clear hK K
            as_aux_lemma =>
              refine take_lit (i := 6) (v := (.bool true)) 45 rfl rfl (by kernel_rfl) (by kernel_rfl) (by kernel_rfl) (fun _ _ _ h => h) (Or.inl ⟨by rfl, fun w hSw => by go_simp⟩) (by assumption) ?_
              simp only [Act.put, List.setIfInBounds_toArray, List.set_cons_zero, List.set_cons_succ]
              refine take_lit (i := 7) (v := (.agg #[.int .i64 z.kind, .int .i64 z.tos, .int .i64 z.id, .int .i64 z.fixed, .int .i64 z.ttl, .int .i64 z.frm, .int .i64 z.to, .int .i64 z.fromPort, .int .i64 z.toPort, .int .i64 z.check, .int .i64 z.marker, .int .i64 z.type, .int .i64 z.seq, .int .i64 z.time, .int .i64 z.source])) 46 rfl rfl (by kernel_rfl) (by kernel_rfl) (by kernel_rfl) (fun _ _ _ h => h) (yieldsIf_load_mid (by rfl) _ _ rfl _ _ rfl _ _ (fun W p => M3.rb p) Try.underlying23 rfl info_hd) (by assumption) ?_
              simp only [Act.put, List.setIfInBounds_toArray, List.set_cons_zero, List.set_cons_succ]
              refine take_lit (i := 8) (v := (.agg #[.int .i64 a.kind, .int .i64 a.tos, .int .i64 a.id, .int .i64 a.fixed, .int .i64 a.ttl, .int .i64 a.frm, .int .i64 a.to, .int .i64 a.fromPort, .int .i64 a.toPort, .int .i64 a.check, .int .i64 a.marker, .int .i64 a.type, .int .i64 a.seq, .int .i64 a.time, .int .i64 a.source])) 47 rfl rfl (by kernel_rfl) (by kernel_rfl) (by kernel_rfl) (fun _ _ _ h => h) (yieldsIf_load_mid (by rfl) _ _ rfl _ _ rfl _ _ (fun W p => M3.ra p) Try.underlying23 rfl info_hd) (by assumption) ?_
              simp only [Act.put, List.setIfInBounds_toArray, List.set_cons_zero, List.set_cons_succ]
              refine take_lit (i := 9) (v := (.agg #[.int .i64 z.kind, .int .i64 z.tos, .int .i64 z.id, .int .i64 z.fixed, .int .i64 z.ttl, .int .i64 z.frm, .int .i64 z.to, .int .i64 z.fromPort, .int .i64 z.toPort, .int .i64 z.check, .int .i64 z.marker, .int .i64 z.type, .int .i64 z.seq, .int .i64 z.time, .int .i64 z.source, .int .i64 a.kind, .int .i64 a.tos, .int .i64 a.id, .int .i64 a.fixed, .int .i64 a.ttl, .int .i64 a.frm, .int .i64 a.to, .int .i64 a.fromPort, .int .i64 a.toPort, .int .i64 a.check, .int .i64 a.marker, .int .i64 a.type, .int .i64 a.seq, .int .i64 a.time, .int .i64 a.source])) 48 rfl rfl (by kernel_rfl) (by kernel_rfl) (by kernel_rfl) (fun _ _ _ h => h) (yieldsIf_build2 (a := z) (z := a) (by rfl) _ _ rfl rfl rfl) (by assumption) ?_
              simp only [Act.put, List.setIfInBounds_toArray, List.set_cons_zero, List.set_cons_succ]
              refine take_lit (i := 10) (v := (.agg #[.int .i64 s, .int .i64 q])) 49 rfl rfl (by kernel_rfl) (by kernel_rfl) (by kernel_rfl) (fun _ _ _ h => h) (yieldsIf_load_mid (by rfl) _ _ rfl _ _ rfl _ _ (fun W p => M3.rx p) Try.underlying26 rfl info_dyn) (by assumption) ?_
              simp only [Act.put, List.setIfInBounds_toArray, List.set_cons_zero, List.set_cons_succ]
              refine take_lit (i := 11) (v := (.agg #[.int .i64 z.kind, .int .i64 z.tos, .int .i64 z.id, .int .i64 z.fixed, .int .i64 z.ttl, .int .i64 z.frm, .int .i64 z.to, .int .i64 z.fromPort, .int .i64 z.toPort, .int .i64 z.check, .int .i64 z.marker, .int .i64 z.type, .int .i64 z.seq, .int .i64 z.time, .int .i64 z.source])) 50 rfl rfl (by kernel_rfl) (by kernel_rfl) (by kernel_rfl) (fun _ _ _ h => h) (yieldsIf_load_mid (by rfl) _ _ rfl _ _ rfl _ _ (fun W p => M3.rb p) Try.underlying23 rfl info_hd) (by assumption) ?_
              simp only [Act.put, List.setIfInBounds_toArray, List.set_cons_zero, List.set_cons_succ]
              refine wpAnyH_ready (rs := [12]) (by kernel_rfl) (by simp) ?_
              refine AllReadyH.cons rfl (fun K hK => ?_) AllReadyH.nil
              go_simp
              go_at_call 13
              refine (C2.out _).mono ?_; rintro e v2 ⟨rfl, hb⟩; have A2 := Lib.hid (M3.below (A1.out) hb); clear hb A1
              refine hK.out _ _ (A2.out) (fun hHeld => ?_)
              clear hK K
              as_aux_lemma =>
                refine wpAnyH_ready (rs := [13]) (by kernel_rfl) (by simp) ?_
                refine AllReadyH.cons rfl (fun K hK => ?_) AllReadyH.nil
                go_simp
                go_at_call 3
                refine (C3.out _).mono ?_; rintro e v3 ⟨rfl, hb⟩; have A3 := Lib.hid (M3.below (A2.out) hb); clear hb A2
                refine hK.out _ _ (A3.out) (fun hHeld => ?_)
                clear hK K
                as_aux_lemma =>
                  refine take_lit (i := 14) (v := (.bool true)) 53 rfl rfl (by kernel_rfl) (by kernel_rfl) (by kernel_rfl) (fun _ _ _ h => h) (Or.inl ⟨by rfl, fun w hSw => by go_simp⟩) (by assumption) ?_
                  simp only [Act.put, List.setIfInBounds_toArray, List.set_cons_zero, List.set_cons_succ]
                  refine take_lit (i := 15) (v := (.bool true)) 4 rfl rfl (by kernel_rfl) (by kernel_rfl) (by kernel_rfl) (fun _ _ _ h => h) (Or.inl ⟨by rfl, fun w hSw => by go_simp⟩) (by assumption) ?_
                  simp only [Act.put, List.setIfInBounds_toArray, List.set_cons_zero, List.set_cons_succ]
                  refine wpAnyH_done (by kernel_rfl) ?_ _
                  refine NoPanic.normal ?_
                  go_wp2
                  go_ret
                  exact ⟨rfl, A3.out.bl⟩
  · have hd : decide (n ≤ 400) = false := decide_eq_false hn
    go_enter Try.func4, Try.ntmps4
    go_wp2_with (first
      | (go_at_call 21; refine (light_any _ _ _ _ (by omega)).mono ?_; rintro e w' ⟨rfl, rfl⟩)
      | (go_at_call 8; refine (AW.out _).mono ?_; rintro e w2 ⟨rfl, hb⟩; have B2 := Lib.hid hb; clear hb)
      | fail)
    go_ret
    exact ⟨rfl, B2.out⟩

theorem own : ownKnob Try.prog.godebug = none := by kernel_rfl
theorem laidOut : laidOutB Try.prog = true := by kernel_rfl
theorem read_ints : Try.prog.readableRec 35 = true := by kernel_rfl
theorem read_int : Try.prog.readableRec 3 = true := by kernel_rfl
theorem cells_i : Try.prog.cellsOf 3 = 1 := by kernel_rfl
theorem bytes_i : Try.prog.bytesOf 3 = 8 := by kernel_rfl
theorem lt_ints : 35 < Try.prog.types.size := of_decide_eq_true (by kernel_rfl)
theorem lt_int : 3 < Try.prog.types.size := of_decide_eq_true (by kernel_rfl)

set_option maxRecDepth 100000 in
theorem lifted (os : Os) (started : os.Started) (H : Type) (enc : TypeId × Value → H) :
    ReturnsInHanded {} Try.checked os 4 .any (Rows.flowMadeSpec.pre6 enc Try.prog Try.f4 Rows.flowMadeRow.domain false) (Rows.flowMadeSpec.post enc Try.prog Try.f4 false true false false) := by
  refine law_lifted (C := Try.checked) (rt := 4) [35, 3] own started (by kernel_rfl) Try.func4 laidOut (by rw [Try.params4])
    (fun t ht => by simp only [List.mem_cons, List.not_mem_nil, or_false] at ht; rcases ht with rfl | rfl <;> first | exact ⟨read_ints, lt_ints⟩ | exact ⟨read_int, lt_int⟩) rfl Try.underlying4 rfl
    (fun ds h => by match ds, h with | [d0, d1], _ => rfl)
    (ChangeSpec.witness6 (enc := enc) (C := Try.checked) false ⟨#[], #[.slice none 0 0, .int .i64 0], []⟩ 8 (by kernel_rfl) (by kernel_rfl) (by kernel_rfl) (by kernel_rfl)) ?_
  intro W base args ds p hval hA hsz
  obtain ⟨v0, vs0, d0, ds0, p0, q0, hargs, rfl, rfl, h0, r0⟩ := trodAll_cons hA
  obtain ⟨v1, vs1, d1, ds1, p1, q1, rfl, rfl, rfl, h1, r1⟩ := trodAll_cons r0
  obtain ⟨rfl, rfl, rfl⟩ := trodAll_nil r1
  obtain rfl : args = #[v0, v1] := by cases args; simp_all
  obtain ⟨a0, n0, c0, z0, rfl, s0, nn0⟩ := open_slr Try.underlying35 Try.underlying3 cells_i (by rw [bytes_i]; omega) (hval 0 _ v0 rfl rfl) h0 (fun el spa hd => sized_slice hsz (j := 0) rfl (by rw [hd]; rfl) Try.underlying35)
  obtain ⟨x1, rfl, b1⟩ := open_i64 Try.underlying3 (hval 1 _ v1 rfl rfl) h1
  exact walk W a0 n0 c0 z0 s0 x1 b1

/-- THE STATEMENT -/
theorem proved : Rows.FlowMadeSaid :=
  OpenClaim.holds_of_wide 4 Try.f4 rfl rfl rfl rfl rfl rfl rfl ⟨rfl, rfl, rfl, rfl, rfl⟩ rfl rfl rfl rfl rfl (by kernel_rfl) Try.func4 (by kernel_rfl)
    (of_decide_eq_true (by kernel_rfl)) (by unfold Func.isWrapper; first | (rw [if_pos (by decide +kernel)]; kernel_rfl) | (rw [if_neg (by decide +kernel)]; exact ⟨rfl, rfl⟩))
    (fun os started H enc _ => lifted os started H enc)
#print axioms proved
end Go.Proofs.Ytphekpkkeiaccaa.flowMade
