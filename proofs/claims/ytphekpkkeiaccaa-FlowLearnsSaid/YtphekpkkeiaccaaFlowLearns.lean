/-
  FlowLearns: with the parameters of Learn the prediction from a header for the number of the next regular one is that one, but for Check. No condition.
-/
import Derived.Test.YtphekpkkeiaccaaFlAwake
import Derived.Test.YtphekpkkeiaccaaFlChg
import Derived.Test.YtphekpkkeiaccaaFlLearnP
import Derived.Test.YtphekpkkeiaccaaHdStep
import Derived.Test.YtphekpkkeiaccaaDiceHeader2
import Derived.Test.YtphekpkkeiaccaaLift
import Derived.Test.YtphekpkkeiaccaaRows
import Derived.Deep.DeepCutAuto
namespace Go.Proofs.Ytphekpkkeiaccaa.flowLearns
open Go Go.RowKit Go.ChangeShapes Go.WideShapes Go.ChangeAt

structure LS (w : World) (g : Nat) (W : World) (ka kb : Nat) (a b : Hd) : Prop where
  pa : W.heap[ka]? = some (.cells #[.int .i64 a.kind, .int .i64 a.tos, .int .i64 a.id, .int .i64 a.fixed, .int .i64 a.ttl, .int .i64 a.frm, .int .i64 a.to, .int .i64 a.fromPort, .int .i64 a.toPort, .int .i64 a.check, .int .i64 a.marker, .int .i64 a.type, .int .i64 a.seq, .int .i64 a.time, .int .i64 a.source] 23 (0, 0))
  pb : W.heap[kb]? = some (.cells #[.int .i64 b.kind, .int .i64 b.tos, .int .i64 b.id, .int .i64 b.fixed, .int .i64 b.ttl, .int .i64 b.frm, .int .i64 b.to, .int .i64 b.fromPort, .int .i64 b.toPort, .int .i64 b.check, .int .i64 b.marker, .int .i64 b.type, .int .i64 b.seq, .int .i64 b.time, .int .i64 b.source] 23 (0, 0))
  bl : Below w.heap.size w W
  d : DiceIn W g
  wg : w.heap.size ≤ g
  ga : g < ka
  gb : g < kb
theorem LS.below {W W' : World} {w : World} {g : Nat} {ka kb : Nat} {a b : Hd} (pq : LS w g W ka kb a b) (hb : Below W.heap.size W W') : LS w g W' ka kb a b :=
  ⟨(hb.block _ (lt_of_block pq.pa)).trans pq.pa, (hb.block _ (lt_of_block pq.pb)).trans pq.pb, pq.bl.trans (hb.mono pq.bl.size), pq.d.keep hb, pq.wg, pq.ga, pq.gb⟩
theorem LS.alloc {W : World} {w : World} {g : Nat} {ka kb : Nat} {a b : Hd} (pq : LS w g W ka kb a b) (o : Obj) : LS w g (W.alloc o) ka kb a b := pq.below ((Below.refl _ _).alloc (Nat.le_refl _) o)
theorem LS.drew {W : World} {w : World} {g : Nat} {ka kb : Nat} {a b : Hd} (pq : LS w g W ka kb a b) : LS w g W.drew ka kb a b := ⟨pq.pa, pq.pb, pq.bl.drew, pq.d.drew, pq.wg, pq.ga, pq.gb⟩
theorem LS.row {W W' : World} {w : World} {g : Nat} {ka kb : Nat} {a b : Hd} (pq : LS w g W ka kb a b) {bb : Nat} (hg : W.grownBy W' (some bb)) (hw : w.heap.size ≤ bb) (hgb : g < bb) (na : ka ≠ bb) (nb : kb ≠ bb) : LS w g W' ka kb a b :=
  ⟨(hg.block _ (lt_of_block pq.pa) (by simpa using na)).trans pq.pa, (hg.block _ (lt_of_block pq.pb) (by simpa using nb)).trans pq.pb, pq.bl.trans (Below.of_row hg (fun q hq => by cases hq; exact hw) pq.bl.size), pq.d.keepRow hg (fun q hq => by cases hq; exact hgb), pq.wg, pq.ga, pq.gb⟩
theorem LS.next {W W' : World} {w : World} {g : Nat} {ka kb : Nat} {a b : Hd} (pq : LS w g W ka kb a b) (hd : DiceIn W' g) (hg : W.grownBy W' (some g)) : LS w g W' ka kb a b :=
  ⟨(hg.block _ (lt_of_block pq.pa) (by have := pq.ga; simp; omega)).trans pq.pa, (hg.block _ (lt_of_block pq.pb) (by have := pq.gb; simp; omega)).trans pq.pb, pq.bl.trans (Below.of_row hg (fun q hq => by cases hq; exact pq.wg) pq.bl.size), hd, pq.wg, pq.ga, pq.gb⟩
theorem LS.ra {W : World} {w : World} {g : Nat} {ka kb : Nat} {a b : Hd} (pq : LS w g W ka kb a b) : W.rangeAt ka 0 [.int .i64 a.kind, .int .i64 a.tos, .int .i64 a.id, .int .i64 a.fixed, .int .i64 a.ttl, .int .i64 a.frm, .int .i64 a.to, .int .i64 a.fromPort, .int .i64 a.toPort, .int .i64 a.check, .int .i64 a.marker, .int .i64 a.type, .int .i64 a.seq, .int .i64 a.time, .int .i64 a.source] := World.rangeAt_of_block pq.pa 0 15
theorem LS.rb {W : World} {w : World} {g : Nat} {ka kb : Nat} {a b : Hd} (pq : LS w g W ka kb a b) : W.rangeAt kb 0 [.int .i64 b.kind, .int .i64 b.tos, .int .i64 b.id, .int .i64 b.fixed, .int .i64 b.ttl, .int .i64 b.frm, .int .i64 b.to, .int .i64 b.fromPort, .int .i64 b.toPort, .int .i64 b.check, .int .i64 b.marker, .int .i64 b.type, .int .i64 b.seq, .int .i64 b.time, .int .i64 b.source] := World.rangeAt_of_block pq.pb 0 15
structure LL (w : World) (W : World) (ka kb kd : Nat) (a b : Hd) (sd fd : Int) : Prop where
  pa : W.heap[ka]? = some (.cells #[.int .i64 a.kind, .int .i64 a.tos, .int .i64 a.id, .int .i64 a.fixed, .int .i64 a.ttl, .int .i64 a.frm, .int .i64 a.to, .int .i64 a.fromPort, .int .i64 a.toPort, .int .i64 a.check, .int .i64 a.marker, .int .i64 a.type, .int .i64 a.seq, .int .i64 a.time, .int .i64 a.source] 23 (0, 0))
  pb : W.heap[kb]? = some (.cells #[.int .i64 b.kind, .int .i64 b.tos, .int .i64 b.id, .int .i64 b.fixed, .int .i64 b.ttl, .int .i64 b.frm, .int .i64 b.to, .int .i64 b.fromPort, .int .i64 b.toPort, .int .i64 b.check, .int .i64 b.marker, .int .i64 b.type, .int .i64 b.seq, .int .i64 b.time, .int .i64 b.source] 23 (0, 0))
  pd : W.heap[kd]? = some (.cells #[.int .i64 sd, .int .i64 fd] 26 (0, 0))
  bl : Below w.heap.size w W
theorem LL.below {W W' : World} {w : World} {ka kb kd : Nat} {a b : Hd} {sd fd : Int} (pq : LL w W ka kb kd a b sd fd) (hb : Below W.heap.size W W') : LL w W' ka kb kd a b sd fd :=
  ⟨(hb.block _ (lt_of_block pq.pa)).trans pq.pa, (hb.block _ (lt_of_block pq.pb)).trans pq.pb, (hb.block _ (lt_of_block pq.pd)).trans pq.pd, pq.bl.trans (hb.mono pq.bl.size)⟩
theorem LL.alloc {W : World} {w : World} {ka kb kd : Nat} {a b : Hd} {sd fd : Int} (pq : LL w W ka kb kd a b sd fd) (o : Obj) : LL w (W.alloc o) ka kb kd a b sd fd := pq.below ((Below.refl _ _).alloc (Nat.le_refl _) o)
theorem LL.drew {W : World} {w : World} {ka kb kd : Nat} {a b : Hd} {sd fd : Int} (pq : LL w W ka kb kd a b sd fd) : LL w W.drew ka kb kd a b sd fd := ⟨pq.pa, pq.pb, pq.pd, pq.bl.drew⟩
theorem LL.row {W W' : World} {w : World} {ka kb kd : Nat} {a b : Hd} {sd fd : Int} (pq : LL w W ka kb kd a b sd fd) {bb : Nat} (hg : W.grownBy W' (some bb)) (hw : w.heap.size ≤ bb) (na : ka ≠ bb) (nb : kb ≠ bb) (nd : kd ≠ bb) : LL w W' ka kb kd a b sd fd :=
  ⟨(hg.block _ (lt_of_block pq.pa) (by simpa using na)).trans pq.pa, (hg.block _ (lt_of_block pq.pb) (by simpa using nb)).trans pq.pb, (hg.block _ (lt_of_block pq.pd) (by simpa using nd)).trans pq.pd, pq.bl.trans (Below.of_row hg (fun q hq => by cases hq; exact hw) pq.bl.size)⟩
theorem LL.ra {W : World} {w : World} {ka kb kd : Nat} {a b : Hd} {sd fd : Int} (pq : LL w W ka kb kd a b sd fd) : W.rangeAt ka 0 [.int .i64 a.kind, .int .i64 a.tos, .int .i64 a.id, .int .i64 a.fixed, .int .i64 a.ttl, .int .i64 a.frm, .int .i64 a.to, .int .i64 a.fromPort, .int .i64 a.toPort, .int .i64 a.check, .int .i64 a.marker, .int .i64 a.type, .int .i64 a.seq, .int .i64 a.time, .int .i64 a.source] := World.rangeAt_of_block pq.pa 0 15
theorem LL.rb {W : World} {w : World} {ka kb kd : Nat} {a b : Hd} {sd fd : Int} (pq : LL w W ka kb kd a b sd fd) : W.rangeAt kb 0 [.int .i64 b.kind, .int .i64 b.tos, .int .i64 b.id, .int .i64 b.fixed, .int .i64 b.ttl, .int .i64 b.frm, .int .i64 b.to, .int .i64 b.fromPort, .int .i64 b.toPort, .int .i64 b.check, .int .i64 b.marker, .int .i64 b.type, .int .i64 b.seq, .int .i64 b.time, .int .i64 b.source] := World.rangeAt_of_block pq.pb 0 15
theorem LL.rd {W : World} {w : World} {ka kb kd : Nat} {a b : Hd} {sd fd : Int} (pq : LL w W ka kb kd a b sd fd) : W.rangeAt kd 0 [.int .i64 sd, .int .i64 fd] := World.rangeAt_of_block pq.pd 0 2
structure LP (w : World) (W : World) (ka kb kd kp : Nat) (a b p : Hd) (sd fd : Int) : Prop where
  pa : W.heap[ka]? = some (.cells #[.int .i64 a.kind, .int .i64 a.tos, .int .i64 a.id, .int .i64 a.fixed, .int .i64 a.ttl, .int .i64 a.frm, .int .i64 a.to, .int .i64 a.fromPort, .int .i64 a.toPort, .int .i64 a.check, .int .i64 a.marker, .int .i64 a.type, .int .i64 a.seq, .int .i64 a.time, .int .i64 a.source] 23 (0, 0))
  pb : W.heap[kb]? = some (.cells #[.int .i64 b.kind, .int .i64 b.tos, .int .i64 b.id, .int .i64 b.fixed, .int .i64 b.ttl, .int .i64 b.frm, .int .i64 b.to, .int .i64 b.fromPort, .int .i64 b.toPort, .int .i64 b.check, .int .i64 b.marker, .int .i64 b.type, .int .i64 b.seq, .int .i64 b.time, .int .i64 b.source] 23 (0, 0))
  pp : W.heap[kp]? = some (.cells #[.int .i64 p.kind, .int .i64 p.tos, .int .i64 p.id, .int .i64 p.fixed, .int .i64 p.ttl, .int .i64 p.frm, .int .i64 p.to, .int .i64 p.fromPort, .int .i64 p.toPort, .int .i64 p.check, .int .i64 p.marker, .int .i64 p.type, .int .i64 p.seq, .int .i64 p.time, .int .i64 p.source] 23 (0, 0))
  pd : W.heap[kd]? = some (.cells #[.int .i64 sd, .int .i64 fd] 26 (0, 0))
  bl : Below w.heap.size w W
theorem LP.below {W W' : World} {w : World} {ka kb kd kp : Nat} {a b p : Hd} {sd fd : Int} (pq : LP w W ka kb kd kp a b p sd fd) (hb : Below W.heap.size W W') : LP w W' ka kb kd kp a b p sd fd :=
  ⟨(hb.block _ (lt_of_block pq.pa)).trans pq.pa, (hb.block _ (lt_of_block pq.pb)).trans pq.pb, (hb.block _ (lt_of_block pq.pp)).trans pq.pp, (hb.block _ (lt_of_block pq.pd)).trans pq.pd, pq.bl.trans (hb.mono pq.bl.size)⟩
theorem LP.alloc {W : World} {w : World} {ka kb kd kp : Nat} {a b p : Hd} {sd fd : Int} (pq : LP w W ka kb kd kp a b p sd fd) (o : Obj) : LP w (W.alloc o) ka kb kd kp a b p sd fd := pq.below ((Below.refl _ _).alloc (Nat.le_refl _) o)
theorem LP.drew {W : World} {w : World} {ka kb kd kp : Nat} {a b p : Hd} {sd fd : Int} (pq : LP w W ka kb kd kp a b p sd fd) : LP w W.drew ka kb kd kp a b p sd fd := ⟨pq.pa, pq.pb, pq.pp, pq.pd, pq.bl.drew⟩
theorem LP.row {W W' : World} {w : World} {ka kb kd kp : Nat} {a b p : Hd} {sd fd : Int} (pq : LP w W ka kb kd kp a b p sd fd) {bb : Nat} (hg : W.grownBy W' (some bb)) (hw : w.heap.size ≤ bb) (na : ka ≠ bb) (nb : kb ≠ bb) (np : kp ≠ bb) (nd : kd ≠ bb) : LP w W' ka kb kd kp a b p sd fd :=
  ⟨(hg.block _ (lt_of_block pq.pa) (by simpa using na)).trans pq.pa, (hg.block _ (lt_of_block pq.pb) (by simpa using nb)).trans pq.pb, (hg.block _ (lt_of_block pq.pp) (by simpa using np)).trans pq.pp, (hg.block _ (lt_of_block pq.pd) (by simpa using nd)).trans pq.pd, pq.bl.trans (Below.of_row hg (fun q hq => by cases hq; exact hw) pq.bl.size)⟩
theorem LP.ra {W : World} {w : World} {ka kb kd kp : Nat} {a b p : Hd} {sd fd : Int} (pq : LP w W ka kb kd kp a b p sd fd) : W.rangeAt ka 0 [.int .i64 a.kind, .int .i64 a.tos, .int .i64 a.id, .int .i64 a.fixed, .int .i64 a.ttl, .int .i64 a.frm, .int .i64 a.to, .int .i64 a.fromPort, .int .i64 a.toPort, .int .i64 a.check, .int .i64 a.marker, .int .i64 a.type, .int .i64 a.seq, .int .i64 a.time, .int .i64 a.source] := World.rangeAt_of_block pq.pa 0 15
theorem LP.rb {W : World} {w : World} {ka kb kd kp : Nat} {a b p : Hd} {sd fd : Int} (pq : LP w W ka kb kd kp a b p sd fd) : W.rangeAt kb 0 [.int .i64 b.kind, .int .i64 b.tos, .int .i64 b.id, .int .i64 b.fixed, .int .i64 b.ttl, .int .i64 b.frm, .int .i64 b.to, .int .i64 b.fromPort, .int .i64 b.toPort, .int .i64 b.check, .int .i64 b.marker, .int .i64 b.type, .int .i64 b.seq, .int .i64 b.time, .int .i64 b.source] := World.rangeAt_of_block pq.pb 0 15
theorem LP.rp {W : World} {w : World} {ka kb kd kp : Nat} {a b p : Hd} {sd fd : Int} (pq : LP w W ka kb kd kp a b p sd fd) : W.rangeAt kp 0 [.int .i64 p.kind, .int .i64 p.tos, .int .i64 p.id, .int .i64 p.fixed, .int .i64 p.ttl, .int .i64 p.frm, .int .i64 p.to, .int .i64 p.fromPort, .int .i64 p.toPort, .int .i64 p.check, .int .i64 p.marker, .int .i64 p.type, .int .i64 p.seq, .int .i64 p.time, .int .i64 p.source] := World.rangeAt_of_block pq.pp 0 15
theorem LP.rd {W : World} {w : World} {ka kb kd kp : Nat} {a b p : Hd} {sd fd : Int} (pq : LP w W ka kb kd kp a b p sd fd) : W.rangeAt kd 0 [.int .i64 sd, .int .i64 fd] := World.rangeAt_of_block pq.pd 0 2
theorem info_hd : (Try.prog.info? 23).map (·.size) = some 15 := by kernel_rfl
theorem info_dyn : (Try.prog.info? 26).map (·.size) = some 2 := by kernel_rfl

theorem LS.setb {w : World} {g : Nat} {W W' : World} {ka kb : Nat} {a b y : Hd} (p : LS w g W ka kb a b) (hn : ka ≠ kb) (k : W'.heap[kb]? = some (.cells #[.int .i64 y.kind, .int .i64 y.tos, .int .i64 y.id, .int .i64 y.fixed, .int .i64 y.ttl, .int .i64 y.frm, .int .i64 y.to, .int .i64 y.fromPort, .int .i64 y.toPort, .int .i64 y.check, .int .i64 y.marker, .int .i64 y.type, .int .i64 y.seq, .int .i64 y.time, .int .i64 y.source] 23 (0, 0))) (q : W.grownBy W' (some kb)) : LS w g W' ka kb a y :=
  ⟨(q.block _ (lt_of_block p.pa) (by simpa using hn)).trans p.pa, k, p.bl.trans (Below.of_row q (fun i hi => by cases hi; have := p.gb; have := p.wg; omega) p.bl.size), p.d.keepRow q (fun i hi => by cases hi; exact p.gb), p.wg, p.ga, p.gb⟩
theorem LP.ck {w W : World} {ka kb kd kp : Nat} {a b p : Hd} {sd fd : Int} (q : LP w W ka kb kd kp a b p sd fd) (h : ka ≠ kp ∧ kb ≠ kp ∧ kd ≠ kp) (hw : w.heap.size ≤ kp) : LP w (W.setCell ⟨kp, 9, none⟩ (.int .i64 b.check)) ka kb kd kp a b (withCk p b.check) sd fd := by
  have r := blk_set q.pp 9 (.int .i64 b.check)
  simp only [List.setIfInBounds_toArray, List.set_cons_succ, List.set_cons_zero] at r
  exact ⟨blk_set_ne q.pa h.1 9 _, blk_set_ne q.pb h.2.1 9 _, r, blk_set_ne q.pd h.2.2 9 _, q.bl.setCell hw _⟩

set_option maxRecDepth 100000 in
set_option maxHeartbeats 12800000 in
theorem walk (w : World) (a0 : Option Addr) (n cap : Nat) (t : List Int) (hs : Sl .i64 w a0 n t) (st : Int) (bst : -9223372036854775808 ≤ st ∧ st ≤ 9223372036854775807) :
    Calls Try.prog 5 #[.slice a0 n cap, .int .i64 st] w fun e w' => e = .returned (.bool true) ∧ Below w.heap.size w w' := by
  have hr := hs.reach
  have Hs := Lib.hid hs
  have AW := Lib.hid awake_any
  clear hs
  by_cases hn : n ≤ 400
  · have hd : decide (n ≤ 400) = true := decide_eq_true hn
    go_enter Try.func5, Try.ntmps5
    go_wp2_with (go_at_call 21; refine (light_any _ _ _ _ (by omega)).mono ?_; rintro e w' ⟨rfl, rfl⟩)
    refine (roll_in a0 n cap t _ Hs.out).mono ?_
    rintro e w1 ⟨rfl, hd1, hb1, hz1⟩
    have D1 := Lib.hid hd1
    have B1 := Lib.hid hb1
    have hz1' : w.heap.size < w1.heap.size := by omega
    clear hd1 hb1 hz1 hd AW Hs hr
    have AW := Lib.hid awake_any
    go_wp2_with fail
    refine (next_in w.heap.size 4 _ D1.out (by omega) (by omega)).mono ?_
    rintro e w2 ⟨k, rfl, k0, k1, hd2, hg2⟩
    have D2 := Lib.hid hd2
    have B2 := Lib.hid (B1.out.trans (Below.of_but hg2 (Nat.le_refl _) (by omega)))
    have hz2 := Nat.lt_of_lt_of_le hz1' hg2.size
    clear hd2 hg2
    go_wp2_with fail
    refine (header_made w.heap.size k _ D2.out k0 (by omega)).mono ?_
    rintro e w3 ⟨a, rfl, va, ma, hd3, hg3⟩
    have VA := Lib.hid va
    have hz3 := Nat.lt_of_lt_of_le hz2 hg3.size
    have H3 := HH.laid w3 a a
    have L3 := Lib.hid (show LS w w.heap.size ((w3.alloc (.cells #[.int .i64 a.kind, .int .i64 a.tos, .int .i64 a.id, .int .i64 a.fixed, .int .i64 a.ttl, .int .i64 a.frm, .int .i64 a.to, .int .i64 a.fromPort, .int .i64 a.toPort, .int .i64 a.check, .int .i64 a.marker, .int .i64 a.type, .int .i64 a.seq, .int .i64 a.time, .int .i64 a.source] 23)).alloc (.cells #[.int .i64 a.kind, .int .i64 a.tos, .int .i64 a.id, .int .i64 a.fixed, .int .i64 a.ttl, .int .i64 a.frm, .int .i64 a.to, .int .i64 a.fromPort, .int .i64 a.toPort, .int .i64 a.check, .int .i64 a.marker, .int .i64 a.type, .int .i64 a.seq, .int .i64 a.time, .int .i64 a.source] 23)) w3.heap.size (w3.heap.size + 1) a a from
      ⟨H3.1, H3.2, (((B2.out.trans (Below.of_but hg3 (Nat.le_refl _) (by omega))).alloc (by have := hg3.size; omega) _).alloc (by have := hg3.size; simp; omega) _), (hd3.alloc _).alloc _, Nat.le_refl _, hz3, by omega⟩)
    have hne : w3.heap.size ≠ w3.heap.size + 1 := by omega
    clear hd3 hg3 va ma H3 D1 D2 B1 B2 hz1' hz2 hz3 k0 k1
    go_upto_region 6 with fail
    generalize (w3.alloc (.cells #[.int .i64 a.kind, .int .i64 a.tos, .int .i64 a.id, .int .i64 a.fixed, .int .i64 a.ttl, .int .i64 a.frm, .int .i64 a.to, .int .i64 a.fromPort, .int .i64 a.toPort, .int .i64 a.check, .int .i64 a.marker, .int .i64 a.type, .int .i64 a.seq, .int .i64 a.time, .int .i64 a.source] 23)).alloc (.cells #[.int .i64 a.kind, .int .i64 a.tos, .int .i64 a.id, .int .i64 a.fixed, .int .i64 a.ttl, .int .i64 a.frm, .int .i64 a.to, .int .i64 a.fromPort, .int .i64 a.toPort, .int .i64 a.check, .int .i64 a.marker, .int .i64 a.type, .int .i64 a.seq, .int .i64 a.time, .int .i64 a.source] 23) = w5 at L3 ⊢
    generalize w3.heap.size + 1 = kb at L3 hne ⊢
    generalize w3.heap.size = ka at L3 hne ⊢
    have m0 := Int.emod_nonneg st (show (40 : Int) ≠ 0 by omega)
    have m1 := Int.emod_lt_of_pos st (show (0 : Int) < 40 by omega)
    have CM := Lib.hid (fun W => mod_any st 40 W (by omega) (by omega) bst.1 bst.2)
    generalize st % 40 = q at m0 m1 CM
    obtain ⟨M, rfl⟩ := Int.eq_ofNat_of_zero_le m0
    have hM : M < 40 := by omega
    go_wp2_with (go_at_call 29; refine (CM.out _).mono ?_; rintro e w' ⟨rfl, rfl⟩)
    clear CM m0 m1
    go_loopw [8] (fun s wr => ∃ (m : Nat) (x : Hd), m ≤ M + 1 ∧ s = .int .i64 (1 + (M : Int) - (m : Int)) ∧ ((m = 0 ∧ x = a) ∨ FolS a x m) ∧ LS w w.heap.size wr ka kb a x) (fun s _ => (intOf s).toNat)
    case atStart => exact ⟨0, a, by omega, by simp, .inl ⟨rfl, rfl⟩, L3.out⟩
    case round =>
      obtain ⟨m, x, hm, rfl, hx, hL⟩ := hrel
      rename_i wr
      clear L3
      have vx : x.Valid := by
        rcases hx with ⟨_, rfl⟩ | hx
        · exact VA.out
        · exact hx.valid VA.out
      have VX := Lib.hid vx
      have X := Lib.hid hx
      have L := Lib.hid hL
      clear vx hx hL
      by_cases hlt : m < M + 1
      · have hgt : 0 < 1 + (M : Int) - (m : Int) := by omega
        have cb := cells_of L.out.pb
        go_wp2_with (go_at_call 25; refine (follow_in w.heap.size x true _ L.out.d VX.out).mono ?_; rintro e w6 ⟨y, rfl, vy, fy, hd, hg⟩; have FY := Lib.hid (fy rfl); have L6 := Lib.hid (L.out.next hd hg); clear vy fy hd hg cb; have cb := cells_of L6.out.pb; have fb := frozen_of L6.out.pb)
        clear cb fb
        go_roundw
        case rel =>
          refine ⟨m + 1, y, by omega, by simp <;> omega, .inr ?_, at_put (Q := fun W => LS w w.heap.size W ka kb a y) y x w6 kb L6.out.pb (fun W k q => L6.out.setb hne k q)⟩
          rcases X.out with ⟨rfl, rfl⟩ | hx
          · exact FY.out
          · exact hx.next FY.out
        case measure => simp [intOf] <;> omega
      · obtain rfl : m = M + 1 := by omega
        have FX := Lib.hid (show FolS a x ((M : Int) + 1) by
          rcases X.out with ⟨e, _⟩ | hx
          · omega
          · simpa using hx)
        clear X
        have LR := learn_pred VA.out FX.out (by omega) (by omega)
        have XC := Lib.hid FX.out.chg0
        have ca := cells_of L.out.pa
        have cb := cells_of L.out.pb
        have CL := Lib.hid (fun W => Learn_any a x W VA.out.fits VX.out.fits)
        have CN := Lib.hid (Number_any x)
        have CP := Lib.hid (fun W => Predict_any (learnS a x) (learnF a x) (numV x) a W VA.out.fits)
        have CD := Lib.hid (rDyn_any (learnS a x) (learnF a x))
        rw [LR.1] at CD
        have EP := Lib.hid LR.2
        have CC := Lib.hid (Changed_any a x)
        rw [XC.out] at CC
        have E1 := eql_hd x x
        rw [eqB_self] at E1
        clear LR XC FX VX VA hM
        generalize predH (learnS a x) (learnF a x) a (numV x) = p at CP EP
        generalize learnS a x = s at CL CP CD
        generalize learnF a x = f at CL CP CD
        generalize numV x = nb at CN CP
        have hgt : ¬ 0 < 1 + (M : Int) - ((M + 1 : Nat) : Int) := by omega
        go_upto_region 11 with (go_at_call 19; refine (CL.out _).mono ?_; rintro e w7 ⟨rfl, hb⟩; have L7 := Lib.hid (L.out.below hb); clear hb ca cb)
        have L8 := Lib.hid (show LL w (w7.alloc (.cells #[.int .i64 s, .int .i64 f] 26)) ka kb w7.heap.size a x s f from ⟨(L7.out.alloc _).pa, (L7.out.alloc _).pb, heap_alloc_new w7 _, (L7.out.alloc _).bl⟩)
        clear L L7 CL hgt
        generalize w7.alloc (.cells #[.int .i64 s, .int .i64 f] 26) = w8 at L8 ⊢
        generalize w7.heap.size = kd at L8 ⊢
        go_cut [10] (fun s10 wx => ∃ kp : Nat, s10 = .pointer (some ⟨kp, 0, none⟩) ∧ (ka ≠ kp ∧ kb ≠ kp ∧ kd ≠ kp) ∧ w.heap.size ≤ kp ∧ LP w wx ka kb kd kp a x p s f)
        case first =>
          clear CD EP CC E1 AW
          as_aux_lemma =>
            refine wp_region_noPanic ?_
            refine wp_region_held_drew (S := (fun W => LL w W ka kb kd a x s f)) (by kernel_rfl) L8.out.drew (fun hHeld => ?_)
            refine take_lit (i := 0) (v := (.agg #[.int .i64 s, .int .i64 f])) 35 rfl rfl (by kernel_rfl) (by kernel_rfl) (by kernel_rfl) (fun _ _ _ h => h) (yieldsIf_load_mid (by rfl) _ _ rfl _ _ rfl _ _ (fun W p => LL.rd p) Try.underlying26 rfl info_dyn) (by assumption) ?_
            simp only [Act.put, List.setIfInBounds_toArray, List.set_cons_zero, List.set_cons_succ]
            refine take_lit (i := 1) (v := (.agg #[.int .i64 a.kind, .int .i64 a.tos, .int .i64 a.id, .int .i64 a.fixed, .int .i64 a.ttl, .int .i64 a.frm, .int .i64 a.to, .int .i64 a.fromPort, .int .i64 a.toPort, .int .i64 a.check, .int .i64 a.marker, .int .i64 a.type, .int .i64 a.seq, .int .i64 a.time, .int .i64 a.source])) 36 rfl rfl (by kernel_rfl) (by kernel_rfl) (by kernel_rfl) (fun _ _ _ h => h) (yieldsIf_load_mid (by rfl) _ _ rfl _ _ rfl _ _ (fun W p => LL.ra p) Try.underlying23 rfl info_hd) (by assumption) ?_
            simp only [Act.put, List.setIfInBounds_toArray, List.set_cons_zero, List.set_cons_succ]
            refine take_lit (i := 2) (v := (.agg #[.int .i64 x.kind, .int .i64 x.tos, .int .i64 x.id, .int .i64 x.fixed, .int .i64 x.ttl, .int .i64 x.frm, .int .i64 x.to, .int .i64 x.fromPort, .int .i64 x.toPort, .int .i64 x.check, .int .i64 x.marker, .int .i64 x.type, .int .i64 x.seq, .int .i64 x.time, .int .i64 x.source])) 37 rfl rfl (by kernel_rfl) (by kernel_rfl) (by kernel_rfl) (fun _ _ _ h => h) (yieldsIf_load_mid (by rfl) _ _ rfl _ _ rfl _ _ (fun W p => LL.rb p) Try.underlying23 rfl info_hd) (by assumption) ?_
            simp only [Act.put, List.setIfInBounds_toArray, List.set_cons_zero, List.set_cons_succ]
            refine wpAnyH_ready (rs := [3, 5]) (by kernel_rfl) (by simp) ?_
            refine AllReadyH.cons rfl (fun K hK => ?_) (AllReadyH.cons rfl (fun K hK => ?_) AllReadyH.nil)
            · go_simp
              go_at_call 13
              refine (CN.out _).mono ?_
              rintro e v1 ⟨rfl, hb1⟩
              have A1 := Lib.hid (LL.below (L8.out.drew) hb1)
              refine hK.out _ _ A1.out (fun hHeld => ?_)
              clear hK K
              refine wpAnyH_ready (rs := [4, 5]) (by kernel_rfl) (by simp) ?_
              refine AllReadyH.cons rfl (fun K hK => ?_) (AllReadyH.cons rfl (fun K hK => ?_) AllReadyH.nil)
              · go_simp
                go_at_call 17
                refine (CP.out _).mono ?_
                rintro e v2 ⟨rfl, hb2⟩
                have A2 := Lib.hid (LL.below (A1.out) hb2)
                refine hK.out _ _ A2.out (fun hHeld => ?_)
                clear hK K
                refine wpAnyH_ready (rs := [5]) (by kernel_rfl) (by simp) ?_
                refine AllReadyH.cons rfl (fun K hK => ?_) AllReadyH.nil
                · go_simp
                  have KZ2 := heap_alloc_new v2 (.cells #[.int .i64 0, .int .i64 0, .int .i64 0, .int .i64 0, .int .i64 0, .int .i64 0, .int .i64 0, .int .i64 0, .int .i64 0, .int .i64 0, .int .i64 0, .int .i64 0, .int .i64 0, .int .i64 0, .int .i64 0] 23)
                  refine hK.out _ _ (LL.alloc (A2.out) _) (fun hHeld => ?_)
                  clear hK K
                  refine wpAnyH_ready (rs := [6]) (by kernel_rfl) (by simp) ?_
                  refine AllReadyH.cons rfl (fun K hK => ?_) AllReadyH.nil
                  refine step_store_hd (x := ⟨0, 0, 0, 0, 0, 0, 0, 0, 0, 0, 0, 0, 0, 0, 0⟩) rfl rfl _ _ rfl rfl rfl KZ2 ?_
                  intro u KU GU
                  have SU := Lib.hid (LL.row (LL.alloc (A2.out) _) GU (LL.bl (A2.out)).size (Nat.ne_of_lt (lt_of_block (LL.pa (A2.out)))) (Nat.ne_of_lt (lt_of_block (LL.pb (A2.out)))) (Nat.ne_of_lt (lt_of_block (LL.pd (A2.out)))))
                  refine hK.out _ _ SU.out (fun hHeld => ?_)
                  clear hK K
                  refine wpAnyH_done (by kernel_rfl) ?_ _
                  refine NoPanic.normal ?_
                  go_wp2
                  go_meet
                  exact ⟨_, rfl, ⟨Nat.ne_of_lt (lt_of_block (LL.pa (A2.out))), Nat.ne_of_lt (lt_of_block (LL.pb (A2.out))), Nat.ne_of_lt (lt_of_block (LL.pd (A2.out)))⟩, (LL.bl (A2.out)).size, ⟨SU.out.pa, SU.out.pb, KU, SU.out.pd, SU.out.bl⟩⟩
              · go_simp
                have KZ1 := heap_alloc_new v1 (.cells #[.int .i64 0, .int .i64 0, .int .i64 0, .int .i64 0, .int .i64 0, .int .i64 0, .int .i64 0, .int .i64 0, .int .i64 0, .int .i64 0, .int .i64 0, .int .i64 0, .int .i64 0, .int .i64 0, .int .i64 0] 23)
                refine hK.out _ _ (LL.alloc (A1.out) _) (fun hHeld => ?_)
                clear hK K
                refine wpAnyH_ready (rs := [4]) (by kernel_rfl) (by simp) ?_
                refine AllReadyH.cons rfl (fun K hK => ?_) AllReadyH.nil
                · go_simp
                  go_at_call 17
                  refine (CP.out _).mono ?_
                  rintro e v2 ⟨rfl, hb2⟩
                  have A2 := Lib.hid (LL.below (LL.alloc (A1.out) _) hb2)
                  have KZ2 := (hb2.block _ (lt_of_block KZ1)).trans KZ1
                  refine hK.out _ _ A2.out (fun hHeld => ?_)
                  clear hK K
                  refine wpAnyH_ready (rs := [6]) (by kernel_rfl) (by simp) ?_
                  refine AllReadyH.cons rfl (fun K hK => ?_) AllReadyH.nil
                  refine step_store_hd (x := ⟨0, 0, 0, 0, 0, 0, 0, 0, 0, 0, 0, 0, 0, 0, 0⟩) rfl rfl _ _ rfl rfl rfl KZ2 ?_
                  intro u KU GU
                  have SU := Lib.hid (LL.row (A2.out) GU (LL.bl (A1.out)).size (Nat.ne_of_lt (lt_of_block (LL.pa (A1.out)))) (Nat.ne_of_lt (lt_of_block (LL.pb (A1.out)))) (Nat.ne_of_lt (lt_of_block (LL.pd (A1.out)))))
                  refine hK.out _ _ SU.out (fun hHeld => ?_)
                  clear hK K
                  refine wpAnyH_done (by kernel_rfl) ?_ _
                  refine NoPanic.normal ?_
                  go_wp2
                  go_meet
                  exact ⟨_, rfl, ⟨Nat.ne_of_lt (lt_of_block (LL.pa (A1.out))), Nat.ne_of_lt (lt_of_block (LL.pb (A1.out))), Nat.ne_of_lt (lt_of_block (LL.pd (A1.out)))⟩, (LL.bl (A1.out)).size, ⟨SU.out.pa, SU.out.pb, KU, SU.out.pd, SU.out.bl⟩⟩
            · go_simp
              have KZ0 : ((w8.alloc (.cells #[.int .i64 0, .int .i64 0, .int .i64 0, .int .i64 0, .int .i64 0, .int .i64 0, .int .i64 0, .int .i64 0, .int .i64 0, .int .i64 0, .int .i64 0, .int .i64 0, .int .i64 0, .int .i64 0, .int .i64 0] 23)).drew).heap[w8.heap.size]? = some (.cells #[.int .i64 0, .int .i64 0, .int .i64 0, .int .i64 0, .int .i64 0, .int .i64 0, .int .i64 0, .int .i64 0, .int .i64 0, .int .i64 0, .int .i64 0, .int .i64 0, .int .i64 0, .int .i64 0, .int .i64 0] 23 (0, 0)) := heap_alloc_new w8 _
              refine hK.out _ _ ((LL.alloc (L8.out) _).drew) (fun hHeld => ?_)
              clear hK K
              refine wpAnyH_ready (rs := [3]) (by kernel_rfl) (by simp) ?_
              refine AllReadyH.cons rfl (fun K hK => ?_) AllReadyH.nil
              · go_simp
                go_at_call 13
                refine (CN.out _).mono ?_
                rintro e v1 ⟨rfl, hb1⟩
                have A1 := Lib.hid (LL.below ((LL.alloc (L8.out) _).drew) hb1)
                have KZ1 := (hb1.block _ (lt_of_block KZ0)).trans KZ0
                refine hK.out _ _ A1.out (fun hHeld => ?_)
                clear hK K
                refine wpAnyH_ready (rs := [4]) (by kernel_rfl) (by simp) ?_
                refine AllReadyH.cons rfl (fun K hK => ?_) AllReadyH.nil
                · go_simp
                  go_at_call 17
                  refine (CP.out _).mono ?_
                  rintro e v2 ⟨rfl, hb2⟩
                  have A2 := Lib.hid (LL.below (A1.out) hb2)
                  have KZ2 := (hb2.block _ (lt_of_block KZ1)).trans KZ1
                  refine hK.out _ _ A2.out (fun hHeld => ?_)
                  clear hK K
                  refine wpAnyH_ready (rs := [6]) (by kernel_rfl) (by simp) ?_
                  refine AllReadyH.cons rfl (fun K hK => ?_) AllReadyH.nil
                  refine step_store_hd (x := ⟨0, 0, 0, 0, 0, 0, 0, 0, 0, 0, 0, 0, 0, 0, 0⟩) rfl rfl _ _ rfl rfl rfl KZ2 ?_
                  intro u KU GU
                  have SU := Lib.hid (LL.row (A2.out) GU (LL.bl (L8.out)).size (Nat.ne_of_lt (lt_of_block (LL.pa (L8.out)))) (Nat.ne_of_lt (lt_of_block (LL.pb (L8.out)))) (Nat.ne_of_lt (lt_of_block (LL.pd (L8.out)))))
                  refine hK.out _ _ SU.out (fun hHeld => ?_)
                  clear hK K
                  refine wpAnyH_done (by kernel_rfl) ?_ _
                  refine NoPanic.normal ?_
                  go_wp2
                  go_meet
                  exact ⟨_, rfl, ⟨Nat.ne_of_lt (lt_of_block (LL.pa (L8.out))), Nat.ne_of_lt (lt_of_block (LL.pb (L8.out))), Nat.ne_of_lt (lt_of_block (LL.pd (L8.out)))⟩, (LL.bl (L8.out)).size, ⟨SU.out.pa, SU.out.pb, KU, SU.out.pd, SU.out.bl⟩⟩
        case rest =>
          obtain ⟨kp, rfl, hne3, hwk, hP⟩ := hcut
          clear L8 CN CP
          have P := Lib.hid hP
          clear hP
          have cb := cells_of P.out.pb
          have cp := cells_of P.out.pp
          have fp := frozen_of P.out.pp
          as_aux_lemma =>
            go_upto_region 13 with fail
            have P1 := Lib.hid (P.out.ck hne3 hwk)
            rw [EP.out] at P1
            clear cb cp fp P EP
            generalize wc.setCell ⟨kp, 9, none⟩ (.int .i64 x.check) = w9 at P1 ⊢
            go_wp2_with (first
              | (go_at_call 8; refine (AW.out _).mono ?_; rintro e w10 ⟨rfl, hb⟩; have P2 := Lib.hid (P1.out.below hb); clear hb P1; have cb := cells_of P2.out.pb; have cp := cells_of P2.out.pp; have cd := cells_of P2.out.pd)
              | (go_at_call 30; refine (CD.out _).mono ?_; rintro e w11 ⟨rfl, hb⟩; have P3 := Lib.hid (P2.out.below hb); clear hb P2 cb cp cd; have ca := cells_of P3.out.pa; have cb := cells_of P3.out.pb)
              | (go_at_call 15; refine (CC.out _).mono ?_; rintro e w12 ⟨rfl, hb⟩; have P4 := Lib.hid (P3.out.below hb); clear hb P3 ca cb)
              | fail)
            go_ret
            exact ⟨rfl, P4.out.bl⟩
  · have hd : decide (n ≤ 400) = false := decide_eq_false hn
    go_enter Try.func5, Try.ntmps5
    go_wp2_with (first
      | (go_at_call 21; refine (light_any _ _ _ _ (by omega)).mono ?_; rintro e w' ⟨rfl, rfl⟩)
      | (go_at_call 8; refine (AW.out _).mono ?_; rintro e w2 ⟨rfl, hb⟩; have B2 := Lib.hid hb; clear hb)
      | fail)
    go_ret
    exact ⟨rfl, B2.out⟩

theorem own : ownKnob Try.prog.godebug = none := by kernel_rfl
theorem laidOut : laidOutB Try.prog = true := by kernel_rfl
theorem read_ints : Try.prog.readableRec 35 = true := by kernel_rfl
theorem read_int : Try.prog.readableRec 3 = true := by kernel_rfl
theorem cells_i : Try.prog.cellsOf 3 = 1 := by kernel_rfl
theorem bytes_i : Try.prog.bytesOf 3 = 8 := by kernel_rfl
theorem lt_ints : 35 < Try.prog.types.size := of_decide_eq_true (by kernel_rfl)
theorem lt_int : 3 < Try.prog.types.size := of_decide_eq_true (by kernel_rfl)

set_option maxRecDepth 100000 in
theorem lifted (os : Os) (started : os.Started) (H : Type) (enc : TypeId × Value → H) :
    ReturnsInHanded {} Try.checked os 5 .any (Rows.flowLearnsSpec.pre6 enc Try.prog Try.f5 Rows.flowLearnsRow.domain false) (Rows.flowLearnsSpec.post enc Try.prog Try.f5 false true false false) := by
  refine law_lifted (C := Try.checked) (rt := 4) [35, 3] own started (by kernel_rfl) Try.func5 laidOut (by rw [Try.params5])
    (fun t ht => by simp only [List.mem_cons, List.not_mem_nil, or_false] at ht; rcases ht with rfl | rfl <;> first | exact ⟨read_ints, lt_ints⟩ | exact ⟨read_int, lt_int⟩) rfl Try.underlying4 rfl
    (fun ds h => by match ds, h with | [d0, d1], _ => rfl)
    (ChangeSpec.witness6 (enc := enc) (C := Try.checked) false ⟨#[], #[.slice none 0 0, .int .i64 0], []⟩ 8 (by kernel_rfl) (by kernel_rfl) (by kernel_rfl) (by kernel_rfl)) ?_
  intro W base args ds p hval hA hsz
  obtain ⟨v0, vs0, d0, ds0, p0, q0, hargs, rfl, rfl, h0, r0⟩ := trodAll_cons hA
  obtain ⟨v1, vs1, d1, ds1, p1, q1, rfl, rfl, rfl, h1, r1⟩ := trodAll_cons r0
  obtain ⟨rfl, rfl, rfl⟩ := trodAll_nil r1
  obtain rfl : args = #[v0, v1] := by cases args; simp_all
  obtain ⟨a0, n0, c0, z0, rfl, s0, nn0⟩ := open_slr Try.underlying35 Try.underlying3 cells_i (by rw [bytes_i]; omega) (hval 0 _ v0 rfl rfl) h0 (fun el spa hd => sized_slice hsz (j := 0) rfl (by rw [hd]; rfl) Try.underlying35)
  obtain ⟨x1, rfl, b1⟩ := open_i64 Try.underlying3 (hval 1 _ v1 rfl rfl) h1
  exact walk W a0 n0 c0 z0 s0 x1 b1

/-- THE STATEMENT -/
theorem proved : Rows.FlowLearnsSaid :=
  OpenClaim.holds_of_wide 5 Try.f5 rfl rfl rfl rfl rfl rfl rfl ⟨rfl, rfl, rfl, rfl, rfl⟩ rfl rfl rfl rfl rfl (by kernel_rfl) Try.func5 (by kernel_rfl)
    (of_decide_eq_true (by kernel_rfl)) (by unfold Func.isWrapper; first | (rw [if_pos (by decide +kernel)]; kernel_rfl) | (rw [if_neg (by decide +kernel)]; exact ⟨rfl, rfl⟩))
    (fun os started H enc _ => lifted os started H enc)
#print axioms proved
end Go.Proofs.Ytphekpkkeiaccaa.flowLearns
