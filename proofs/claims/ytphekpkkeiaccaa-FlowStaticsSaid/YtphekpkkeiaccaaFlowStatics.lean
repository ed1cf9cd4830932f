/-
  FlowStatics: headers that follow each other in a flow have the same static fields, other flows have others; what of a header is static. No condition.
-/
import Derived.Test.YtphekpkkeiaccaaFlAwake
import Derived.Test.YtphekpkkeiaccaaFlChg
import Derived.Test.YtphekpkkeiaccaaRegion
import Derived.Test.YtphekpkkeiaccaaDiceFollow
import Derived.Test.YtphekpkkeiaccaaDiceHeader2
import Derived.Test.YtphekpkkeiaccaaLift
import Derived.Test.YtphekpkkeiaccaaRows
import Derived.Deep.DeepCutAuto
namespace Go.Proofs.Ytphekpkkeiaccaa.flowStatics
open Go Go.RowKit Go.ChangeShapes Go.WideShapes Go.ChangeAt

theorem chgV_self (a : Hd) : chgV a a = 0 := by unfold chgV; simp
theorem chgV_comm (a b : Hd) : chgV a b = chgV b a := by
  unfold chgV
  simp only [@eq_comm _ a.tos, @eq_comm _ a.ttl, @eq_comm _ a.fixed, @eq_comm _ a.type, @eq_comm _ (a.check == 0)]
theorem _root_.Go.Proofs.Ytphekpkkeiaccaa.FolS.chg {h x : Hd} {s : Int} (q : FolS h x s) : chgV h x = 0 := by
  have e : (x.check == 0) = (h.check == 0) := by
    apply Bool.eq_iff_iff.2
    simp [q.check]
  unfold chgV
  rw [q.tos, q.ttl, q.fixed, q.type, e]
  simp

structure H4 (W : World) (ka kb kc ks : Nat) (a b c s : Hd) : Prop where
  pa : W.heap[ka]? = some (.cells #[.int .i64 a.kind, .int .i64 a.tos, .int .i64 a.id, .int .i64 a.fixed, .int .i64 a.ttl, .int .i64 a.frm, .int .i64 a.to, .int .i64 a.fromPort, .int .i64 a.toPort, .int .i64 a.check, .int .i64 a.marker, .int .i64 a.type, .int .i64 a.seq, .int .i64 a.time, .int .i64 a.source] 23 (0, 0))
  pb : W.heap[kb]? = some (.cells #[.int .i64 b.kind, .int .i64 b.tos, .int .i64 b.id, .int .i64 b.fixed, .int .i64 b.ttl, .int .i64 b.frm, .int .i64 b.to, .int .i64 b.fromPort, .int .i64 b.toPort, .int .i64 b.check, .int .i64 b.marker, .int .i64 b.type, .int .i64 b.seq, .int .i64 b.time, .int .i64 b.source] 23 (0, 0))
  pc : W.heap[kc]? = some (.cells #[.int .i64 c.kind, .int .i64 c.tos, .int .i64 c.id, .int .i64 c.fixed, .int .i64 c.ttl, .int .i64 c.frm, .int .i64 c.to, .int .i64 c.fromPort, .int .i64 c.toPort, .int .i64 c.check, .int .i64 c.marker, .int .i64 c.type, .int .i64 c.seq, .int .i64 c.time, .int .i64 c.source] 23 (0, 0))
  ps : W.heap[ks]? = some (.cells #[.int .i64 s.kind, .int .i64 s.tos, .int .i64 s.id, .int .i64 s.fixed, .int .i64 s.ttl, .int .i64 s.frm, .int .i64 s.to, .int .i64 s.fromPort, .int .i64 s.toPort, .int .i64 s.check, .int .i64 s.marker, .int .i64 s.type, .int .i64 s.seq, .int .i64 s.time, .int .i64 s.source] 23 (0, 0))
theorem H4.below {w w' : World} {ka kb kc ks : Nat} {a b c s : Hd} (p : H4 w ka kb kc ks a b c s) (hb : Below w.heap.size w w') : H4 w' ka kb kc ks a b c s :=
  ⟨(hb.block _ (lt_of_block p.pa)).trans p.pa, (hb.block _ (lt_of_block p.pb)).trans p.pb, (hb.block _ (lt_of_block p.pc)).trans p.pc, (hb.block _ (lt_of_block p.ps)).trans p.ps⟩
theorem H4.drew {w : World} {ka kb kc ks : Nat} {a b c s : Hd} (p : H4 w ka kb kc ks a b c s) : H4 w.drew ka kb kc ks a b c s := ⟨p.pa, p.pb, p.pc, p.ps⟩
theorem H4.ra {W : World} {ka kb kc ks : Nat} {a b c s : Hd} (p : H4 W ka kb kc ks a b c s) : W.rangeAt ka 0 [.int .i64 a.kind, .int .i64 a.tos, .int .i64 a.id, .int .i64 a.fixed, .int .i64 a.ttl, .int .i64 a.frm, .int .i64 a.to, .int .i64 a.fromPort, .int .i64 a.toPort, .int .i64 a.check, .int .i64 a.marker, .int .i64 a.type, .int .i64 a.seq, .int .i64 a.time, .int .i64 a.source] := World.rangeAt_of_block p.pa 0 15
theorem H4.rb {W : World} {ka kb kc ks : Nat} {a b c s : Hd} (p : H4 W ka kb kc ks a b c s) : W.rangeAt kb 0 [.int .i64 b.kind, .int .i64 b.tos, .int .i64 b.id, .int .i64 b.fixed, .int .i64 b.ttl, .int .i64 b.frm, .int .i64 b.to, .int .i64 b.fromPort, .int .i64 b.toPort, .int .i64 b.check, .int .i64 b.marker, .int .i64 b.type, .int .i64 b.seq, .int .i64 b.time, .int .i64 b.source] := World.rangeAt_of_block p.pb 0 15
theorem H4.rc {W : World} {ka kb kc ks : Nat} {a b c s : Hd} (p : H4 W ka kb kc ks a b c s) : W.rangeAt kc 0 [.int .i64 c.kind, .int .i64 c.tos, .int .i64 c.id, .int .i64 c.fixed, .int .i64 c.ttl, .int .i64 c.frm, .int .i64 c.to, .int .i64 c.fromPort, .int .i64 c.toPort, .int .i64 c.check, .int .i64 c.marker, .int .i64 c.type, .int .i64 c.seq, .int .i64 c.time, .int .i64 c.source] := World.rangeAt_of_block p.pc 0 15
theorem H4.rs {W : World} {ka kb kc ks : Nat} {a b c s : Hd} (p : H4 W ka kb kc ks a b c s) : W.rangeAt ks 0 [.int .i64 s.kind, .int .i64 s.tos, .int .i64 s.id, .int .i64 s.fixed, .int .i64 s.ttl, .int .i64 s.frm, .int .i64 s.to, .int .i64 s.fromPort, .int .i64 s.toPort, .int .i64 s.check, .int .i64 s.marker, .int .i64 s.type, .int .i64 s.seq, .int .i64 s.time, .int .i64 s.source] := World.rangeAt_of_block p.ps 0 15
theorem info_hd : (Try.prog.info? 23).map (·.size) = some 15 := by kernel_rfl
theorem info_dyn : (Try.prog.info? 26).map (·.size) = some 2 := by kernel_rfl

set_option maxRecDepth 100000 in
set_option maxHeartbeats 12800000 in
theorem walk (w : World) (a0 : Option Addr) (n cap : Nat) (t : List Int) (hs : Sl .i64 w a0 n t) (r : Bool) :
    Calls Try.prog 7 #[.slice a0 n cap, .bool r] w fun e w' => e = .returned (.bool true) ∧ Below w.heap.size w w' := by
  have hr := hs.reach
  have Hs := Lib.hid hs
  have AW := Lib.hid awake_any
  clear hs
  by_cases hn : n ≤ 400
  · have hd : decide (n ≤ 400) = true := decide_eq_true hn
    go_enter Try.func7, Try.ntmps7
    go_wp2_with (go_at_call 21; refine (light_any _ _ _ _ (by omega)).mono ?_; rintro e w' ⟨rfl, rfl⟩)
    refine (roll_in a0 n cap t _ Hs.out).mono ?_
    rintro e w1 ⟨rfl, hd1, hb1, hz1⟩
    have D1 := Lib.hid hd1
    have B1 := Lib.hid hb1
    have hz1' : w.heap.size < w1.heap.size := by omega
    clear hd1 hb1 hz1 hd AW Hs hr
    have AW := Lib.hid awake_any
    go_wp2_with fail
    refine (next_in w.heap.size 4 _ D1.out (by omega) (by omega)).mono ?_
    rintro e w2 ⟨k, rfl, k0, k1, hd2, hg2⟩
    have D2 := Lib.hid hd2
    have B2 := Lib.hid (B1.out.trans (Below.of_but hg2 (Nat.le_refl _) (by omega)))
    have hz2 := Nat.lt_of_lt_of_le hz1' hg2.size
    clear hd2 hg2
    go_wp2_with fail
    refine (header_made w.heap.size k _ D2.out k0 (by omega)).mono ?_
    rintro e w3 ⟨a, rfl, va, ma, hd3, hg3⟩
    have D3 := Lib.hid hd3
    have B3 := Lib.hid (B2.out.trans (Below.of_but hg3 (Nat.le_refl _) (by omega)))
    have hz3 := Nat.lt_of_lt_of_le hz2 hg3.size
    have VA := Lib.hid va
    have MA := Lib.hid ma
    clear hd3 hg3 va ma
    go_wp2_with fail
    refine (next_in w.heap.size 3 _ D3.out (by omega) (by omega)).mono ?_
    rintro e w4 ⟨q, rfl, q0, q1, hd4, hg4⟩
    have D4 := Lib.hid hd4
    have B4 := Lib.hid (B3.out.trans (Below.of_but hg4 (Nat.le_refl _) (by omega)))
    have hz4 := Nat.lt_of_lt_of_le hz3 hg4.size
    clear hd4 hg4
    go_wp2_with fail
    refine (header_made w.heap.size _ _ D4.out (by omega) (by omega)).mono ?_
    rintro e w5 ⟨b, rfl, vb, mb, hd5, hg5⟩
    have MB := Lib.hid mb
    have D5 := Lib.hid ((hd5.alloc (.cells #[.int .i64 a.kind, .int .i64 a.tos, .int .i64 a.id, .int .i64 a.fixed, .int .i64 a.ttl, .int .i64 a.frm, .int .i64 a.to, .int .i64 a.fromPort, .int .i64 a.toPort, .int .i64 a.check, .int .i64 a.marker, .int .i64 a.type, .int .i64 a.seq, .int .i64 a.time, .int .i64 a.source] 23)).alloc (.cells #[.int .i64 b.kind, .int .i64 b.tos, .int .i64 b.id, .int .i64 b.fixed, .int .i64 b.ttl, .int .i64 b.frm, .int .i64 b.to, .int .i64 b.fromPort, .int .i64 b.toPort, .int .i64 b.check, .int .i64 b.marker, .int .i64 b.type, .int .i64 b.seq, .int .i64 b.time, .int .i64 b.source] 23))
    have B5 := Lib.hid (((B4.out.trans (Below.of_but hg5 (Nat.le_refl _) (by omega))).alloc (by have := hg5.size; omega) (.cells #[.int .i64 a.kind, .int .i64 a.tos, .int .i64 a.id, .int .i64 a.fixed, .int .i64 a.ttl, .int .i64 a.frm, .int .i64 a.to, .int .i64 a.fromPort, .int .i64 a.toPort, .int .i64 a.check, .int .i64 a.marker, .int .i64 a.type, .int .i64 a.seq, .int .i64 a.time, .int .i64 a.source] 23)).alloc (by have := hg5.size; simp; omega) (.cells #[.int .i64 b.kind, .int .i64 b.tos, .int .i64 b.id, .int .i64 b.fixed, .int .i64 b.ttl, .int .i64 b.frm, .int .i64 b.to, .int .i64 b.fromPort, .int .i64 b.toPort, .int .i64 b.check, .int .i64 b.marker, .int .i64 b.type, .int .i64 b.seq, .int .i64 b.time, .int .i64 b.source] 23))
    have hz5 := Nat.lt_of_lt_of_le hz4 hg5.size
    have H5 := Lib.hid (HH.laid w5 a b)
    clear hd5 hg5 vb mb D1 D2 D3 D4 B1 B2 B3 B4 hz1' hz2 hz3 hz4
    go_upto_region 6 with fail
    generalize hW : (w5.alloc (.cells #[.int .i64 a.kind, .int .i64 a.tos, .int .i64 a.id, .int .i64 a.fixed, .int .i64 a.ttl, .int .i64 a.frm, .int .i64 a.to, .int .i64 a.fromPort, .int .i64 a.toPort, .int .i64 a.check, .int .i64 a.marker, .int .i64 a.type, .int .i64 a.seq, .int .i64 a.time, .int .i64 a.source] 23)).alloc (.cells #[.int .i64 b.kind, .int .i64 b.tos, .int .i64 b.id, .int .i64 b.fixed, .int .i64 b.ttl, .int .i64 b.frm, .int .i64 b.to, .int .i64 b.fromPort, .int .i64 b.toPort, .int .i64 b.check, .int .i64 b.marker, .int .i64 b.type, .int .i64 b.seq, .int .i64 b.time, .int .i64 b.source] 23) = w6 at D5 B5 H5 ⊢
    have hz6 : w.heap.size < w6.heap.size := by rw [← hW]; simp; omega
    clear hW
    have ca := cells_of H5.out.1
    go_wp2_with fail
    refine (follow_in w.heap.size a r _ D5.out VA.out).mono ?_
    rintro e w7 ⟨c, rfl, vc, fc, hd7, hg7⟩
    have KA := Lib.hid ((hg7.block _ (lt_of_block H5.out.1) (by simp; omega)).trans H5.out.1)
    have KB := Lib.hid ((hg7.block _ (lt_of_block H5.out.2) (by simp; omega)).trans H5.out.2)
    have B7 := Lib.hid (B5.out.trans (Below.of_but hg7 (Nat.le_refl _) (by omega)))
    have hz7 := Nat.lt_of_lt_of_le hz6 hg7.size
    have VC := Lib.hid vc
    have FC := Lib.hid fc
    clear hd7 hg7 vc fc ca H5 D5 B5
    generalize w5.heap.size + 1 = kb at KB ⊢
    generalize w5.heap.size = ka at KA hz5 ⊢
    go_upto_region 7 with fail
    have KC := Lib.hid (heap_alloc_new w7 (.cells #[.int .i64 c.kind, .int .i64 c.tos, .int .i64 c.id, .int .i64 c.fixed, .int .i64 c.ttl, .int .i64 c.frm, .int .i64 c.to, .int .i64 c.fromPort, .int .i64 c.toPort, .int .i64 c.check, .int .i64 c.marker, .int .i64 c.type, .int .i64 c.seq, .int .i64 c.time, .int .i64 c.source] 23))
    have KA8 := Lib.hid ((heap_alloc_old _ (.cells #[.int .i64 c.kind, .int .i64 c.tos, .int .i64 c.id, .int .i64 c.fixed, .int .i64 c.ttl, .int .i64 c.frm, .int .i64 c.to, .int .i64 c.fromPort, .int .i64 c.toPort, .int .i64 c.check, .int .i64 c.marker, .int .i64 c.type, .int .i64 c.seq, .int .i64 c.time, .int .i64 c.source] 23) (lt_of_block KA.out)).trans KA.out)
    have KB8 := Lib.hid ((heap_alloc_old _ (.cells #[.int .i64 c.kind, .int .i64 c.tos, .int .i64 c.id, .int .i64 c.fixed, .int .i64 c.ttl, .int .i64 c.frm, .int .i64 c.to, .int .i64 c.fromPort, .int .i64 c.toPort, .int .i64 c.check, .int .i64 c.marker, .int .i64 c.type, .int .i64 c.seq, .int .i64 c.time, .int .i64 c.source] 23) (lt_of_block KB.out)).trans KB.out)
    have B8 := Lib.hid (B7.out.alloc B7.out.size (.cells #[.int .i64 c.kind, .int .i64 c.tos, .int .i64 c.id, .int .i64 c.fixed, .int .i64 c.ttl, .int .i64 c.frm, .int .i64 c.to, .int .i64 c.fromPort, .int .i64 c.toPort, .int .i64 c.check, .int .i64 c.marker, .int .i64 c.type, .int .i64 c.seq, .int .i64 c.time, .int .i64 c.source] 23))
    generalize w7.alloc (.cells #[.int .i64 c.kind, .int .i64 c.tos, .int .i64 c.id, .int .i64 c.fixed, .int .i64 c.ttl, .int .i64 c.frm, .int .i64 c.to, .int .i64 c.fromPort, .int .i64 c.toPort, .int .i64 c.check, .int .i64 c.marker, .int .i64 c.type, .int .i64 c.seq, .int .i64 c.time, .int .i64 c.source] 23) = w8 at KC KA8 KB8 B8 ⊢
    generalize w7.heap.size = kc at KC ⊢
    clear KA KB B7 hz5 hz6 hz7
    have ca := cells_of KA8.out
    have ST := Lib.hid (Static_any a)
    have X1 := Lib.hid (show statH a = statH a from rfl)
    go_wp2_with fail
    refine (ST.out _).mono ?_
    rintro e w9 ⟨rfl, hb⟩
    clear ca
    have KS := heap_alloc_new w9 (.cells #[.int .i64 (statH a).kind, .int .i64 (statH a).tos, .int .i64 (statH a).id, .int .i64 (statH a).fixed, .int .i64 (statH a).ttl, .int .i64 (statH a).frm, .int .i64 (statH a).to, .int .i64 (statH a).fromPort, .int .i64 (statH a).toPort, .int .i64 (statH a).check, .int .i64 (statH a).marker, .int .i64 (statH a).type, .int .i64 (statH a).seq, .int .i64 (statH a).time, .int .i64 (statH a).source] 23)
    have A0 : H4 (w9.alloc (.cells #[.int .i64 (statH a).kind, .int .i64 (statH a).tos, .int .i64 (statH a).id, .int .i64 (statH a).fixed, .int .i64 (statH a).ttl, .int .i64 (statH a).frm, .int .i64 (statH a).to, .int .i64 (statH a).fromPort, .int .i64 (statH a).toPort, .int .i64 (statH a).check, .int .i64 (statH a).marker, .int .i64 (statH a).type, .int .i64 (statH a).seq, .int .i64 (statH a).time, .int .i64 (statH a).source] 23)) ka kb kc w9.heap.size a b c (statH a) :=
      ⟨(heap_alloc_old _ _ (lt_of_block ((hb.block _ (lt_of_block KA8.out)).trans KA8.out))).trans ((hb.block _ (lt_of_block KA8.out)).trans KA8.out), (heap_alloc_old _ _ (lt_of_block ((hb.block _ (lt_of_block KB8.out)).trans KB8.out))).trans ((hb.block _ (lt_of_block KB8.out)).trans KB8.out), (heap_alloc_old _ _ (lt_of_block ((hb.block _ (lt_of_block KC.out)).trans KC.out))).trans ((hb.block _ (lt_of_block KC.out)).trans KC.out), KS⟩
    have B0 := Lib.hid ((B8.out.trans (hb.mono B8.out.size)).alloc (Nat.le_trans B8.out.size hb.size) (.cells #[.int .i64 (statH a).kind, .int .i64 (statH a).tos, .int .i64 (statH a).id, .int .i64 (statH a).fixed, .int .i64 (statH a).ttl, .int .i64 (statH a).frm, .int .i64 (statH a).to, .int .i64 (statH a).fromPort, .int .i64 (statH a).toPort, .int .i64 (statH a).check, .int .i64 (statH a).marker, .int .i64 (statH a).type, .int .i64 (statH a).seq, .int .i64 (statH a).time, .int .i64 (statH a).source] 23))
    clear hb KS KC KA8 KB8 B8 ST X1
    have xa : statH (statH a) = statH a := rfl
    have xc : statH c = statH a := by
      have q := VC.out.stat
      unfold statH
      rw [q.kind, q.frm, q.dest, q.fromPort, q.toPort, q.source]
    have C1 := Lib.hid (flSame_any a c)
    have C2 := Lib.hid (flSame_any a b)
    have C3 := Lib.hid (Static_any (statH a))
    have C4 := Lib.hid (flSame_any a (statH a))
    have C5 := Lib.hid (Static_any c)
    have C6 := Lib.hid (Changed_any a a)
    have C7 := Lib.hid (Changed_any a c)
    have C8 := Lib.hid (Changed_any c a)
    rw [show sameB a c = true by unfold sameB; rw [xc]; exact eqB_self _] at C1
    rw [show sameB a b = false by
      unfold sameB
      cases hq : eqB (statH a) (statH b) with
      | false => rfl
      | true =>
        have e := congrArg Hd.toPort ((eqB_iff _ _).1 hq)
        have e1 : a.toPort = b.toPort := e
        rw [MA.out.toPort, MB.out.toPort] at e1
        omega] at C2
    rw [xa] at C3
    rw [show sameB a (statH a) = true by unfold sameB; rw [xa]; exact eqB_self _] at C4
    rw [xc] at C5
    rw [chgV_self] at C6
    rw [chgV_comm c a] at C8
    have C9 : r = true → chgV a c = 0 := fun e => (FC.out e).chg
    have E1 := eql_hd (statH a) (statH a)
    rw [eqB_self] at E1
    generalize statH a = s at C3 C4 C5 E1 A0 B0 ⊢
    generalize chgV a c = m at C7 C8 C9
    replace A0 := Lib.hid A0
    clear xa xc FC VC MA MB VA q0 q1 k0 k1
    go_wp2_with fail
    generalize w9.alloc (.cells #[.int .i64 s.kind, .int .i64 s.tos, .int .i64 s.id, .int .i64 s.fixed, .int .i64 s.ttl, .int .i64 s.frm, .int .i64 s.to, .int .i64 s.fromPort, .int .i64 s.toPort, .int .i64 s.check, .int .i64 s.marker, .int .i64 s.type, .int .i64 s.seq, .int .i64 s.time, .int .i64 s.source] 23) = w10 at A0 B0 ⊢
    generalize w9.heap.size = ks at A0 ⊢
    cases r with
    | true =>
      obtain rfl : m = 0 := C9 rfl
      clear C9
      as_aux_lemma =>
        refine wp_region_noPanic ?_
        refine wp_region_held_drew (S := (fun W => H4 W ka kb kc ks a b c s)) (by kernel_rfl) A0.out.drew (fun hHeld => ?_)
        refine wpAnyH_ready (rs := [0]) (by kernel_rfl) (by simp) ?_
        refine AllReadyH.cons rfl (fun K hK => ?_) AllReadyH.nil
        go_simp
        go_at_call 8
        refine (AW.out _).mono ?_; rintro e v1 ⟨rfl, hb⟩; have A1 := Lib.hid (A0.out.drew.below hb); have B1 := Lib.hid (B0.out.drew.trans (hb.mono B0.out.drew.size)); clear hb A0 B0
        refine hK.out _ _ (A1.out) (fun hHeld => ?_)
        clear hK K
        as_aux_lemma =>
          refine take_lit (i := 1) (v := (.bool true)) 36 rfl rfl (by kernel_rfl) (by kernel_rfl) (by kernel_rfl) (fun _ _ _ h => h) (Or.inl ⟨by rfl, fun w hSw => by go_simp⟩) (by assumption) ?_
          simp only [Act.put, List.setIfInBounds_toArray, List.set_cons_zero, List.set_cons_succ]
          refine take_lit (i := 2) (v := (.agg #[.int .i64 a.kind, .int .i64 a.tos, .int .i64 a.id, .int .i64 a.fixed, .int .i64 a.ttl, .int .i64 a.frm, .int .i64 a.to, .int .i64 a.fromPort, .int .i64 a.toPort, .int .i64 a.check, .int .i64 a.marker, .int .i64 a.type, .int .i64 a.seq, .int .i64 a.time, .int .i64 a.source])) 37 rfl rfl (by kernel_rfl) (by kernel_rfl) (by kernel_rfl) (fun _ _ _ h => h) (yieldsIf_load_mid (by rfl) _ _ rfl _ _ rfl _ _ (fun W p => H4.ra p) Try.underlying23 rfl info_hd) (by assumption) ?_
          simp only [Act.put, List.setIfInBounds_toArray, List.set_cons_zero, List.set_cons_succ]
          refine take_lit (i := 3) (v := (.agg #[.int .i64 c.kind, .int .i64 c.tos, .int .i64 c.id, .int .i64 c.fixed, .int .i64 c.ttl, .int .i64 c.frm, .int .i64 c.to, .int .i64 c.fromPort, .int .i64 c.toPort, .int .i64 c.check, .int .i64 c.marker, .int .i64 c.type, .int .i64 c.seq, .int .i64 c.time, .int .i64 c.source])) 38 rfl rfl (by kernel_rfl) (by kernel_rfl) (by kernel_rfl) (fun _ _ _ h => h) (yieldsIf_load_mid (by rfl) _ _ rfl _ _ rfl _ _ (fun W p => H4.rc p) Try.underlying23 rfl info_hd) (by assumption) ?_
          simp only [Act.put, List.setIfInBounds_toArray, List.set_cons_zero, List.set_cons_succ]
          refine wpAnyH_ready (rs := [4]) (by kernel_rfl) (by simp) ?_
          refine AllReadyH.cons rfl (fun K hK => ?_) AllReadyH.nil
          go_simp
          go_at_call 9
          refine (C1.out _).mono ?_; rintro e v2 ⟨rfl, hb⟩; have A2 := Lib.hid (A1.out.below hb); have B2 := Lib.hid (B1.out.trans (hb.mono B1.out.size)); clear hb A1 B1
          refine hK.out _ _ (A2.out) (fun hHeld => ?_)
          clear hK K
          as_aux_lemma =>
            refine take_lit (i := 5) (v := (.bool true)) 40 rfl rfl (by kernel_rfl) (by kernel_rfl) (by kernel_rfl) (fun _ _ _ h => h) (Or.inl ⟨by rfl, fun w hSw => by go_simp⟩) (by assumption) ?_
            simp only [Act.put, List.setIfInBounds_toArray, List.set_cons_zero, List.set_cons_succ]
            refine take_lit (i := 6) (v := (.bool true)) 41 rfl rfl (by kernel_rfl) (by kernel_rfl) (by kernel_rfl) (fun _ _ _ h => h) (Or.inl ⟨by rfl, fun w hSw => by go_simp⟩) (by assumption) ?_
            simp only [Act.put, List.setIfInBounds_toArray, List.set_cons_zero, List.set_cons_succ]
            refine take_lit (i := 7) (v := (.agg #[.int .i64 a.kind, .int .i64 a.tos, .int .i64 a.id, .int .i64 a.fixed, .int .i64 a.ttl, .int .i64 a.frm, .int .i64 a.to, .int .i64 a.fromPort, .int .i64 a.toPort, .int .i64 a.check, .int .i64 a.marker, .int .i64 a.type, .int .i64 a.seq, .int .i64 a.time, .int .i64 a.source])) 42 rfl rfl (by kernel_rfl) (by kernel_rfl) (by kernel_rfl) (fun _ _ _ h => h) (yieldsIf_load_mid (by rfl) _ _ rfl _ _ rfl _ _ (fun W p => H4.ra p) Try.underlying23 rfl info_hd) (by assumption) ?_
            simp only [Act.put, List.setIfInBounds_toArray, List.set_cons_zero, List.set_cons_succ]
            refine take_lit (i := 8) (v := (.agg #[.int .i64 b.kind, .int .i64 b.tos, .int .i64 b.id, .int .i64 b.fixed, .int .i64 b.ttl, .int .i64 b.frm, .int .i64 b.to, .int .i64 b.fromPort, .int .i64 b.toPort, .int .i64 b.check, .int .i64 b.marker, .int .i64 b.type, .int .i64 b.seq, .int .i64 b.time, .int .i64 b.source])) 43 rfl rfl (by kernel_rfl) (by kernel_rfl) (by kernel_rfl) (fun _ _ _ h => h) (yieldsIf_load_mid (by rfl) _ _ rfl _ _ rfl _ _ (fun W p => H4.rb p) Try.underlying23 rfl info_hd) (by assumption) ?_
            simp only [Act.put, List.setIfInBounds_toArray, List.set_cons_zero, List.set_cons_succ]
            refine wpAnyH_ready (rs := [9]) (by kernel_rfl) (by simp) ?_
            refine AllReadyH.cons rfl (fun K hK => ?_) AllReadyH.nil
            go_simp
            go_at_call 9
            refine (C2.out _).mono ?_; rintro e v3 ⟨rfl, hb⟩; have A3 := Lib.hid (A2.out.below hb); have B3 := Lib.hid (B2.out.trans (hb.mono B2.out.size)); clear hb A2 B2
            refine hK.out _ _ (A3.out) (fun hHeld => ?_)
            clear hK K
            as_aux_lemma =>
              refine take_lit (i := 10) (v := (.bool true)) 45 rfl rfl (by kernel_rfl) (by kernel_rfl) (by kernel_rfl) (fun _ _ _ h => h) (Or.inl ⟨by rfl, fun w hSw => by go_simp⟩) (by assumption) ?_
              simp only [Act.put, List.setIfInBounds_toArray, List.set_cons_zero, List.set_cons_succ]
              refine take_lit (i := 11) (v := (.bool true)) 46 rfl rfl (by kernel_rfl) (by kernel_rfl) (by kernel_rfl) (fun _ _ _ h => h) (Or.inl ⟨by rfl, fun w hSw => by go_simp⟩) (by assumption) ?_
              simp only [Act.put, List.setIfInBounds_toArray, List.set_cons_zero, List.set_cons_succ]
              refine take_lit (i := 12) (v := (.bool true)) 47 rfl rfl (by kernel_rfl) (by kernel_rfl) (by kernel_rfl) (fun _ _ _ h => h) (Or.inl ⟨by rfl, fun w hSw => by go_simp⟩) (by assumption) ?_
              simp only [Act.put, List.setIfInBounds_toArray, List.set_cons_zero, List.set_cons_succ]
              refine take_lit (i := 13) (v := (.agg #[.int .i64 s.kind, .int .i64 s.tos, .int .i64 s.id, .int .i64 s.fixed, .int .i64 s.ttl, .int .i64 s.frm, .int .i64 s.to, .int .i64 s.fromPort, .int .i64 s.toPort, .int .i64 s.check, .int .i64 s.marker, .int .i64 s.type, .int .i64 s.seq, .int .i64 s.time, .int .i64 s.source])) 48 rfl rfl (by kernel_rfl) (by kernel_rfl) (by kernel_rfl) (fun _ _ _ h => h) (yieldsIf_load_mid (by rfl) _ _ rfl _ _ rfl _ _ (fun W p => H4.rs p) Try.underlying23 rfl info_hd) (by assumption) ?_
              simp only [Act.put, List.setIfInBounds_toArray, List.set_cons_zero, List.set_cons_succ]
              refine take_lit (i := 15) (v := (.agg #[.int .i64 s.kind, .int .i64 s.tos, .int .i64 s.id, .int .i64 s.fixed, .int .i64 s.ttl, .int .i64 s.frm, .int .i64 s.to, .int .i64 s.fromPort, .int .i64 s.toPort, .int .i64 s.check, .int .i64 s.marker, .int .i64 s.type, .int .i64 s.seq, .int .i64 s.time, .int .i64 s.source])) 50 rfl rfl (by kernel_rfl) (by kernel_rfl) (by kernel_rfl) (fun _ _ _ h => h) (yieldsIf_load_mid (by rfl) _ _ rfl _ _ rfl _ _ (fun W p => H4.rs p) Try.underlying23 rfl info_hd) (by assumption) ?_
              simp only [Act.put, List.setIfInBounds_toArray, List.set_cons_zero, List.set_cons_succ]
              refine wpAnyH_ready (rs := [14]) (by kernel_rfl) (by simp) ?_
              refine AllReadyH.cons rfl (fun K hK => ?_) AllReadyH.nil
              go_simp
              go_at_call 11
              refine (C3.out _).mono ?_; rintro e v4 ⟨rfl, hb⟩; have A4 := Lib.hid (A3.out.below hb); have B4 := Lib.hid (B3.out.trans (hb.mono B3.out.size)); clear hb A3 B3
              refine hK.out _ _ (A4.out) (fun hHeld => ?_)
              clear hK K
              as_aux_lemma =>
                refine take_lit (i := 16) (v := (.bool true)) 51 rfl rfl (by kernel_rfl) (by kernel_rfl) (by kernel_rfl) (fun _ _ _ h => h) (Or.inl ⟨by rfl, fun w hSw => by go_simp⟩) (by assumption) ?_
                simp only [Act.put, List.setIfInBounds_toArray, List.set_cons_zero, List.set_cons_succ]
                refine take_lit (i := 17) (v := (.bool true)) 52 rfl rfl (by kernel_rfl) (by kernel_rfl) (by kernel_rfl) (fun _ _ _ h => h) (Or.inl ⟨by rfl, fun w hSw => by go_simp⟩) (by assumption) ?_
                simp only [Act.put, List.setIfInBounds_toArray, List.set_cons_zero, List.set_cons_succ]
                refine take_lit (i := 18) (v := (.bool true)) 53 rfl rfl (by kernel_rfl) (by kernel_rfl) (by kernel_rfl) (fun _ _ _ h => h) (Or.inl ⟨by rfl, fun w hSw => by go_simp⟩) (by assumption) ?_
                simp only [Act.put, List.setIfInBounds_toArray, List.set_cons_zero, List.set_cons_succ]
                refine take_lit (i := 19) (v := (.agg #[.int .i64 a.kind, .int .i64 a.tos, .int .i64 a.id, .int .i64 a.fixed, .int .i64 a.ttl, .int .i64 a.frm, .int .i64 a.to, .int .i64 a.fromPort, .int .i64 a.toPort, .int .i64 a.check, .int .i64 a.marker, .int .i64 a.type, .int .i64 a.seq, .int .i64 a.time, .int .i64 a.source])) 54 rfl rfl (by kernel_rfl) (by kernel_rfl) (by kernel_rfl) (fun _ _ _ h => h) (yieldsIf_load_mid (by rfl) _ _ rfl _ _ rfl _ _ (fun W p => H4.ra p) Try.underlying23 rfl info_hd) (by assumption) ?_
                simp only [Act.put, List.setIfInBounds_toArray, List.set_cons_zero, List.set_cons_succ]
                refine take_lit (i := 20) (v := (.agg #[.int .i64 s.kind, .int .i64 s.tos, .int .i64 s.id, .int .i64 s.fixed, .int .i64 s.ttl, .int .i64 s.frm, .int .i64 s.to, .int .i64 s.fromPort, .int .i64 s.toPort, .int .i64 s.check, .int .i64 s.marker, .int .i64 s.type, .int .i64 s.seq, .int .i64 s.time, .int .i64 s.source])) 55 rfl rfl (by kernel_rfl) (by kernel_rfl) (by kernel_rfl) (fun _ _ _ h => h) (yieldsIf_load_mid (by rfl) _ _ rfl _ _ rfl _ _ (fun W p => H4.rs p) Try.underlying23 rfl info_hd) (by assumption) ?_
                simp only [Act.put, List.setIfInBounds_toArray, List.set_cons_zero, List.set_cons_succ]
                refine wpAnyH_ready (rs := [21]) (by kernel_rfl) (by simp) ?_
                refine AllReadyH.cons rfl (fun K hK => ?_) AllReadyH.nil
                go_simp
                go_at_call 9
                refine (C4.out _).mono ?_; rintro e v5 ⟨rfl, hb⟩; have A5 := Lib.hid (A4.out.below hb); have B5 := Lib.hid (B4.out.trans (hb.mono B4.out.size)); clear hb A4 B4
                refine hK.out _ _ (A5.out) (fun hHeld => ?_)
                clear hK K
                as_aux_lemma =>
                  refine take_lit (i := 22) (v := (.bool true)) 57 rfl rfl (by kernel_rfl) (by kernel_rfl) (by kernel_rfl) (fun _ _ _ h => h) (Or.inl ⟨by rfl, fun w hSw => by go_simp⟩) (by assumption) ?_
                  simp only [Act.put, List.setIfInBounds_toArray, List.set_cons_zero, List.set_cons_succ]
                  refine take_lit (i := 23) (v := (.bool true)) 58 rfl rfl (by kernel_rfl) (by kernel_rfl) (by kernel_rfl) (fun _ _ _ h => h) (Or.inl ⟨by rfl, fun w hSw => by go_simp⟩) (by assumption) ?_
                  simp only [Act.put, List.setIfInBounds_toArray, List.set_cons_zero, List.set_cons_succ]
                  refine take_lit (i := 24) (v := (.agg #[.int .i64 c.kind, .int .i64 c.tos, .int .i64 c.id, .int .i64 c.fixed, .int .i64 c.ttl, .int .i64 c.frm, .int .i64 c.to, .int .i64 c.fromPort, .int .i64 c.toPort, .int .i64 c.check, .int .i64 c.marker, .int .i64 c.type, .int .i64 c.seq, .int .i64 c.time, .int .i64 c.source])) 59 rfl rfl (by kernel_rfl) (by kernel_rfl) (by kernel_rfl) (fun _ _ _ h => h) (yieldsIf_load_mid (by rfl) _ _ rfl _ _ rfl _ _ (fun W p => H4.rc p) Try.underlying23 rfl info_hd) (by assumption) ?_
                  simp only [Act.put, List.setIfInBounds_toArray, List.set_cons_zero, List.set_cons_succ]
                  refine take_lit (i := 26) (v := (.agg #[.int .i64 s.kind, .int .i64 s.tos, .int .i64 s.id, .int .i64 s.fixed, .int .i64 s.ttl, .int .i64 s.frm, .int .i64 s.to, .int .i64 s.fromPort, .int .i64 s.toPort, .int .i64 s.check, .int .i64 s.marker, .int .i64 s.type, .int .i64 s.seq, .int .i64 s.time, .int .i64 s.source])) 61 rfl rfl (by kernel_rfl) (by kernel_rfl) (by kernel_rfl) (fun _ _ _ h => h) (yieldsIf_load_mid (by rfl) _ _ rfl _ _ rfl _ _ (fun W p => H4.rs p) Try.underlying23 rfl info_hd) (by assumption) ?_
                  simp only [Act.put, List.setIfInBounds_toArray, List.set_cons_zero, List.set_cons_succ]
                  refine wpAnyH_ready (rs := [25]) (by kernel_rfl) (by simp) ?_
                  refine AllReadyH.cons rfl (fun K hK => ?_) AllReadyH.nil
                  go_simp
                  go_at_call 11
                  refine (C5.out _).mono ?_; rintro e v6 ⟨rfl, hb⟩; have A6 := Lib.hid (A5.out.below hb); have B6 := Lib.hid (B5.out.trans (hb.mono B5.out.size)); clear hb A5 B5
                  refine hK.out _ _ (A6.out) (fun hHeld => ?_)
                  clear hK K
                  as_aux_lemma =>
                    refine take_lit (i := 27) (v := (.bool true)) 62 rfl rfl (by kernel_rfl) (by kernel_rfl) (by kernel_rfl) (fun _ _ _ h => h) (Or.inl ⟨by rfl, fun w hSw => by go_simp⟩) (by assumption) ?_
                    simp only [Act.put, List.setIfInBounds_toArray, List.set_cons_zero, List.set_cons_succ]
                    refine take_lit (i := 28) (v := (.bool true)) 63 rfl rfl (by kernel_rfl) (by kernel_rfl) (by kernel_rfl) (fun _ _ _ h => h) (Or.inl ⟨by rfl, fun w hSw => by go_simp⟩) (by assumption) ?_
                    simp only [Act.put, List.setIfInBounds_toArray, List.set_cons_zero, List.set_cons_succ]
                    refine take_lit (i := 29) (v := (.bool true)) 64 rfl rfl (by kernel_rfl) (by kernel_rfl) (by kernel_rfl) (fun _ _ _ h => h) (Or.inl ⟨by rfl, fun w hSw => by go_simp⟩) (by assumption) ?_
                    simp only [Act.put, List.setIfInBounds_toArray, List.set_cons_zero, List.set_cons_succ]
                    refine take_lit (i := 30) (v := (.agg #[.int .i64 a.kind, .int .i64 a.tos, .int .i64 a.id, .int .i64 a.fixed, .int .i64 a.ttl, .int .i64 a.frm, .int .i64 a.to, .int .i64 a.fromPort, .int .i64 a.toPort, .int .i64 a.check, .int .i64 a.marker, .int .i64 a.type, .int .i64 a.seq, .int .i64 a.time, .int .i64 a.source])) 65 rfl rfl (by kernel_rfl) (by kernel_rfl) (by kernel_rfl) (fun _ _ _ h => h) (yieldsIf_load_mid (by rfl) _ _ rfl _ _ rfl _ _ (fun W p => H4.ra p) Try.underlying23 rfl info_hd) (by assumption) ?_
                    simp only [Act.put, List.setIfInBounds_toArray, List.set_cons_zero, List.set_cons_succ]
                    refine take_lit (i := 31) (v := (.agg #[.int .i64 a.kind, .int .i64 a.tos, .int .i64 a.id, .int .i64 a.fixed, .int .i64 a.ttl, .int .i64 a.frm, .int .i64 a.to, .int .i64 a.fromPort, .int .i64 a.toPort, .int .i64 a.check, .int .i64 a.marker, .int .i64 a.type, .int .i64 a.seq, .int .i64 a.time, .int .i64 a.source])) 66 rfl rfl (by kernel_rfl) (by kernel_rfl) (by kernel_rfl) (fun _ _ _ h => h) (yieldsIf_load_mid (by rfl) _ _ rfl _ _ rfl _ _ (fun W p => H4.ra p) Try.underlying23 rfl info_hd) (by assumption) ?_
                    simp only [Act.put, List.setIfInBounds_toArray, List.set_cons_zero, List.set_cons_succ]
                    refine wpAnyH_ready (rs := [32]) (by kernel_rfl) (by simp) ?_
                    refine AllReadyH.cons rfl (fun K hK => ?_) AllReadyH.nil
                    go_simp
                    go_at_call 15
                    refine (C6.out _).mono ?_; rintro e v7 ⟨rfl, hb⟩; have A7 := Lib.hid (A6.out.below hb); have B7 := Lib.hid (B6.out.trans (hb.mono B6.out.size)); clear hb A6 B6
                    refine hK.out _ _ (A7.out) (fun hHeld => ?_)
                    clear hK K
                    as_aux_lemma =>
                      refine take_lit (i := 33) (v := (.bool true)) 68 rfl rfl (by kernel_rfl) (by kernel_rfl) (by kernel_rfl) (fun _ _ _ h => h) (Or.inl ⟨by rfl, fun w hSw => by go_simp⟩) (by assumption) ?_
                      simp only [Act.put, List.setIfInBounds_toArray, List.set_cons_zero, List.set_cons_succ]
                      refine take_lit (i := 34) (v := (.bool true)) 69 rfl rfl (by kernel_rfl) (by kernel_rfl) (by kernel_rfl) (fun _ _ _ h => h) (Or.inl ⟨by rfl, fun w hSw => by go_simp⟩) (by assumption) ?_
                      simp only [Act.put, List.setIfInBounds_toArray, List.set_cons_zero, List.set_cons_succ]
                      refine take_lit (i := 35) (v := (.bool true)) 70 rfl rfl (by kernel_rfl) (by kernel_rfl) (by kernel_rfl) (fun _ _ _ h => h) (Or.inl ⟨by rfl, fun w hSw => by go_simp⟩) (by assumption) ?_
                      simp only [Act.put, List.setIfInBounds_toArray, List.set_cons_zero, List.set_cons_succ]
                      refine take_lit (i := 36) (v := (.agg #[.int .i64 a.kind, .int .i64 a.tos, .int .i64 a.id, .int .i64 a.fixed, .int .i64 a.ttl, .int .i64 a.frm, .int .i64 a.to, .int .i64 a.fromPort, .int .i64 a.toPort, .int .i64 a.check, .int .i64 a.marker, .int .i64 a.type, .int .i64 a.seq, .int .i64 a.time, .int .i64 a.source])) 71 rfl rfl (by kernel_rfl) (by kernel_rfl) (by kernel_rfl) (fun _ _ _ h => h) (yieldsIf_load_mid (by rfl) _ _ rfl _ _ rfl _ _ (fun W p => H4.ra p) Try.underlying23 rfl info_hd) (by assumption) ?_
                      simp only [Act.put, List.setIfInBounds_toArray, List.set_cons_zero, List.set_cons_succ]
                      refine take_lit (i := 37) (v := (.agg #[.int .i64 c.kind, .int .i64 c.tos, .int .i64 c.id, .int .i64 c.fixed, .int .i64 c.ttl, .int .i64 c.frm, .int .i64 c.to, .int .i64 c.fromPort, .int .i64 c.toPort, .int .i64 c.check, .int .i64 c.marker, .int .i64 c.type, .int .i64 c.seq, .int .i64 c.time, .int .i64 c.source])) 72 rfl rfl (by kernel_rfl) (by kernel_rfl) (by kernel_rfl) (fun _ _ _ h => h) (yieldsIf_load_mid (by rfl) _ _ rfl _ _ rfl _ _ (fun W p => H4.rc p) Try.underlying23 rfl info_hd) (by assumption) ?_
                      simp only [Act.put, List.setIfInBounds_toArray, List.set_cons_zero, List.set_cons_succ]
                      refine take_lit (i := 39) (v := (.agg #[.int .i64 c.kind, .int .i64 c.tos, .int .i64 c.id, .int .i64 c.fixed, .int .i64 c.ttl, .int .i64 c.frm, .int .i64 c.to, .int .i64 c.fromPort, .int .i64 c.toPort, .int .i64 c.check, .int .i64 c.marker, .int .i64 c.type, .int .i64 c.seq, .int .i64 c.time, .int .i64 c.source])) 74 rfl rfl (by kernel_rfl) (by kernel_rfl) (by kernel_rfl) (fun _ _ _ h => h) (yieldsIf_load_mid (by rfl) _ _ rfl _ _ rfl _ _ (fun W p => H4.rc p) Try.underlying23 rfl info_hd) (by assumption) ?_
                      simp only [Act.put, List.setIfInBounds_toArray, List.set_cons_zero, List.set_cons_succ]
                      refine take_lit (i := 40) (v := (.agg #[.int .i64 a.kind, .int .i64 a.tos, .int .i64 a.id, .int .i64 a.fixed, .int .i64 a.ttl, .int .i64 a.frm, .int .i64 a.to, .int .i64 a.fromPort, .int .i64 a.toPort, .int .i64 a.check, .int .i64 a.marker, .int .i64 a.type, .int .i64 a.seq, .int .i64 a.time, .int .i64 a.source])) 75 rfl rfl (by kernel_rfl) (by kernel_rfl) (by kernel_rfl) (fun _ _ _ h => h) (yieldsIf_load_mid (by rfl) _ _ rfl _ _ rfl _ _ (fun W p => H4.ra p) Try.underlying23 rfl info_hd) (by assumption) ?_
                      simp only [Act.put, List.setIfInBounds_toArray, List.set_cons_zero, List.set_cons_succ]
                      refine wpAnyH_ready (rs := [38]) (by kernel_rfl) (by simp) ?_
                      refine AllReadyH.cons rfl (fun K hK => ?_) AllReadyH.nil
                      go_simp
                      go_at_call 15
                      refine (C7.out _).mono ?_; rintro e v8 ⟨rfl, hb⟩; have A8 := Lib.hid (A7.out.below hb); have B8 := Lib.hid (B7.out.trans (hb.mono B7.out.size)); clear hb A7 B7
                      refine hK.out _ _ (A8.out) (fun hHeld => ?_)
                      clear hK K
                      as_aux_lemma =>
                        refine wpAnyH_ready (rs := [41]) (by kernel_rfl) (by simp) ?_
                        refine AllReadyH.cons rfl (fun K hK => ?_) AllReadyH.nil
                        go_simp
                        go_at_call 15
                        refine (C8.out _).mono ?_; rintro e v9 ⟨rfl, hb⟩; have A9 := Lib.hid (A8.out.below hb); have B9 := Lib.hid (B8.out.trans (hb.mono B8.out.size)); clear hb A8 B8
                        refine hK.out _ _ (A9.out) (fun hHeld => ?_)
                        clear hK K
                        as_aux_lemma =>
                          refine take_lit (i := 42) (v := (.bool true)) 77 rfl rfl (by kernel_rfl) (by kernel_rfl) (by kernel_rfl) (fun _ _ _ h => h) (Or.inl ⟨by rfl, fun w hSw => by go_simp⟩) (by assumption) ?_
                          simp only [Act.put, List.setIfInBounds_toArray, List.set_cons_zero, List.set_cons_succ]
                          refine take_lit (i := 43) (v := (.bool true)) 78 rfl rfl (by kernel_rfl) (by kernel_rfl) (by kernel_rfl) (fun _ _ _ h => h) (Or.inl ⟨by rfl, fun w hSw => by go_simp⟩) (by assumption) ?_
                          simp only [Act.put, List.setIfInBounds_toArray, List.set_cons_zero, List.set_cons_succ]
                          refine take_lit (i := 44) (v := (.bool true)) 79 rfl rfl (by kernel_rfl) (by kernel_rfl) (by kernel_rfl) (fun _ _ _ h => h) (Or.inl ⟨by rfl, fun w hSw => by go_simp⟩) (by assumption) ?_
                          simp only [Act.put, List.setIfInBounds_toArray, List.set_cons_zero, List.set_cons_succ]
                          refine take_lit (i := 45) (v := (.bool true)) 80 rfl rfl (by kernel_rfl) (by kernel_rfl) (by kernel_rfl) (fun _ _ _ h => h) (Or.inl ⟨by rfl, fun w hSw => by go_simp⟩) (by assumption) ?_
                          simp only [Act.put, List.setIfInBounds_toArray, List.set_cons_zero, List.set_cons_succ]
                          refine take_lit (i := 46) (v := (.bool false)) 81 rfl rfl (by kernel_rfl) (by kernel_rfl) (by kernel_rfl) (fun _ _ _ h => h) (Or.inl ⟨by rfl, fun w hSw => by go_simp⟩) (by assumption) ?_
                          simp only [Act.put, List.setIfInBounds_toArray, List.set_cons_zero, List.set_cons_succ]
                          refine take_lit (i := 47) (v := (.bool false)) 82 rfl rfl (by kernel_rfl) (by kernel_rfl) (by kernel_rfl) (fun _ _ _ h => h) (Or.inl ⟨by rfl, fun w hSw => by go_simp⟩) (by assumption) ?_
                          simp only [Act.put, List.setIfInBounds_toArray, List.set_cons_zero, List.set_cons_succ]
                          refine take_lit (i := 48) (v := (.agg #[.int .i64 a.kind, .int .i64 a.tos, .int .i64 a.id, .int .i64 a.fixed, .int .i64 a.ttl, .int .i64 a.frm, .int .i64 a.to, .int .i64 a.fromPort, .int .i64 a.toPort, .int .i64 a.check, .int .i64 a.marker, .int .i64 a.type, .int .i64 a.seq, .int .i64 a.time, .int .i64 a.source])) 83 rfl rfl (by kernel_rfl) (by kernel_rfl) (by kernel_rfl) (fun _ _ _ h => h) (yieldsIf_load_mid (by rfl) _ _ rfl _ _ rfl _ _ (fun W p => H4.ra p) Try.underlying23 rfl info_hd) (by assumption) ?_
                          simp only [Act.put, List.setIfInBounds_toArray, List.set_cons_zero, List.set_cons_succ]
                          refine take_lit (i := 49) (v := (.agg #[.int .i64 c.kind, .int .i64 c.tos, .int .i64 c.id, .int .i64 c.fixed, .int .i64 c.ttl, .int .i64 c.frm, .int .i64 c.to, .int .i64 c.fromPort, .int .i64 c.toPort, .int .i64 c.check, .int .i64 c.marker, .int .i64 c.type, .int .i64 c.seq, .int .i64 c.time, .int .i64 c.source])) 84 rfl rfl (by kernel_rfl) (by kernel_rfl) (by kernel_rfl) (fun _ _ _ h => h) (yieldsIf_load_mid (by rfl) _ _ rfl _ _ rfl _ _ (fun W p => H4.rc p) Try.underlying23 rfl info_hd) (by assumption) ?_
                          simp only [Act.put, List.setIfInBounds_toArray, List.set_cons_zero, List.set_cons_succ]
                          refine wpAnyH_ready (rs := [50]) (by kernel_rfl) (by simp) ?_
                          refine AllReadyH.cons rfl (fun K hK => ?_) AllReadyH.nil
                          go_simp
                          go_at_call 15
                          refine (C7.out _).mono ?_; rintro e v10 ⟨rfl, hb⟩; have A10 := Lib.hid (A9.out.below hb); have B10 := Lib.hid (B9.out.trans (hb.mono B9.out.size)); clear hb A9 B9
                          refine hK.out _ _ (A10.out) (fun hHeld => ?_)
                          clear hK K
                          as_aux_lemma =>
                            refine take_lit (i := 51) (v := (.bool true)) 86 rfl rfl (by kernel_rfl) (by kernel_rfl) (by kernel_rfl) (fun _ _ _ h => h) (Or.inl ⟨by rfl, fun w hSw => by go_simp⟩) (by assumption) ?_
                            simp only [Act.put, List.setIfInBounds_toArray, List.set_cons_zero, List.set_cons_succ]
                            refine take_lit (i := 52) (v := (.bool true)) 87 rfl rfl (by kernel_rfl) (by kernel_rfl) (by kernel_rfl) (fun _ _ _ h => h) (Or.inl ⟨by rfl, fun w hSw => by go_simp⟩) (by assumption) ?_
                            simp only [Act.put, List.setIfInBounds_toArray, List.set_cons_zero, List.set_cons_succ]
                            refine take_lit (i := 53) (v := (.bool true)) 88 rfl rfl (by kernel_rfl) (by kernel_rfl) (by kernel_rfl) (fun _ _ _ h => h) (Or.inl ⟨by rfl, fun w hSw => by go_simp⟩) (by assumption) ?_
                            simp only [Act.put, List.setIfInBounds_toArray, List.set_cons_zero, List.set_cons_succ]
                            refine take_lit (i := 54) (v := (.bool true)) 4 rfl rfl (by kernel_rfl) (by kernel_rfl) (by kernel_rfl) (fun _ _ _ h => h) (Or.inl ⟨by rfl, fun w hSw => by go_simp⟩) (by assumption) ?_
                            simp only [Act.put, List.setIfInBounds_toArray, List.set_cons_zero, List.set_cons_succ]
                            refine wpAnyH_done (by kernel_rfl) ?_ _
                            refine NoPanic.normal ?_
                            go_wp2
                            go_ret
                            exact ⟨rfl, B10.out⟩
    | false =>
      clear C9
      as_aux_lemma =>
        refine wp_region_noPanic ?_
        refine wp_region_held_drew (S := (fun W => H4 W ka kb kc ks a b c s)) (by kernel_rfl) A0.out.drew (fun hHeld => ?_)
        refine wpAnyH_ready (rs := [0]) (by kernel_rfl) (by simp) ?_
        refine AllReadyH.cons rfl (fun K hK => ?_) AllReadyH.nil
        go_simp
        go_at_call 8
        refine (AW.out _).mono ?_; rintro e v1 ⟨rfl, hb⟩; have A1 := Lib.hid (A0.out.drew.below hb); have B1 := Lib.hid (B0.out.drew.trans (hb.mono B0.out.drew.size)); clear hb A0 B0
        refine hK.out _ _ (A1.out) (fun hHeld => ?_)
        clear hK K
        as_aux_lemma =>
          refine take_lit (i := 1) (v := (.bool true)) 36 rfl rfl (by kernel_rfl) (by kernel_rfl) (by kernel_rfl) (fun _ _ _ h => h) (Or.inl ⟨by rfl, fun w hSw => by go_simp⟩) (by assumption) ?_
          simp only [Act.put, List.setIfInBounds_toArray, List.set_cons_zero, List.set_cons_succ]
          refine take_lit (i := 2) (v := (.agg #[.int .i64 a.kind, .int .i64 a.tos, .int .i64 a.id, .int .i64 a.fixed, .int .i64 a.ttl, .int .i64 a.frm, .int .i64 a.to, .int .i64 a.fromPort, .int .i64 a.toPort, .int .i64 a.check, .int .i64 a.marker, .int .i64 a.type, .int .i64 a.seq, .int .i64 a.time, .int .i64 a.source])) 37 rfl rfl (by kernel_rfl) (by kernel_rfl) (by kernel_rfl) (fun _ _ _ h => h) (yieldsIf_load_mid (by rfl) _ _ rfl _ _ rfl _ _ (fun W p => H4.ra p) Try.underlying23 rfl info_hd) (by assumption) ?_
          simp only [Act.put, List.setIfInBounds_toArray, List.set_cons_zero, List.set_cons_succ]
          refine take_lit (i := 3) (v := (.agg #[.int .i64 c.kind, .int .i64 c.tos, .int .i64 c.id, .int .i64 c.fixed, .int .i64 c.ttl, .int .i64 c.frm, .int .i64 c.to, .int .i64 c.fromPort, .int .i64 c.toPort, .int .i64 c.check, .int .i64 c.marker, .int .i64 c.type, .int .i64 c.seq, .int .i64 c.time, .int .i64 c.source])) 38 rfl rfl (by kernel_rfl) (by kernel_rfl) (by kernel_rfl) (fun _ _ _ h => h) (yieldsIf_load_mid (by rfl) _ _ rfl _ _ rfl _ _ (fun W p => H4.rc p) Try.underlying23 rfl info_hd) (by assumption) ?_
          simp only [Act.put, List.setIfInBounds_toArray, List.set_cons_zero, List.set_cons_succ]
          refine wpAnyH_ready (rs := [4]) (by kernel_rfl) (by simp) ?_
          refine AllReadyH.cons rfl (fun K hK => ?_) AllReadyH.nil
          go_simp
          go_at_call 9
          refine (C1.out _).mono ?_; rintro e v2 ⟨rfl, hb⟩; have A2 := Lib.hid (A1.out.below hb); have B2 := Lib.hid (B1.out.trans (hb.mono B1.out.size)); clear hb A1 B1
          refine hK.out _ _ (A2.out) (fun hHeld => ?_)
          clear hK K
          as_aux_lemma =>
            refine take_lit (i := 5) (v := (.bool true)) 40 rfl rfl (by kernel_rfl) (by kernel_rfl) (by kernel_rfl) (fun _ _ _ h => h) (Or.inl ⟨by rfl, fun w hSw => by go_simp⟩) (by assumption) ?_
            simp only [Act.put, List.setIfInBounds_toArray, List.set_cons_zero, List.set_cons_succ]
            refine take_lit (i := 6) (v := (.bool true)) 41 rfl rfl (by kernel_rfl) (by kernel_rfl) (by kernel_rfl) (fun _ _ _ h => h) (Or.inl ⟨by rfl, fun w hSw => by go_simp⟩) (by assumption) ?_
            simp only [Act.put, List.setIfInBounds_toArray, List.set_cons_zero, List.set_cons_succ]
            refine take_lit (i := 7) (v := (.agg #[.int .i64 a.kind, .int .i64 a.tos, .int .i64 a.id, .int .i64 a.fixed, .int .i64 a.ttl, .int .i64 a.frm, .int .i64 a.to, .int .i64 a.fromPort, .int .i64 a.toPort, .int .i64 a.check, .int .i64 a.marker, .int .i64 a.type, .int .i64 a.seq, .int .i64 a.time, .int .i64 a.source])) 42 rfl rfl (by kernel_rfl) (by kernel_rfl) (by kernel_rfl) (fun _ _ _ h => h) (yieldsIf_load_mid (by rfl) _ _ rfl _ _ rfl _ _ (fun W p => H4.ra p) Try.underlying23 rfl info_hd) (by assumption) ?_
            simp only [Act.put, List.setIfInBounds_toArray, List.set_cons_zero, List.set_cons_succ]
            refine take_lit (i := 8) (v := (.agg #[.int .i64 b.kind, .int .i64 b.tos, .int .i64 b.id, .int .i64 b.fixed, .int .i64 b.ttl, .int .i64 b.frm, .int .i64 b.to, .int .i64 b.fromPort, .int .i64 b.toPort, .int .i64 b.check, .int .i64 b.marker, .int .i64 b.type, .int .i64 b.seq, .int .i64 b.time, .int .i64 b.source])) 43 rfl rfl (by kernel_rfl) (by kernel_rfl) (by kernel_rfl) (fun _ _ _ h => h) (yieldsIf_load_mid (by rfl) _ _ rfl _ _ rfl _ _ (fun W p => H4.rb p) Try.underlying23 rfl info_hd) (by assumption) ?_
            simp only [Act.put, List.setIfInBounds_toArray, List.set_cons_zero, List.set_cons_succ]
            refine wpAnyH_ready (rs := [9]) (by kernel_rfl) (by simp) ?_
            refine AllReadyH.cons rfl (fun K hK => ?_) AllReadyH.nil
            go_simp
            go_at_call 9
            refine (C2.out _).mono ?_; rintro e v3 ⟨rfl, hb⟩; have A3 := Lib.hid (A2.out.below hb); have B3 := Lib.hid (B2.out.trans (hb.mono B2.out.size)); clear hb A2 B2
            refine hK.out _ _ (A3.out) (fun hHeld => ?_)
            clear hK K
            as_aux_lemma =>
              refine take_lit (i := 10) (v := (.bool true)) 45 rfl rfl (by kernel_rfl) (by kernel_rfl) (by kernel_rfl) (fun _ _ _ h => h) (Or.inl ⟨by rfl, fun w hSw => by go_simp⟩) (by assumption) ?_
              simp only [Act.put, List.setIfInBounds_toArray, List.set_cons_zero, List.set_cons_succ]
              refine take_lit (i := 11) (v := (.bool true)) 46 rfl rfl (by kernel_rfl) (by kernel_rfl) (by kernel_rfl) (fun _ _ _ h => h) (Or.inl ⟨by rfl, fun w hSw => by go_simp⟩) (by assumption) ?_
              simp only [Act.put, List.setIfInBounds_toArray, List.set_cons_zero, List.set_cons_succ]
              refine take_lit (i := 12) (v := (.bool true)) 47 rfl rfl (by kernel_rfl) (by kernel_rfl) (by kernel_rfl) (fun _ _ _ h => h) (Or.inl ⟨by rfl, fun w hSw => by go_simp⟩) (by assumption) ?_
              simp only [Act.put, List.setIfInBounds_toArray, List.set_cons_zero, List.set_cons_succ]
              refine take_lit (i := 13) (v := (.agg #[.int .i64 s.kind, .int .i64 s.tos, .int .i64 s.id, .int .i64 s.fixed, .int .i64 s.ttl, .int .i64 s.frm, .int .i64 s.to, .int .i64 s.fromPort, .int .i64 s.toPort, .int .i64 s.check, .int .i64 s.marker, .int .i64 s.type, .int .i64 s.seq, .int .i64 s.time, .int .i64 s.source])) 48 rfl rfl (by kernel_rfl) (by kernel_rfl) (by kernel_rfl) (fun _ _ _ h => h) (yieldsIf_load_mid (by rfl) _ _ rfl _ _ rfl _ _ (fun W p => H4.rs p) Try.underlying23 rfl info_hd) (by assumption) ?_
              simp only [Act.put, List.setIfInBounds_toArray, List.set_cons_zero, List.set_cons_succ]
              refine take_lit (i := 15) (v := (.agg #[.int .i64 s.kind, .int .i64 s.tos, .int .i64 s.id, .int .i64 s.fixed, .int .i64 s.ttl, .int .i64 s.frm, .int .i64 s.to, .int .i64 s.fromPort, .int .i64 s.toPort, .int .i64 s.check, .int .i64 s.marker, .int .i64 s.type, .int .i64 s.seq, .int .i64 s.time, .int .i64 s.source])) 50 rfl rfl (by kernel_rfl) (by kernel_rfl) (by kernel_rfl) (fun _ _ _ h => h) (yieldsIf_load_mid (by rfl) _ _ rfl _ _ rfl _ _ (fun W p => H4.rs p) Try.underlying23 rfl info_hd) (by assumption) ?_
              simp only [Act.put, List.setIfInBounds_toArray, List.set_cons_zero, List.set_cons_succ]
              refine wpAnyH_ready (rs := [14]) (by kernel_rfl) (by simp) ?_
              refine AllReadyH.cons rfl (fun K hK => ?_) AllReadyH.nil
              go_simp
              go_at_call 11
              refine (C3.out _).mono ?_; rintro e v4 ⟨rfl, hb⟩; have A4 := Lib.hid (A3.out.below hb); have B4 := Lib.hid (B3.out.trans (hb.mono B3.out.size)); clear hb A3 B3
              refine hK.out _ _ (A4.out) (fun hHeld => ?_)
              clear hK K
              as_aux_lemma =>
                refine take_lit (i := 16) (v := (.bool true)) 51 rfl rfl (by kernel_rfl) (by kernel_rfl) (by kernel_rfl) (fun _ _ _ h => h) (Or.inl ⟨by rfl, fun w hSw => by go_simp⟩) (by assumption) ?_
                simp only [Act.put, List.setIfInBounds_toArray, List.set_cons_zero, List.set_cons_succ]
                refine take_lit (i := 17) (v := (.bool true)) 52 rfl rfl (by kernel_rfl) (by kernel_rfl) (by kernel_rfl) (fun _ _ _ h => h) (Or.inl ⟨by rfl, fun w hSw => by go_simp⟩) (by assumption) ?_
                simp only [Act.put, List.setIfInBounds_toArray, List.set_cons_zero, List.set_cons_succ]
                refine take_lit (i := 18) (v := (.bool true)) 53 rfl rfl (by kernel_rfl) (by kernel_rfl) (by kernel_rfl) (fun _ _ _ h => h) (Or.inl ⟨by rfl, fun w hSw => by go_simp⟩) (by assumption) ?_
                simp only [Act.put, List.setIfInBounds_toArray, List.set_cons_zero, List.set_cons_succ]
                refine take_lit (i := 19) (v := (.agg #[.int .i64 a.kind, .int .i64 a.tos, .int .i64 a.id, .int .i64 a.fixed, .int .i64 a.ttl, .int .i64 a.frm, .int .i64 a.to, .int .i64 a.fromPort, .int .i64 a.toPort, .int .i64 a.check, .int .i64 a.marker, .int .i64 a.type, .int .i64 a.seq, .int .i64 a.time, .int .i64 a.source])) 54 rfl rfl (by kernel_rfl) (by kernel_rfl) (by kernel_rfl) (fun _ _ _ h => h) (yieldsIf_load_mid (by rfl) _ _ rfl _ _ rfl _ _ (fun W p => H4.ra p) Try.underlying23 rfl info_hd) (by assumption) ?_
                simp only [Act.put, List.setIfInBounds_toArray, List.set_cons_zero, List.set_cons_succ]
                refine take_lit (i := 20) (v := (.agg #[.int .i64 s.kind, .int .i64 s.tos, .int .i64 s.id, .int .i64 s.fixed, .int .i64 s.ttl, .int .i64 s.frm, .int .i64 s.to, .int .i64 s.fromPort, .int .i64 s.toPort, .int .i64 s.check, .int .i64 s.marker, .int .i64 s.type, .int .i64 s.seq, .int .i64 s.time, .int .i64 s.source])) 55 rfl rfl (by kernel_rfl) (by kernel_rfl) (by kernel_rfl) (fun _ _ _ h => h) (yieldsIf_load_mid (by rfl) _ _ rfl _ _ rfl _ _ (fun W p => H4.rs p) Try.underlying23 rfl info_hd) (by assumption) ?_
                simp only [Act.put, List.setIfInBounds_toArray, List.set_cons_zero, List.set_cons_succ]
                refine wpAnyH_ready (rs := [21]) (by kernel_rfl) (by simp) ?_
                refine AllReadyH.cons rfl (fun K hK => ?_) AllReadyH.nil
                go_simp
                go_at_call 9
                refine (C4.out _).mono ?_; rintro e v5 ⟨rfl, hb⟩; have A5 := Lib.hid (A4.out.below hb); have B5 := Lib.hid (B4.out.trans (hb.mono B4.out.size)); clear hb A4 B4
                refine hK.out _ _ (A5.out) (fun hHeld => ?_)
                clear hK K
                as_aux_lemma =>
                  refine take_lit (i := 22) (v := (.bool true)) 57 rfl rfl (by kernel_rfl) (by kernel_rfl) (by kernel_rfl) (fun _ _ _ h => h) (Or.inl ⟨by rfl, fun w hSw => by go_simp⟩) (by assumption) ?_
                  simp only [Act.put, List.setIfInBounds_toArray, List.set_cons_zero, List.set_cons_succ]
                  refine take_lit (i := 23) (v := (.bool true)) 58 rfl rfl (by kernel_rfl) (by kernel_rfl) (by kernel_rfl) (fun _ _ _ h => h) (Or.inl ⟨by rfl, fun w hSw => by go_simp⟩) (by assumption) ?_
                  simp only [Act.put, List.setIfInBounds_toArray, List.set_cons_zero, List.set_cons_succ]
                  refine take_lit (i := 24) (v := (.agg #[.int .i64 c.kind, .int .i64 c.tos, .int .i64 c.id, .int .i64 c.fixed, .int .i64 c.ttl, .int .i64 c.frm, .int .i64 c.to, .int .i64 c.fromPort, .int .i64 c.toPort, .int .i64 c.check, .int .i64 c.marker, .int .i64 c.type, .int .i64 c.seq, .int .i64 c.time, .int .i64 c.source])) 59 rfl rfl (by kernel_rfl) (by kernel_rfl) (by kernel_rfl) (fun _ _ _ h => h) (yieldsIf_load_mid (by rfl) _ _ rfl _ _ rfl _ _ (fun W p => H4.rc p) Try.underlying23 rfl info_hd) (by assumption) ?_
                  simp only [Act.put, List.setIfInBounds_toArray, List.set_cons_zero, List.set_cons_succ]
                  refine take_lit (i := 26) (v := (.agg #[.int .i64 s.kind, .int .i64 s.tos, .int .i64 s.id, .int .i64 s.fixed, .int .i64 s.ttl, .int .i64 s.frm, .int .i64 s.to, .int .i64 s.fromPort, .int .i64 s.toPort, .int .i64 s.check, .int .i64 s.marker, .int .i64 s.type, .int .i64 s.seq, .int .i64 s.time, .int .i64 s.source])) 61 rfl rfl (by kernel_rfl) (by kernel_rfl) (by kernel_rfl) (fun _ _ _ h => h) (yieldsIf_load_mid (by rfl) _ _ rfl _ _ rfl _ _ (fun W p => H4.rs p) Try.underlying23 rfl info_hd) (by assumption) ?_
                  simp only [Act.put, List.setIfInBounds_toArray, List.set_cons_zero, List.set_cons_succ]
                  refine wpAnyH_ready (rs := [25]) (by kernel_rfl) (by simp) ?_
                  refine AllReadyH.cons rfl (fun K hK => ?_) AllReadyH.nil
                  go_simp
                  go_at_call 11
                  refine (C5.out _).mono ?_; rintro e v6 ⟨rfl, hb⟩; have A6 := Lib.hid (A5.out.below hb); have B6 := Lib.hid (B5.out.trans (hb.mono B5.out.size)); clear hb A5 B5
                  refine hK.out _ _ (A6.out) (fun hHeld => ?_)
                  clear hK K
                  as_aux_lemma =>
                    refine take_lit (i := 27) (v := (.bool true)) 62 rfl rfl (by kernel_rfl) (by kernel_rfl) (by kernel_rfl) (fun _ _ _ h => h) (Or.inl ⟨by rfl, fun w hSw => by go_simp⟩) (by assumption) ?_
                    simp only [Act.put, List.setIfInBounds_toArray, List.set_cons_zero, List.set_cons_succ]
                    refine take_lit (i := 28) (v := (.bool true)) 63 rfl rfl (by kernel_rfl) (by kernel_rfl) (by kernel_rfl) (fun _ _ _ h => h) (Or.inl ⟨by rfl, fun w hSw => by go_simp⟩) (by assumption) ?_
                    simp only [Act.put, List.setIfInBounds_toArray, List.set_cons_zero, List.set_cons_succ]
                    refine take_lit (i := 29) (v := (.bool true)) 64 rfl rfl (by kernel_rfl) (by kernel_rfl) (by kernel_rfl) (fun _ _ _ h => h) (Or.inl ⟨by rfl, fun w hSw => by go_simp⟩) (by assumption) ?_
                    simp only [Act.put, List.setIfInBounds_toArray, List.set_cons_zero, List.set_cons_succ]
                    refine take_lit (i := 30) (v := (.agg #[.int .i64 a.kind, .int .i64 a.tos, .int .i64 a.id, .int .i64 a.fixed, .int .i64 a.ttl, .int .i64 a.frm, .int .i64 a.to, .int .i64 a.fromPort, .int .i64 a.toPort, .int .i64 a.check, .int .i64 a.marker, .int .i64 a.type, .int .i64 a.seq, .int .i64 a.time, .int .i64 a.source])) 65 rfl rfl (by kernel_rfl) (by kernel_rfl) (by kernel_rfl) (fun _ _ _ h => h) (yieldsIf_load_mid (by rfl) _ _ rfl _ _ rfl _ _ (fun W p => H4.ra p) Try.underlying23 rfl info_hd) (by assumption) ?_
                    simp only [Act.put, List.setIfInBounds_toArray, List.set_cons_zero, List.set_cons_succ]
                    refine take_lit (i := 31) (v := (.agg #[.int .i64 a.kind, .int .i64 a.tos, .int .i64 a.id, .int .i64 a.fixed, .int .i64 a.ttl, .int .i64 a.frm, .int .i64 a.to, .int .i64 a.fromPort, .int .i64 a.toPort, .int .i64 a.check, .int .i64 a.marker, .int .i64 a.type, .int .i64 a.seq, .int .i64 a.time, .int .i64 a.source])) 66 rfl rfl (by kernel_rfl) (by kernel_rfl) (by kernel_rfl) (fun _ _ _ h => h) (yieldsIf_load_mid (by rfl) _ _ rfl _ _ rfl _ _ (fun W p => H4.ra p) Try.underlying23 rfl info_hd) (by assumption) ?_
                    simp only [Act.put, List.setIfInBounds_toArray, List.set_cons_zero, List.set_cons_succ]
                    refine wpAnyH_ready (rs := [32]) (by kernel_rfl) (by simp) ?_
                    refine AllReadyH.cons rfl (fun K hK => ?_) AllReadyH.nil
                    go_simp
                    go_at_call 15
                    refine (C6.out _).mono ?_; rintro e v7 ⟨rfl, hb⟩; have A7 := Lib.hid (A6.out.below hb); have B7 := Lib.hid (B6.out.trans (hb.mono B6.out.size)); clear hb A6 B6
                    refine hK.out _ _ (A7.out) (fun hHeld => ?_)
                    clear hK K
                    as_aux_lemma =>
                      refine take_lit (i := 33) (v := (.bool true)) 68 rfl rfl (by kernel_rfl) (by kernel_rfl) (by kernel_rfl) (fun _ _ _ h => h) (Or.inl ⟨by rfl, fun w hSw => by go_simp⟩) (by assumption) ?_
                      simp only [Act.put, List.setIfInBounds_toArray, List.set_cons_zero, List.set_cons_succ]
                      refine take_lit (i := 34) (v := (.bool true)) 69 rfl rfl (by kernel_rfl) (by kernel_rfl) (by kernel_rfl) (fun _ _ _ h => h) (Or.inl ⟨by rfl, fun w hSw => by go_simp⟩) (by assumption) ?_
                      simp only [Act.put, List.setIfInBounds_toArray, List.set_cons_zero, List.set_cons_succ]
                      refine take_lit (i := 35) (v := (.bool true)) 70 rfl rfl (by kernel_rfl) (by kernel_rfl) (by kernel_rfl) (fun _ _ _ h => h) (Or.inl ⟨by rfl, fun w hSw => by go_simp⟩) (by assumption) ?_
                      simp only [Act.put, List.setIfInBounds_toArray, List.set_cons_zero, List.set_cons_succ]
                      refine take_lit (i := 36) (v := (.agg #[.int .i64 a.kind, .int .i64 a.tos, .int .i64 a.id, .int .i64 a.fixed, .int .i64 a.ttl, .int .i64 a.frm, .int .i64 a.to, .int .i64 a.fromPort, .int .i64 a.toPort, .int .i64 a.check, .int .i64 a.marker, .int .i64 a.type, .int .i64 a.seq, .int .i64 a.time, .int .i64 a.source])) 71 rfl rfl (by kernel_rfl) (by kernel_rfl) (by kernel_rfl) (fun _ _ _ h => h) (yieldsIf_load_mid (by rfl) _ _ rfl _ _ rfl _ _ (fun W p => H4.ra p) Try.underlying23 rfl info_hd) (by assumption) ?_
                      simp only [Act.put, List.setIfInBounds_toArray, List.set_cons_zero, List.set_cons_succ]
                      refine take_lit (i := 37) (v := (.agg #[.int .i64 c.kind, .int .i64 c.tos, .int .i64 c.id, .int .i64 c.fixed, .int .i64 c.ttl, .int .i64 c.frm, .int .i64 c.to, .int .i64 c.fromPort, .int .i64 c.toPort, .int .i64 c.check, .int .i64 c.marker, .int .i64 c.type, .int .i64 c.seq, .int .i64 c.time, .int .i64 c.source])) 72 rfl rfl (by kernel_rfl) (by kernel_rfl) (by kernel_rfl) (fun _ _ _ h => h) (yieldsIf_load_mid (by rfl) _ _ rfl _ _ rfl _ _ (fun W p => H4.rc p) Try.underlying23 rfl info_hd) (by assumption) ?_
                      simp only [Act.put, List.setIfInBounds_toArray, List.set_cons_zero, List.set_cons_succ]
                      refine take_lit (i := 39) (v := (.agg #[.int .i64 c.kind, .int .i64 c.tos, .int .i64 c.id, .int .i64 c.fixed, .int .i64 c.ttl, .int .i64 c.frm, .int .i64 c.to, .int .i64 c.fromPort, .int .i64 c.toPort, .int .i64 c.check, .int .i64 c.marker, .int .i64 c.type, .int .i64 c.seq, .int .i64 c.time, .int .i64 c.source])) 74 rfl rfl (by kernel_rfl) (by kernel_rfl) (by kernel_rfl) (fun _ _ _ h => h) (yieldsIf_load_mid (by rfl) _ _ rfl _ _ rfl _ _ (fun W p => H4.rc p) Try.underlying23 rfl info_hd) (by assumption) ?_
                      simp only [Act.put, List.setIfInBounds_toArray, List.set_cons_zero, List.set_cons_succ]
                      refine take_lit (i := 40) (v := (.agg #[.int .i64 a.kind, .int .i64 a.tos, .int .i64 a.id, .int .i64 a.fixed, .int .i64 a.ttl, .int .i64 a.frm, .int .i64 a.to, .int .i64 a.fromPort, .int .i64 a.toPort, .int .i64 a.check, .int .i64 a.marker, .int .i64 a.type, .int .i64 a.seq, .int .i64 a.time, .int .i64 a.source])) 75 rfl rfl (by kernel_rfl) (by kernel_rfl) (by kernel_rfl) (fun _ _ _ h => h) (yieldsIf_load_mid (by rfl) _ _ rfl _ _ rfl _ _ (fun W p => H4.ra p) Try.underlying23 rfl info_hd) (by assumption) ?_
                      simp only [Act.put, List.setIfInBounds_toArray, List.set_cons_zero, List.set_cons_succ]
                      refine wpAnyH_ready (rs := [38]) (by kernel_rfl) (by simp) ?_
                      refine AllReadyH.cons rfl (fun K hK => ?_) AllReadyH.nil
                      go_simp
                      go_at_call 15
                      refine (C7.out _).mono ?_; rintro e v8 ⟨rfl, hb⟩; have A8 := Lib.hid (A7.out.below hb); have B8 := Lib.hid (B7.out.trans (hb.mono B7.out.size)); clear hb A7 B7
                      refine hK.out _ _ (A8.out) (fun hHeld => ?_)
                      clear hK K
                      as_aux_lemma =>
                        refine wpAnyH_ready (rs := [41]) (by kernel_rfl) (by simp) ?_
                        refine AllReadyH.cons rfl (fun K hK => ?_) AllReadyH.nil
                        go_simp
                        go_at_call 15
                        refine (C8.out _).mono ?_; rintro e v9 ⟨rfl, hb⟩; have A9 := Lib.hid (A8.out.below hb); have B9 := Lib.hid (B8.out.trans (hb.mono B8.out.size)); clear hb A8 B8
                        refine hK.out _ _ (A9.out) (fun hHeld => ?_)
                        clear hK K
                        as_aux_lemma =>
                          refine take_lit (i := 42) (v := (.bool true)) 77 rfl rfl (by kernel_rfl) (by kernel_rfl) (by kernel_rfl) (fun _ _ _ h => h) (Or.inl ⟨by rfl, fun w hSw => by go_simp⟩) (by assumption) ?_
                          simp only [Act.put, List.setIfInBounds_toArray, List.set_cons_zero, List.set_cons_succ]
                          refine take_lit (i := 43) (v := (.bool true)) 78 rfl rfl (by kernel_rfl) (by kernel_rfl) (by kernel_rfl) (fun _ _ _ h => h) (Or.inl ⟨by rfl, fun w hSw => by go_simp⟩) (by assumption) ?_
                          simp only [Act.put, List.setIfInBounds_toArray, List.set_cons_zero, List.set_cons_succ]
                          refine take_lit (i := 44) (v := (.bool true)) 79 rfl rfl (by kernel_rfl) (by kernel_rfl) (by kernel_rfl) (fun _ _ _ h => h) (Or.inl ⟨by rfl, fun w hSw => by go_simp⟩) (by assumption) ?_
                          simp only [Act.put, List.setIfInBounds_toArray, List.set_cons_zero, List.set_cons_succ]
                          refine take_lit (i := 45) (v := (.bool false)) 80 rfl rfl (by kernel_rfl) (by kernel_rfl) (by kernel_rfl) (fun _ _ _ h => h) (Or.inl ⟨by rfl, fun w hSw => by go_simp⟩) (by assumption) ?_
                          simp only [Act.put, List.setIfInBounds_toArray, List.set_cons_zero, List.set_cons_succ]
                          refine take_lit (i := 46) (v := (.bool true)) 81 rfl rfl (by kernel_rfl) (by kernel_rfl) (by kernel_rfl) (fun _ _ _ h => h) (Or.inl ⟨by rfl, fun w hSw => by go_simp⟩) (by assumption) ?_
                          simp only [Act.put, List.setIfInBounds_toArray, List.set_cons_zero, List.set_cons_succ]
                          refine take_lit (i := 47) (v := (.bool true)) 82 rfl rfl (by kernel_rfl) (by kernel_rfl) (by kernel_rfl) (fun _ _ _ h => h) (Or.inl ⟨by rfl, fun w hSw => by go_simp⟩) (by assumption) ?_
                          simp only [Act.put, List.setIfInBounds_toArray, List.set_cons_zero, List.set_cons_succ]
                          refine take_lit (i := 48) (v := undef) 83 rfl rfl (by kernel_rfl) (by kernel_rfl) (by kernel_rfl) (fun _ _ _ h => h) (Or.inr ⟨by rfl, rfl⟩) (by assumption) ?_
                          simp only [Act.put, List.setIfInBounds_toArray, List.set_cons_zero, List.set_cons_succ]
                          refine take_lit (i := 49) (v := undef) 84 rfl rfl (by kernel_rfl) (by kernel_rfl) (by kernel_rfl) (fun _ _ _ h => h) (Or.inr ⟨by rfl, rfl⟩) (by assumption) ?_
                          simp only [Act.put, List.setIfInBounds_toArray, List.set_cons_zero, List.set_cons_succ]
                          refine take_lit (i := 50) (v := undef) 85 rfl rfl (by kernel_rfl) (by kernel_rfl) (by kernel_rfl) (fun _ _ _ h => h) (Or.inr ⟨by rfl, rfl⟩) (by assumption) ?_
                          simp only [Act.put, List.setIfInBounds_toArray, List.set_cons_zero, List.set_cons_succ]
                          refine take_lit (i := 51) (v := undef) 86 rfl rfl (by kernel_rfl) (by kernel_rfl) (by kernel_rfl) (fun _ _ _ h => h) (Or.inr ⟨by rfl, rfl⟩) (by assumption) ?_
                          simp only [Act.put, List.setIfInBounds_toArray, List.set_cons_zero, List.set_cons_succ]
                          refine take_lit (i := 52) (v := (.bool true)) 87 rfl rfl (by kernel_rfl) (by kernel_rfl) (by kernel_rfl) (fun _ _ _ h => h) (Or.inl ⟨by rfl, fun w hSw => by go_simp⟩) (by assumption) ?_
                          simp only [Act.put, List.setIfInBounds_toArray, List.set_cons_zero, List.set_cons_succ]
                          refine take_lit (i := 53) (v := (.bool true)) 88 rfl rfl (by kernel_rfl) (by kernel_rfl) (by kernel_rfl) (fun _ _ _ h => h) (Or.inl ⟨by rfl, fun w hSw => by go_simp⟩) (by assumption) ?_
                          simp only [Act.put, List.setIfInBounds_toArray, List.set_cons_zero, List.set_cons_succ]
                          refine take_lit (i := 54) (v := (.bool true)) 4 rfl rfl (by kernel_rfl) (by kernel_rfl) (by kernel_rfl) (fun _ _ _ h => h) (Or.inl ⟨by rfl, fun w hSw => by go_simp⟩) (by assumption) ?_
                          simp only [Act.put, List.setIfInBounds_toArray, List.set_cons_zero, List.set_cons_succ]
                          refine wpAnyH_done (by kernel_rfl) ?_ _
                          refine NoPanic.normal ?_
                          go_wp2
                          go_ret
                          exact ⟨rfl, B9.out⟩
  · have hd : decide (n ≤ 400) = false := decide_eq_false hn
    go_enter Try.func7, Try.ntmps7
    go_wp2_with (first
      | (go_at_call 21; refine (light_any _ _ _ _ (by omega)).mono ?_; rintro e w' ⟨rfl, rfl⟩)
      | (go_at_call 8; refine (AW.out _).mono ?_; rintro e w2 ⟨rfl, hb⟩; have B2 := Lib.hid hb; clear hb)
      | fail)
    go_ret
    exact ⟨rfl, B2.out⟩

theorem own : ownKnob Try.prog.godebug = none := by kernel_rfl
theorem laidOut : laidOutB Try.prog = true := by kernel_rfl
theorem read_ints : Try.prog.readableRec 35 = true := by kernel_rfl
theorem read_bool : Try.prog.readableRec 4 = true := by kernel_rfl
theorem cells_i : Try.prog.cellsOf 3 = 1 := by kernel_rfl
theorem bytes_i : Try.prog.bytesOf 3 = 8 := by kernel_rfl
theorem lt_ints : 35 < Try.prog.types.size := of_decide_eq_true (by kernel_rfl)
theorem lt_bool : 4 < Try.prog.types.size := of_decide_eq_true (by kernel_rfl)

set_option maxRecDepth 100000 in
theorem lifted (os : Os) (started : os.Started) (H : Type) (enc : TypeId × Value → H) :
    ReturnsInHanded {} Try.checked os 7 .any (Rows.flowStaticsSpec.pre6 enc Try.prog Try.f7 Rows.flowStaticsRow.domain false) (Rows.flowStaticsSpec.post enc Try.prog Try.f7 false true false false) := by
  refine law_lifted (C := Try.checked) (rt := 4) [35, 4] own started (by kernel_rfl) Try.func7 laidOut (by rw [Try.params7])
    (fun t ht => by simp only [List.mem_cons, List.not_mem_nil, or_false] at ht; rcases ht with rfl | rfl <;> first | exact ⟨read_ints, lt_ints⟩ | exact ⟨read_bool, lt_bool⟩) rfl Try.underlying4 rfl
    (fun ds h => by match ds, h with | [d0, d1], _ => rfl)
    (ChangeSpec.witness6 (enc := enc) (C := Try.checked) false ⟨#[], #[.slice none 0 0, .bool false], []⟩ 8 (by kernel_rfl) (by kernel_rfl) (by kernel_rfl) (by kernel_rfl)) ?_
  intro W base args ds p hval hA hsz
  obtain ⟨v0, vs0, d0, ds0, p0, q0, hargs, rfl, rfl, h0, r0⟩ := trodAll_cons hA
  obtain ⟨v1, vs1, d1, ds1, p1, q1, rfl, rfl, rfl, h1, r1⟩ := trodAll_cons r0
  obtain ⟨rfl, rfl, rfl⟩ := trodAll_nil r1
  obtain rfl : args = #[v0, v1] := by cases args; simp_all
  obtain ⟨a0, n0, c0, z0, rfl, s0, nn0⟩ := open_slr Try.underlying35 Try.underlying3 cells_i (by rw [bytes_i]; omega) (hval 0 _ v0 rfl rfl) h0 (fun el spa hd => sized_slice hsz (j := 0) rfl (by rw [hd]; rfl) Try.underlying35)
  obtain ⟨x1, rfl, _, _⟩ := open_bool Try.underlying4 (hval 1 _ v1 rfl rfl) h1
  exact walk W a0 n0 c0 z0 s0 x1

/-- THE STATEMENT -/
theorem proved : Rows.FlowStaticsSaid :=
  OpenClaim.holds_of_wide 7 Try.f7 rfl rfl rfl rfl rfl rfl rfl ⟨rfl, rfl, rfl, rfl, rfl⟩ rfl rfl rfl rfl rfl (by kernel_rfl) Try.func7 (by kernel_rfl)
    (of_decide_eq_true (by kernel_rfl)) (by unfold Func.isWrapper; first | (rw [if_pos (by decide +kernel)]; kernel_rfl) | (rw [if_neg (by decide +kernel)]; exact ⟨rfl, rfl⟩))
    (fun os started H enc _ => lifted os started H enc)
#print axioms proved
end Go.Proofs.Ytphekpkkeiaccaa.flowStatics
