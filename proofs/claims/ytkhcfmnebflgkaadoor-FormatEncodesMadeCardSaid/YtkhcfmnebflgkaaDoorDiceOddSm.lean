/-
  OddSmall of the statements' own helpers: parts with one thing changed. (gen_oddsm.py writes this text.)
-/
import Derived.Test.YtkhcfmnebflgkaaDoorDiceSmall0
import Derived.Test.YtkhcfmnebflgkaaDoorDiceOdd
import Derived.Deep.DeepCutAuto
import Derived.Deep.CutBlock
namespace Go.Proofs.YtkhcfmnebflgkaaDoor
open Go Go.RowKit

/-- a struct stored into a part of a block, in a plain region -/
theorem wpList_store_part {ops : Array Oper} {rest : List Oper} {op : Oper} {a : Act} {w : World} {Q : Exit → Act → World → Prop} {b off n m : Nat} {xs cs : Array Value} {T T2 : TypeId} (hgd : op.guard = none) (hd : op.dst = none)
    (p q : Operand) (ho : op.op = .store T2 p q) (hp : a.eval p = .pointer (some ⟨b, off, none⟩)) (hq : a.eval q = .agg cs) (Kb : w.heap[b]? = some (.cells xs T (0, 0))) (hx : xs.size = m) (hm : off + n ≤ m) (hc : cs.size = n)
    (hi : (Tryd.prog.info? T2).map (·.size) = some n) (h1 : cs.all (·.oneCell') = true)
    (H : ∀ w', w'.heap[b]? = some (.cells (setFrom xs off cs.toList) T (0, 0)) → w.grownBy w' (some b) → wpList Tryd.prog ops Q rest a w') : wpList Tryd.prog ops Q (op :: rest) a w := by
  have k := setCells_blk cs.toList off w xs Kb
  refine wpList_store_mid hgd T2 p q ho b off cs hp hq (there_part Kb (by omega)) (by rw [hi, hc]) h1 ?_
  rw [hd]
  exact H _ k.1 k.2
theorem sm_head {W : World} {g : Nat} {s : Sm} (h : W.heap[g]? = some (.cells #[.int .i64 s.ctx, .int .i64 s.fmt, .int .i64 s.num, .int .i64 s.time, .int .i64 s.mark, .int .i64 s.id, .int .i64 s.udp, .int .i64 s.h.kind, .int .i64 s.h.tos, .int .i64 s.h.id, .int .i64 s.h.fixed, .int .i64 s.h.ttl, .int .i64 s.h.frm, .int .i64 s.h.to, .int .i64 s.h.fromPort, .int .i64 s.h.toPort, .int .i64 s.h.check, .int .i64 s.h.marker, .int .i64 s.h.type, .int .i64 s.h.seq, .int .i64 s.h.time, .int .i64 s.h.source, .int .i64 s.ds, .int .i64 s.df, .int .i64 s.chk, .slice s.pa s.pn s.pc] 28 (0, 0))) : W.rangeAt g 7 [.int .i64 s.h.kind, .int .i64 s.h.tos, .int .i64 s.h.id, .int .i64 s.h.fixed, .int .i64 s.h.ttl, .int .i64 s.h.frm, .int .i64 s.h.to, .int .i64 s.h.fromPort, .int .i64 s.h.toPort, .int .i64 s.h.check, .int .i64 s.h.marker, .int .i64 s.h.type, .int .i64 s.h.seq, .int .i64 s.h.time, .int .i64 s.h.source] := fun i v hv => by
  have hi : i < 15 := by
    have := (List.getElem?_eq_some_iff.1 hv).1
    simpa using this
  rw [cells_of h, List.getElem?_toArray]
  obtain rfl | rfl | rfl | rfl | rfl | rfl | rfl | rfl | rfl | rfl | rfl | rfl | rfl | rfl | rfl : i = 0 ∨ i = 1 ∨ i = 2 ∨ i = 3 ∨ i = 4 ∨ i = 5 ∨ i = 6 ∨ i = 7 ∨ i = 8 ∨ i = 9 ∨ i = 10 ∨ i = 11 ∨ i = 12 ∨ i = 13 ∨ i = 14 := by omega
  all_goals exact hv

/-- a walk of OddSmall: the parts lie in the call's first block -/
structure OS (w W : World) (g : Nat) (s : Sm) : Prop where
  d : DiceIn W g
  gr : w.grownBy W (some g)
  k : Blk 28 W w.heap.size #[.int .i64 s.ctx, .int .i64 s.fmt, .int .i64 s.num, .int .i64 s.time, .int .i64 s.mark, .int .i64 s.id, .int .i64 s.udp, .int .i64 s.h.kind, .int .i64 s.h.tos, .int .i64 s.h.id, .int .i64 s.h.fixed, .int .i64 s.h.ttl, .int .i64 s.h.frm, .int .i64 s.h.to, .int .i64 s.h.fromPort, .int .i64 s.h.toPort, .int .i64 s.h.check, .int .i64 s.h.marker, .int .i64 s.h.type, .int .i64 s.h.seq, .int .i64 s.h.time, .int .i64 s.h.source, .int .i64 s.ds, .int .i64 s.df, .int .i64 s.chk, .slice s.pa s.pn s.pc]
  z : Blk 28 W (w.heap.size + 1) #[.int .i64 0, .int .i64 0, .int .i64 0, .int .i64 0, .int .i64 0, .int .i64 0, .int .i64 0, .int .i64 0, .int .i64 0, .int .i64 0, .int .i64 0, .int .i64 0, .int .i64 0, .int .i64 0, .int .i64 0, .int .i64 0, .int .i64 0, .int .i64 0, .int .i64 0, .int .i64 0, .int .i64 0, .int .i64 0, .int .i64 0, .int .i64 0, .int .i64 0, .slice none 0 0]
theorem OS.call {w W W' : World} {g : Nat} {s : Sm} (q : OS w W g s) (hlt : g < w.heap.size) (hd : DiceIn W' g) (hg : W.grownBy W' (some g)) : OS w W' g s :=
  ⟨hd, grown_trans q.gr hg, q.k.keepRow hg (fun e => by have := Option.some.inj e; omega), q.z.keepRow hg (fun e => by have := Option.some.inj e; omega)⟩
theorem OS.put {w W W' : World} {g : Nat} {s s' : Sm} (q : OS w W g s) (hlt : g < w.heap.size) (hg : W.grownBy W' (some w.heap.size)) (hk : W'.heap[w.heap.size]? = some (.cells #[.int .i64 s'.ctx, .int .i64 s'.fmt, .int .i64 s'.num, .int .i64 s'.time, .int .i64 s'.mark, .int .i64 s'.id, .int .i64 s'.udp, .int .i64 s'.h.kind, .int .i64 s'.h.tos, .int .i64 s'.h.id, .int .i64 s'.h.fixed, .int .i64 s'.h.ttl, .int .i64 s'.h.frm, .int .i64 s'.h.to, .int .i64 s'.h.fromPort, .int .i64 s'.h.toPort, .int .i64 s'.h.check, .int .i64 s'.h.marker, .int .i64 s'.h.type, .int .i64 s'.h.seq, .int .i64 s'.h.time, .int .i64 s'.h.source, .int .i64 s'.ds, .int .i64 s'.df, .int .i64 s'.chk, .slice s'.pa s'.pn s'.pc] 28 (0, 0))) : OS w W' g s' :=
  ⟨q.d.keepRow hg (fun c e => by rw [← Option.some.inj e]; exact hlt), grown_then q.gr hg (fun j e => .inr (by rw [← Option.some.inj e]; exact Nat.le_refl _)), hk, q.z.keepRow hg (fun e => by have := Option.some.inj e; omega)⟩
theorem OS.putH {w W W' : World} {g : Nat} {s : Sm} {h : Hd} (q : OS w W g s) (hlt : g < w.heap.size) (hg : W.grownBy W' (some w.heap.size)) (hk : W'.heap[w.heap.size]? = some (.cells (setFrom #[.int .i64 s.ctx, .int .i64 s.fmt, .int .i64 s.num, .int .i64 s.time, .int .i64 s.mark, .int .i64 s.id, .int .i64 s.udp, .int .i64 s.h.kind, .int .i64 s.h.tos, .int .i64 s.h.id, .int .i64 s.h.fixed, .int .i64 s.h.ttl, .int .i64 s.h.frm, .int .i64 s.h.to, .int .i64 s.h.fromPort, .int .i64 s.h.toPort, .int .i64 s.h.check, .int .i64 s.h.marker, .int .i64 s.h.type, .int .i64 s.h.seq, .int .i64 s.h.time, .int .i64 s.h.source, .int .i64 s.ds, .int .i64 s.df, .int .i64 s.chk, .slice s.pa s.pn s.pc] 7 (#[.int .i64 h.kind, .int .i64 h.tos, .int .i64 h.id, .int .i64 h.fixed, .int .i64 h.ttl, .int .i64 h.frm, .int .i64 h.to, .int .i64 h.fromPort, .int .i64 h.toPort, .int .i64 h.check, .int .i64 h.marker, .int .i64 h.type, .int .i64 h.seq, .int .i64 h.time, .int .i64 h.source] : Array Value).toList) 28 (0, 0))) : OS w W' g { s with h := h } := by
  rw [show setFrom #[.int .i64 s.ctx, .int .i64 s.fmt, .int .i64 s.num, .int .i64 s.time, .int .i64 s.mark, .int .i64 s.id, .int .i64 s.udp, .int .i64 s.h.kind, .int .i64 s.h.tos, .int .i64 s.h.id, .int .i64 s.h.fixed, .int .i64 s.h.ttl, .int .i64 s.h.frm, .int .i64 s.h.to, .int .i64 s.h.fromPort, .int .i64 s.h.toPort, .int .i64 s.h.check, .int .i64 s.h.marker, .int .i64 s.h.type, .int .i64 s.h.seq, .int .i64 s.h.time, .int .i64 s.h.source, .int .i64 s.ds, .int .i64 s.df, .int .i64 s.chk, .slice s.pa s.pn s.pc] 7 (#[.int .i64 h.kind, .int .i64 h.tos, .int .i64 h.id, .int .i64 h.fixed, .int .i64 h.ttl, .int .i64 h.frm, .int .i64 h.to, .int .i64 h.fromPort, .int .i64 h.toPort, .int .i64 h.check, .int .i64 h.marker, .int .i64 h.type, .int .i64 h.seq, .int .i64 h.time, .int .i64 h.source] : Array Value).toList = #[.int .i64 s.ctx, .int .i64 s.fmt, .int .i64 s.num, .int .i64 s.time, .int .i64 s.mark, .int .i64 s.id, .int .i64 s.udp, .int .i64 h.kind, .int .i64 h.tos, .int .i64 h.id, .int .i64 h.fixed, .int .i64 h.ttl, .int .i64 h.frm, .int .i64 h.to, .int .i64 h.fromPort, .int .i64 h.toPort, .int .i64 h.check, .int .i64 h.marker, .int .i64 h.type, .int .i64 h.seq, .int .i64 h.time, .int .i64 h.source, .int .i64 s.ds, .int .i64 s.df, .int .i64 s.chk, .slice s.pa s.pn s.pc] from by kernel_rfl] at hk
  exact q.put hlt hg hk
/-- what OddSmall leaves of the parts -/
def OddOf (s0 s : Sm) : Prop := s.h.Fits ∧ s.pa = s0.pa ∧ s.pn = s0.pn ∧ s.pc = s0.pc ∧ s.pz = s0.pz
def OddSR (w : World) (g : Nat) (s0 : Sm) (wx : World) : Prop := ∃ s : Sm, OddOf s0 s ∧ OS w wx g s
def oddsS : List Int := [-1, 0, 1, 7, 8, 15, 16, 128, 256, 65536]

set_option maxRecDepth 100000 in
set_option maxHeartbeats 6400000 in
theorem oddsm_in (g : Nat) (s : Sm) (w : World) (hd : DiceIn w g) (hf : s.h.Fits) :
    Calls Tryd.prog 20 #[.pointer (some ⟨g, 0, none⟩), (.agg #[.int .i64 s.ctx, .int .i64 s.fmt, .int .i64 s.num, .int .i64 s.time, .int .i64 s.mark, .int .i64 s.id, .int .i64 s.udp, .int .i64 s.h.kind, .int .i64 s.h.tos, .int .i64 s.h.id, .int .i64 s.h.fixed, .int .i64 s.h.ttl, .int .i64 s.h.frm, .int .i64 s.h.to, .int .i64 s.h.fromPort, .int .i64 s.h.toPort, .int .i64 s.h.check, .int .i64 s.h.marker, .int .i64 s.h.type, .int .i64 s.h.seq, .int .i64 s.h.time, .int .i64 s.h.source, .int .i64 s.ds, .int .i64 s.df, .int .i64 s.chk, .slice s.pa s.pn s.pc])] w fun e w' => ∃ x : Sm, e = .returned (.agg #[.int .i64 x.ctx, .int .i64 x.fmt, .int .i64 x.num, .int .i64 x.time, .int .i64 x.mark, .int .i64 x.id, .int .i64 x.udp, .int .i64 x.h.kind, .int .i64 x.h.tos, .int .i64 x.h.id, .int .i64 x.h.fixed, .int .i64 x.h.ttl, .int .i64 x.h.frm, .int .i64 x.h.to, .int .i64 x.h.fromPort, .int .i64 x.h.toPort, .int .i64 x.h.check, .int .i64 x.h.marker, .int .i64 x.h.type, .int .i64 x.h.seq, .int .i64 x.h.time, .int .i64 x.h.source, .int .i64 x.ds, .int .i64 x.df, .int .i64 x.chk, .slice x.pa x.pn x.pc]) ∧ OddOf s x ∧ DiceIn w' g ∧ w.grownBy w' (some g) := by
  have hlt := hd.lt
  have HD := Lib.hid hd
  have HF := Lib.hid hf
  clear hd hf
  go_enter Tryd.func20, Tryd.ntmps20
  go_wp2_with fail
  have Z0 := heap_alloc_new w (.cells #[.int .i64 s.ctx, .int .i64 s.fmt, .int .i64 s.num, .int .i64 s.time, .int .i64 s.mark, .int .i64 s.id, .int .i64 s.udp, .int .i64 s.h.kind, .int .i64 s.h.tos, .int .i64 s.h.id, .int .i64 s.h.fixed, .int .i64 s.h.ttl, .int .i64 s.h.frm, .int .i64 s.h.to, .int .i64 s.h.fromPort, .int .i64 s.h.toPort, .int .i64 s.h.check, .int .i64 s.h.marker, .int .i64 s.h.type, .int .i64 s.h.seq, .int .i64 s.h.time, .int .i64 s.h.source, .int .i64 s.ds, .int .i64 s.df, .int .i64 s.chk, .slice s.pa s.pn s.pc] 28)
  refine (next_in g 10 _ (((HD.out.alloc _).alloc _).alloc _) (by omega) (by omega)).mono ?_
  rintro e w4 ⟨r, rfl, r0, r1, hd4, hg4⟩
  obtain ⟨i, rfl⟩ := Int.eq_ofNat_of_zero_le r0
  have hi : i < 10 := by omega
  have K4 := (hg4.block w.heap.size (by simp; omega) (by simp; omega)).trans ((heap_alloc_old _ _ (by simp; omega)).trans ((heap_alloc_old _ _ (by simp)).trans Z0))
  have Z4 : w4.heap[w.heap.size + 1]? = some (.cells #[.int .i64 0, .int .i64 0, .int .i64 0, .int .i64 0, .int .i64 0, .int .i64 0, .int .i64 0, .int .i64 0, .int .i64 0, .int .i64 0, .int .i64 0, .int .i64 0, .int .i64 0, .int .i64 0, .int .i64 0, .int .i64 0, .int .i64 0, .int .i64 0, .int .i64 0, .int .i64 0, .int .i64 0, .int .i64 0, .int .i64 0, .int .i64 0, .int .i64 0, .slice none 0 0] 28 (0, 0)) := ((hg4.block (w.heap.size + 1) (by simp) (by simp; omega)).trans ((heap_alloc_old _ _ (by simp)).trans (by
    have q := heap_alloc_new (w.alloc (.cells #[.int .i64 s.ctx, .int .i64 s.fmt, .int .i64 s.num, .int .i64 s.time, .int .i64 s.mark, .int .i64 s.id, .int .i64 s.udp, .int .i64 s.h.kind, .int .i64 s.h.tos, .int .i64 s.h.id, .int .i64 s.h.fixed, .int .i64 s.h.ttl, .int .i64 s.h.frm, .int .i64 s.h.to, .int .i64 s.h.fromPort, .int .i64 s.h.toPort, .int .i64 s.h.check, .int .i64 s.h.marker, .int .i64 s.h.type, .int .i64 s.h.seq, .int .i64 s.h.time, .int .i64 s.h.source, .int .i64 s.ds, .int .i64 s.df, .int .i64 s.chk, .slice s.pa s.pn s.pc] 28)) (.cells #[.int .i64 0, .int .i64 0, .int .i64 0, .int .i64 0, .int .i64 0, .int .i64 0, .int .i64 0, .int .i64 0, .int .i64 0, .int .i64 0, .int .i64 0, .int .i64 0, .int .i64 0, .int .i64 0, .int .i64 0, .int .i64 0, .int .i64 0, .int .i64 0, .int .i64 0, .int .i64 0, .int .i64 0, .int .i64 0, .int .i64 0, .int .i64 0, .int .i64 0, .slice none 0 0] 28)
    rw [show (w.alloc (.cells #[.int .i64 s.ctx, .int .i64 s.fmt, .int .i64 s.num, .int .i64 s.time, .int .i64 s.mark, .int .i64 s.id, .int .i64 s.udp, .int .i64 s.h.kind, .int .i64 s.h.tos, .int .i64 s.h.id, .int .i64 s.h.fixed, .int .i64 s.h.ttl, .int .i64 s.h.frm, .int .i64 s.h.to, .int .i64 s.h.fromPort, .int .i64 s.h.toPort, .int .i64 s.h.check, .int .i64 s.h.marker, .int .i64 s.h.type, .int .i64 s.h.seq, .int .i64 s.h.time, .int .i64 s.h.source, .int .i64 s.ds, .int .i64 s.df, .int .i64 s.chk, .slice s.pa s.pn s.pc] 28)).heap.size = w.heap.size + 1 by simp] at q
    exact q)))
  have SL : Sl .i64 _ (some ⟨w.heap.size + 2, 0, none⟩) 10 oddsS := Sl.lit .i64 ((w.alloc (.cells #[.int .i64 s.ctx, .int .i64 s.fmt, .int .i64 s.num, .int .i64 s.time, .int .i64 s.mark, .int .i64 s.id, .int .i64 s.udp, .int .i64 s.h.kind, .int .i64 s.h.tos, .int .i64 s.h.id, .int .i64 s.h.fixed, .int .i64 s.h.ttl, .int .i64 s.h.frm, .int .i64 s.h.to, .int .i64 s.h.fromPort, .int .i64 s.h.toPort, .int .i64 s.h.check, .int .i64 s.h.marker, .int .i64 s.h.type, .int .i64 s.h.seq, .int .i64 s.h.time, .int .i64 s.h.source, .int .i64 s.ds, .int .i64 s.df, .int .i64 s.chk, .slice s.pa s.pn s.pc] 28)).alloc (.cells #[.int .i64 0, .int .i64 0, .int .i64 0, .int .i64 0, .int .i64 0, .int .i64 0, .int .i64 0, .int .i64 0, .int .i64 0, .int .i64 0, .int .i64 0, .int .i64 0, .int .i64 0, .int .i64 0, .int .i64 0, .int .i64 0, .int .i64 0, .int .i64 0, .int .i64 0, .int .i64 0, .int .i64 0, .int .i64 0, .int .i64 0, .int .i64 0, .int .i64 0, .slice none 0 0] 28)) oddsS 3 10 (w.heap.size + 2) (by simp) rfl (by omega) (by decide)
  have S4 := SL.keepRow hg4 (fun x hx _ e => by cases hx; have e2 : w.heap.size + 2 = g := Option.some.inj e; omega)
  have c4 := S4.at (i := i) hi
  generalize oddsS.getD i 0 = v at c4
  rw [Nat.zero_add] at c4
  have Q4 : Hid (OS w w4 g s) := Lib.hid ⟨hd4, (((World.grownBy_alloc w _ (some g)).trans (World.grownBy_alloc _ _ (some g))).trans (World.grownBy_alloc _ _ (some g))).trans hg4, K4, Z4⟩
  clear hd4 hg4 SL S4 Z0 K4 Z4
  have hI : (i : Int) < 10 := by omega
  go_wp2_with fail
  clear c4 hI
  refine (next_in g 9 _ Q4.out.d (by omega) (by omega)).mono ?_
  rintro e w5 ⟨k, rfl, k0, k1, hd5, hg5⟩
  have Q5 := Lib.hid (Q4.out.call hlt hd5 hg5)
  clear hd5 hg5 Q4
  have c5 := cells_of Q5.out.k
  have f5 := frozen_of Q5.out.k
  go_upto_block 0 with fail
  go_cut [] (fun wx => OddSR w g s wx)
  case first =>
    rcases (show k = 0 ∨ k = 1 ∨ k = 2 ∨ k = 3 ∨ k = 4 ∨ k = 5 ∨ k = 6 ∨ k = 7 ∨ k = 8 by omega) with rfl | rfl | rfl | rfl | rfl | rfl | rfl | rfl | rfl
    all_goals clear k0 k1
    · skip
      go_wp2
      go_meet
      have kk := blk_set Q5.out.k 0 (.int .i64 v)
      simp only [List.setIfInBounds_toArray, List.set_cons_zero] at kk
      exact ⟨{ s with ctx := v }, ⟨HF.out, rfl, rfl, rfl, rfl⟩, Q5.out.put hlt (grown_self (World.grownBy.refl _ _) _ _) kk⟩
    · skip
      go_wp2_with (first | (go_at_call 26; ((with_reducible refine (next_in g 8 _ Q5.out.d (by omega) (by omega)).mono ?_); rintro e w6 ⟨q, rfl, q0, q1, hd6, hg6⟩; have Q6 := Lib.hid (Q5.out.call hlt hd6 hg6); have c6 := cells_of Q6.out.k; have f6 := frozen_of Q6.out.k; clear hd6 hg6 Q5 c5 f5)) | fail)
      go_meet
      have kk := blk_set Q6.out.k 1 (.int .i64 q)
      simp only [List.setIfInBounds_toArray, List.set_cons_succ, List.set_cons_zero] at kk
      exact ⟨{ s with fmt := q }, ⟨HF.out, rfl, rfl, rfl, rfl⟩, Q6.out.put hlt (grown_self (World.grownBy.refl _ _) _ _) kk⟩
    · skip
      go_wp2
      go_meet
      have kk := blk_set Q5.out.k 2 (.int .i64 v)
      simp only [List.setIfInBounds_toArray, List.set_cons_succ, List.set_cons_zero] at kk
      exact ⟨{ s with num := v }, ⟨HF.out, rfl, rfl, rfl, rfl⟩, Q5.out.put hlt (grown_self (World.grownBy.refl _ _) _ _) kk⟩
    · skip
      go_wp2
      go_meet
      have kk := blk_set Q5.out.k 3 (.int .i64 v)
      simp only [List.setIfInBounds_toArray, List.set_cons_succ, List.set_cons_zero] at kk
      exact ⟨{ s with time := v }, ⟨HF.out, rfl, rfl, rfl, rfl⟩, Q5.out.put hlt (grown_self (World.grownBy.refl _ _) _ _) kk⟩
    · skip
      go_wp2
      go_meet
      have kk := blk_set Q5.out.k 4 (.int .i64 v)
      simp only [List.setIfInBounds_toArray, List.set_cons_succ, List.set_cons_zero] at kk
      exact ⟨{ s with mark := v }, ⟨HF.out, rfl, rfl, rfl, rfl⟩, Q5.out.put hlt (grown_self (World.grownBy.refl _ _) _ _) kk⟩
    · skip
      go_wp2
      go_meet
      have kk := blk_set Q5.out.k 6 (.int .i64 v)
      simp only [List.setIfInBounds_toArray, List.set_cons_succ, List.set_cons_zero] at kk
      exact ⟨{ s with udp := v }, ⟨HF.out, rfl, rfl, rfl, rfl⟩, Q5.out.put hlt (grown_self (World.grownBy.refl _ _) _ _) kk⟩
    · skip
      go_upto_region 17 with fail
      refine wp_region_lit ?_
      refine wpList_run (.pointer (some ⟨g, 0, none⟩)) w5 rfl (by kernel_rfl) ?_
      refine wpList_run (.pointer (some ⟨w.heap.size, 7, none⟩)) w5 rfl (by kernel_rfl) ?_
      refine wpList_load_mid rfl 23 _ rfl w.heap.size 7 rfl _ _ (sm_head Q5.out.k) Tryd.underlying23 rfl info_hd4 ?_
      simp only [Act.put, List.setIfInBounds_toArray, List.set_cons_zero, List.set_cons_succ]
      clear c5 f5
      go_wp2_with fail
      refine (odd_in g s.h _ Q5.out.d HF.out).mono ?_
      rintro e w6 ⟨h, rfl, hf, hd6, hg6⟩
      have Q6 := Lib.hid (Q5.out.call hlt hd6 hg6)
      clear hd6 hg6 Q5
      dsimp only
      refine ‹∀ (a : Act) (w : World), wpList _ _ _ _ a w → _› _ _ ?_
      refine wpList_run (.pointer (some ⟨w.heap.size, 7, none⟩)) w6 rfl (by kernel_rfl) ?_
      simp only [Act.put, List.setIfInBounds_toArray, List.set_cons_zero, List.set_cons_succ]
      refine wpList_store_part (n := 15) (m := 26) rfl rfl _ _ rfl rfl rfl Q6.out.k rfl (by decide) rfl info_hd4 (by simp [Value.oneCell']) ?_
      intro w7 K7 G7
      have Q7 := Lib.hid (Q6.out.putH hlt G7 K7)
      clear K7 G7 Q6
      go_wp2
      go_meet
      exact ⟨{ s with h := h }, ⟨hf, rfl, rfl, rfl, rfl⟩, Q7.out⟩
    · skip
      go_wp2
      go_meet
      have kk := blk_set Q5.out.k 22 (.int .i64 v)
      simp only [List.setIfInBounds_toArray, List.set_cons_succ, List.set_cons_zero] at kk
      exact ⟨{ s with ds := v }, ⟨HF.out, rfl, rfl, rfl, rfl⟩, Q5.out.put hlt (grown_self (World.grownBy.refl _ _) _ _) kk⟩
    · skip
      go_wp2
      go_meet
      have kk := blk_set Q5.out.k 24 (.int .i64 v)
      simp only [List.setIfInBounds_toArray, List.set_cons_succ, List.set_cons_zero] at kk
      exact ⟨{ s with chk := v }, ⟨HF.out, rfl, rfl, rfl, rfl⟩, Q5.out.put hlt (grown_self (World.grownBy.refl _ _) _ _) kk⟩
  case rest =>
    clear c5 f5 Q5 HF k0 k1
    obtain ⟨x, hx, q⟩ := hcut
    have Q := Lib.hid q
    clear q
    go_upto_region 20 with fail
    refine wp_region_lit ?_
    refine wpList_load_sm (s := x) Q.out.k rfl _ rfl rfl ?_
    refine wpList_store_blk (n := 26) rfl rfl _ _ rfl rfl rfl Q.out.z rfl rfl info_sm (by simp [Value.oneCell']) ?_
    intro W9 K9 G9
    simp only [Act.put, List.setIfInBounds_toArray, List.set_cons_zero, List.set_cons_succ]
    have L9 := Lib.hid (show Blk 28 W9 _ _ from K9)
    have D9 := Lib.hid (Q.out.d.keepRow G9 (fun c e => by rw [← Option.some.inj e]; omega))
    have G9' := Lib.hid (grown_then Q.out.gr G9 (fun j e => .inr (by rw [← Option.some.inj e]; omega)))
    clear K9 G9
    go_wp2_with fail
    refine bodyPost_ret (results_sm1 Tryd.results20 _ _ _ _ rfl L9.out rfl) rfl ?_
    exact ⟨x, rfl, hx, D9.out, G9'.out⟩
end Go.Proofs.YtkhcfmnebflgkaaDoor
