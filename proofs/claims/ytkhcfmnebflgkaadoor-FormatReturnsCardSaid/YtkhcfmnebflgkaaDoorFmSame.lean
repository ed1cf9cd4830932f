/-
  Same of the document (layer 8): two packets in parts that say the same.
-/
import Derived.Test.YtkhcfmnebflgkaaDoorJBase
import Derived.Test.YtkhcfmnebflgkaaDoorFmRef
import Derived.Deep.DeepCutAuto
import Derived.Deep.RegionHeld3
namespace Go.Proofs.YtkhcfmnebflgkaaDoor
open Go Go.RowKit

/-- the worlds of Same: the two packets and their copies -/
structure SaS (w W : World) (g : Nat) (s : Sm) (a : Option Addr) (n c : Nat) : Prop where
  k0 : Blk 28 W g #[.int .i64 s.ctx, .int .i64 s.fmt, .int .i64 s.num, .int .i64 s.time, .int .i64 s.mark, .int .i64 s.id, .int .i64 s.udp, .int .i64 s.h.kind, .int .i64 s.h.tos, .int .i64 s.h.id, .int .i64 s.h.fixed, .int .i64 s.h.ttl, .int .i64 s.h.frm, .int .i64 s.h.to, .int .i64 s.h.fromPort, .int .i64 s.h.toPort, .int .i64 s.h.check, .int .i64 s.h.marker, .int .i64 s.h.type, .int .i64 s.h.seq, .int .i64 s.h.time, .int .i64 s.h.source, .int .i64 s.ds, .int .i64 s.df, .int .i64 s.chk, .slice s.pa s.pn s.pc]
  k1 : Blk 28 W (g + 1) #[.int .i64 s.ctx, .int .i64 s.fmt, .int .i64 s.num, .int .i64 s.time, .int .i64 s.mark, .int .i64 s.id, .int .i64 s.udp, .int .i64 s.h.kind, .int .i64 s.h.tos, .int .i64 s.h.id, .int .i64 s.h.fixed, .int .i64 s.h.ttl, .int .i64 s.h.frm, .int .i64 s.h.to, .int .i64 s.h.fromPort, .int .i64 s.h.toPort, .int .i64 s.h.check, .int .i64 s.h.marker, .int .i64 s.h.type, .int .i64 s.h.seq, .int .i64 s.h.time, .int .i64 s.h.source, .int .i64 s.ds, .int .i64 s.df, .int .i64 s.chk, .slice a n c]
  b : Below w.heap.size w W
theorem SaS.row {w W W' : World} {g b : Nat} {s : Sm} {a : Option Addr} {n c : Nat} (q : SaS w W g s a n c) (hg : W.grownBy W' (some b)) (h : g + 2 ≤ b ∧ w.heap.size ≤ b) : SaS w W' g s a n c :=
  ⟨q.k0.keepRow hg (fun e => by have := Option.some.inj e; omega), q.k1.keepRow hg (fun e => by have := Option.some.inj e; omega), q.b.trans (Below.of_row hg (fun j e => by rw [← Option.some.inj e]; exact h.2) q.b.size)⟩
theorem SaS.more {w W : World} {g : Nat} {s : Sm} {a : Option Addr} {n c : Nat} (q : SaS w W g s a n c) (o : Obj) : SaS w (W.alloc o) g s a n c :=
  ⟨q.k0.keep ((Below.refl _ _).alloc (Nat.le_refl _) o), q.k1.keep ((Below.refl _ _).alloc (Nat.le_refl _) o), q.b.alloc q.b.size o⟩

set_option maxRecDepth 100000 in
set_option maxHeartbeats 3200000 in
theorem rSame_eq (s : Sm) (a : Option Addr) (n c : Nat) (w : World) (hs : s.In w) (ht : Sl .u8 w a n s.pz) :
    Calls Tryd.prog 25 #[(.agg #[.int .i64 s.ctx, .int .i64 s.fmt, .int .i64 s.num, .int .i64 s.time, .int .i64 s.mark, .int .i64 s.id, .int .i64 s.udp, .int .i64 s.h.kind, .int .i64 s.h.tos, .int .i64 s.h.id, .int .i64 s.h.fixed, .int .i64 s.h.ttl, .int .i64 s.h.frm, .int .i64 s.h.to, .int .i64 s.h.fromPort, .int .i64 s.h.toPort, .int .i64 s.h.check, .int .i64 s.h.marker, .int .i64 s.h.type, .int .i64 s.h.seq, .int .i64 s.h.time, .int .i64 s.h.source, .int .i64 s.ds, .int .i64 s.df, .int .i64 s.chk, .slice s.pa s.pn s.pc]), (.agg #[.int .i64 s.ctx, .int .i64 s.fmt, .int .i64 s.num, .int .i64 s.time, .int .i64 s.mark, .int .i64 s.id, .int .i64 s.udp, .int .i64 s.h.kind, .int .i64 s.h.tos, .int .i64 s.h.id, .int .i64 s.h.fixed, .int .i64 s.h.ttl, .int .i64 s.h.frm, .int .i64 s.h.to, .int .i64 s.h.fromPort, .int .i64 s.h.toPort, .int .i64 s.h.check, .int .i64 s.h.marker, .int .i64 s.h.type, .int .i64 s.h.seq, .int .i64 s.h.time, .int .i64 s.h.source, .int .i64 s.ds, .int .i64 s.df, .int .i64 s.chk, .slice a n c])] w fun e w' => e = .returned (.bool true) ∧ Below w.heap.size w w' := by
  have KA := heap_alloc_new w (.cells #[.int .i64 s.ctx, .int .i64 s.fmt, .int .i64 s.num, .int .i64 s.time, .int .i64 s.mark, .int .i64 s.id, .int .i64 s.udp, .int .i64 s.h.kind, .int .i64 s.h.tos, .int .i64 s.h.id, .int .i64 s.h.fixed, .int .i64 s.h.ttl, .int .i64 s.h.frm, .int .i64 s.h.to, .int .i64 s.h.fromPort, .int .i64 s.h.toPort, .int .i64 s.h.check, .int .i64 s.h.marker, .int .i64 s.h.type, .int .i64 s.h.seq, .int .i64 s.h.time, .int .i64 s.h.source, .int .i64 s.ds, .int .i64 s.df, .int .i64 s.chk, .slice s.pa s.pn s.pc] 28)
  have KB := heap_alloc_new (w.alloc (.cells #[.int .i64 s.ctx, .int .i64 s.fmt, .int .i64 s.num, .int .i64 s.time, .int .i64 s.mark, .int .i64 s.id, .int .i64 s.udp, .int .i64 s.h.kind, .int .i64 s.h.tos, .int .i64 s.h.id, .int .i64 s.h.fixed, .int .i64 s.h.ttl, .int .i64 s.h.frm, .int .i64 s.h.to, .int .i64 s.h.fromPort, .int .i64 s.h.toPort, .int .i64 s.h.check, .int .i64 s.h.marker, .int .i64 s.h.type, .int .i64 s.h.seq, .int .i64 s.h.time, .int .i64 s.h.source, .int .i64 s.ds, .int .i64 s.df, .int .i64 s.chk, .slice s.pa s.pn s.pc] 28)) (.cells #[.int .i64 s.ctx, .int .i64 s.fmt, .int .i64 s.num, .int .i64 s.time, .int .i64 s.mark, .int .i64 s.id, .int .i64 s.udp, .int .i64 s.h.kind, .int .i64 s.h.tos, .int .i64 s.h.id, .int .i64 s.h.fixed, .int .i64 s.h.ttl, .int .i64 s.h.frm, .int .i64 s.h.to, .int .i64 s.h.fromPort, .int .i64 s.h.toPort, .int .i64 s.h.check, .int .i64 s.h.marker, .int .i64 s.h.type, .int .i64 s.h.seq, .int .i64 s.h.time, .int .i64 s.h.source, .int .i64 s.ds, .int .i64 s.df, .int .i64 s.chk, .slice a n c] 28)
  have KA2 := (heap_alloc_old (w.alloc (.cells #[.int .i64 s.ctx, .int .i64 s.fmt, .int .i64 s.num, .int .i64 s.time, .int .i64 s.mark, .int .i64 s.id, .int .i64 s.udp, .int .i64 s.h.kind, .int .i64 s.h.tos, .int .i64 s.h.id, .int .i64 s.h.fixed, .int .i64 s.h.ttl, .int .i64 s.h.frm, .int .i64 s.h.to, .int .i64 s.h.fromPort, .int .i64 s.h.toPort, .int .i64 s.h.check, .int .i64 s.h.marker, .int .i64 s.h.type, .int .i64 s.h.seq, .int .i64 s.h.time, .int .i64 s.h.source, .int .i64 s.ds, .int .i64 s.df, .int .i64 s.chk, .slice s.pa s.pn s.pc] 28)) (.cells #[.int .i64 s.ctx, .int .i64 s.fmt, .int .i64 s.num, .int .i64 s.time, .int .i64 s.mark, .int .i64 s.id, .int .i64 s.udp, .int .i64 s.h.kind, .int .i64 s.h.tos, .int .i64 s.h.id, .int .i64 s.h.fixed, .int .i64 s.h.ttl, .int .i64 s.h.frm, .int .i64 s.h.to, .int .i64 s.h.fromPort, .int .i64 s.h.toPort, .int .i64 s.h.check, .int .i64 s.h.marker, .int .i64 s.h.type, .int .i64 s.h.seq, .int .i64 s.h.time, .int .i64 s.h.source, .int .i64 s.ds, .int .i64 s.df, .int .i64 s.chk, .slice a n c] 28) (by simp)).trans KA
  rw [show (w.alloc (.cells #[.int .i64 s.ctx, .int .i64 s.fmt, .int .i64 s.num, .int .i64 s.time, .int .i64 s.mark, .int .i64 s.id, .int .i64 s.udp, .int .i64 s.h.kind, .int .i64 s.h.tos, .int .i64 s.h.id, .int .i64 s.h.fixed, .int .i64 s.h.ttl, .int .i64 s.h.frm, .int .i64 s.h.to, .int .i64 s.h.fromPort, .int .i64 s.h.toPort, .int .i64 s.h.check, .int .i64 s.h.marker, .int .i64 s.h.type, .int .i64 s.h.seq, .int .i64 s.h.time, .int .i64 s.h.source, .int .i64 s.ds, .int .i64 s.df, .int .i64 s.chk, .slice s.pa s.pn s.pc] 28)).heap.size = w.heap.size + 1 by simp] at KB
  have B2 := ((Below.refl w.heap.size w).alloc (Nat.le_refl _) (.cells #[.int .i64 s.ctx, .int .i64 s.fmt, .int .i64 s.num, .int .i64 s.time, .int .i64 s.mark, .int .i64 s.id, .int .i64 s.udp, .int .i64 s.h.kind, .int .i64 s.h.tos, .int .i64 s.h.id, .int .i64 s.h.fixed, .int .i64 s.h.ttl, .int .i64 s.h.frm, .int .i64 s.h.to, .int .i64 s.h.fromPort, .int .i64 s.h.toPort, .int .i64 s.h.check, .int .i64 s.h.marker, .int .i64 s.h.type, .int .i64 s.h.seq, .int .i64 s.h.time, .int .i64 s.h.source, .int .i64 s.ds, .int .i64 s.df, .int .i64 s.chk, .slice s.pa s.pn s.pc] 28)).alloc (by simp) (.cells #[.int .i64 s.ctx, .int .i64 s.fmt, .int .i64 s.num, .int .i64 s.time, .int .i64 s.mark, .int .i64 s.id, .int .i64 s.udp, .int .i64 s.h.kind, .int .i64 s.h.tos, .int .i64 s.h.id, .int .i64 s.h.fixed, .int .i64 s.h.ttl, .int .i64 s.h.frm, .int .i64 s.h.to, .int .i64 s.h.fromPort, .int .i64 s.h.toPort, .int .i64 s.h.check, .int .i64 s.h.marker, .int .i64 s.h.type, .int .i64 s.h.seq, .int .i64 s.h.time, .int .i64 s.h.source, .int .i64 s.ds, .int .i64 s.df, .int .i64 s.chk, .slice a n c] 28)
  have HS := Lib.hid hs
  have HT := Lib.hid ht
  clear KA hs ht
  have EH := fun W => eql_hd s.h s.h W
  have ED := fun W => eql_dy s.ds s.df s.ds s.df W
  rw [eqB_self] at EH
  simp only [decide_true, Bool.and_self] at ED
  go_enter Tryd.func25, Tryd.ntmps25
  go_upto_region 1 with fail
  have Q2 : Hid (SaS w ((w.alloc (.cells #[.int .i64 s.ctx, .int .i64 s.fmt, .int .i64 s.num, .int .i64 s.time, .int .i64 s.mark, .int .i64 s.id, .int .i64 s.udp, .int .i64 s.h.kind, .int .i64 s.h.tos, .int .i64 s.h.id, .int .i64 s.h.fixed, .int .i64 s.h.ttl, .int .i64 s.h.frm, .int .i64 s.h.to, .int .i64 s.h.fromPort, .int .i64 s.h.toPort, .int .i64 s.h.check, .int .i64 s.h.marker, .int .i64 s.h.type, .int .i64 s.h.seq, .int .i64 s.h.time, .int .i64 s.h.source, .int .i64 s.ds, .int .i64 s.df, .int .i64 s.chk, .slice s.pa s.pn s.pc] 28)).alloc (.cells #[.int .i64 s.ctx, .int .i64 s.fmt, .int .i64 s.num, .int .i64 s.time, .int .i64 s.mark, .int .i64 s.id, .int .i64 s.udp, .int .i64 s.h.kind, .int .i64 s.h.tos, .int .i64 s.h.id, .int .i64 s.h.fixed, .int .i64 s.h.ttl, .int .i64 s.h.frm, .int .i64 s.h.to, .int .i64 s.h.fromPort, .int .i64 s.h.toPort, .int .i64 s.h.check, .int .i64 s.h.marker, .int .i64 s.h.type, .int .i64 s.h.seq, .int .i64 s.h.time, .int .i64 s.h.source, .int .i64 s.ds, .int .i64 s.df, .int .i64 s.chk, .slice a n c] 28)) w.heap.size s a n c) := Lib.hid ⟨KA2, KB, B2⟩
  clear KA2 KB B2
  have hz2 : ((w.alloc (.cells #[.int .i64 s.ctx, .int .i64 s.fmt, .int .i64 s.num, .int .i64 s.time, .int .i64 s.mark, .int .i64 s.id, .int .i64 s.udp, .int .i64 s.h.kind, .int .i64 s.h.tos, .int .i64 s.h.id, .int .i64 s.h.fixed, .int .i64 s.h.ttl, .int .i64 s.h.frm, .int .i64 s.h.to, .int .i64 s.h.fromPort, .int .i64 s.h.toPort, .int .i64 s.h.check, .int .i64 s.h.marker, .int .i64 s.h.type, .int .i64 s.h.seq, .int .i64 s.h.time, .int .i64 s.h.source, .int .i64 s.ds, .int .i64 s.df, .int .i64 s.chk, .slice s.pa s.pn s.pc] 28)).alloc (.cells #[.int .i64 s.ctx, .int .i64 s.fmt, .int .i64 s.num, .int .i64 s.time, .int .i64 s.mark, .int .i64 s.id, .int .i64 s.udp, .int .i64 s.h.kind, .int .i64 s.h.tos, .int .i64 s.h.id, .int .i64 s.h.fixed, .int .i64 s.h.ttl, .int .i64 s.h.frm, .int .i64 s.h.to, .int .i64 s.h.fromPort, .int .i64 s.h.toPort, .int .i64 s.h.check, .int .i64 s.h.marker, .int .i64 s.h.type, .int .i64 s.h.seq, .int .i64 s.h.time, .int .i64 s.h.source, .int .i64 s.ds, .int .i64 s.df, .int .i64 s.chk, .slice a n c] 28)).heap.size = w.heap.size + 2 := by simp
  generalize hW3 : ((w.alloc (.cells #[.int .i64 s.ctx, .int .i64 s.fmt, .int .i64 s.num, .int .i64 s.time, .int .i64 s.mark, .int .i64 s.id, .int .i64 s.udp, .int .i64 s.h.kind, .int .i64 s.h.tos, .int .i64 s.h.id, .int .i64 s.h.fixed, .int .i64 s.h.ttl, .int .i64 s.h.frm, .int .i64 s.h.to, .int .i64 s.h.fromPort, .int .i64 s.h.toPort, .int .i64 s.h.check, .int .i64 s.h.marker, .int .i64 s.h.type, .int .i64 s.h.seq, .int .i64 s.h.time, .int .i64 s.h.source, .int .i64 s.ds, .int .i64 s.df, .int .i64 s.chk, .slice s.pa s.pn s.pc] 28)).alloc (.cells #[.int .i64 s.ctx, .int .i64 s.fmt, .int .i64 s.num, .int .i64 s.time, .int .i64 s.mark, .int .i64 s.id, .int .i64 s.udp, .int .i64 s.h.kind, .int .i64 s.h.tos, .int .i64 s.h.id, .int .i64 s.h.fixed, .int .i64 s.h.ttl, .int .i64 s.h.frm, .int .i64 s.h.to, .int .i64 s.h.fromPort, .int .i64 s.h.toPort, .int .i64 s.h.check, .int .i64 s.h.marker, .int .i64 s.h.type, .int .i64 s.h.seq, .int .i64 s.h.time, .int .i64 s.h.source, .int .i64 s.ds, .int .i64 s.df, .int .i64 s.chk, .slice a n c] 28)) = W2 at Q2 hz2 ⊢
  clear hW3
  go_cut [5, 6] (fun s5 s6 wx => ∃ x y wc, s5 = .pointer (some ⟨x, 0, none⟩) ∧ s6 = .pointer (some ⟨y, 0, none⟩) ∧ wc = wx ∧ SaS w wc w.heap.size s a n c ∧ Blk 28 wc x #[.int .i64 s.ctx, .int .i64 s.fmt, .int .i64 s.num, .int .i64 s.time, .int .i64 s.mark, .int .i64 s.id, .int .i64 s.udp, .int .i64 s.h.kind, .int .i64 s.h.tos, .int .i64 s.h.id, .int .i64 s.h.fixed, .int .i64 s.h.ttl, .int .i64 s.h.frm, .int .i64 s.h.to, .int .i64 s.h.fromPort, .int .i64 s.h.toPort, .int .i64 s.h.check, .int .i64 s.h.marker, .int .i64 s.h.type, .int .i64 s.h.seq, .int .i64 s.h.time, .int .i64 s.h.source, .int .i64 s.ds, .int .i64 s.df, .int .i64 s.chk, .slice s.pa s.pn s.pc] ∧ Blk 28 wc y #[.int .i64 s.ctx, .int .i64 s.fmt, .int .i64 s.num, .int .i64 s.time, .int .i64 s.mark, .int .i64 s.id, .int .i64 s.udp, .int .i64 s.h.kind, .int .i64 s.h.tos, .int .i64 s.h.id, .int .i64 s.h.fixed, .int .i64 s.h.ttl, .int .i64 s.h.frm, .int .i64 s.h.to, .int .i64 s.h.fromPort, .int .i64 s.h.toPort, .int .i64 s.h.check, .int .i64 s.h.marker, .int .i64 s.h.type, .int .i64 s.h.seq, .int .i64 s.h.time, .int .i64 s.h.source, .int .i64 s.ds, .int .i64 s.df, .int .i64 s.chk, .slice a n c])
  case first =>
    have Q3 : Hid (SaS w W2.drew w.heap.size s a n c) := Lib.hid ⟨Q2.out.k0, Q2.out.k1, Q2.out.b.drew⟩
    have hgz : w.heap.size + 2 ≤ W2.heap.size := by omega
    generalize hg0 : w.heap.size = g0 at Q3 hgz ⊢
    refine wp_region_noPanic ?_
    refine wp_region_held_drew (S := fun W => Blk 28 W g0 #[.int .i64 s.ctx, .int .i64 s.fmt, .int .i64 s.num, .int .i64 s.time, .int .i64 s.mark, .int .i64 s.id, .int .i64 s.udp, .int .i64 s.h.kind, .int .i64 s.h.tos, .int .i64 s.h.id, .int .i64 s.h.fixed, .int .i64 s.h.ttl, .int .i64 s.h.frm, .int .i64 s.h.to, .int .i64 s.h.fromPort, .int .i64 s.h.toPort, .int .i64 s.h.check, .int .i64 s.h.marker, .int .i64 s.h.type, .int .i64 s.h.seq, .int .i64 s.h.time, .int .i64 s.h.source, .int .i64 s.ds, .int .i64 s.df, .int .i64 s.chk, .slice s.pa s.pn s.pc] ∧ Blk 28 W (g0 + 1) #[.int .i64 s.ctx, .int .i64 s.fmt, .int .i64 s.num, .int .i64 s.time, .int .i64 s.mark, .int .i64 s.id, .int .i64 s.udp, .int .i64 s.h.kind, .int .i64 s.h.tos, .int .i64 s.h.id, .int .i64 s.h.fixed, .int .i64 s.h.ttl, .int .i64 s.h.frm, .int .i64 s.h.to, .int .i64 s.h.fromPort, .int .i64 s.h.toPort, .int .i64 s.h.check, .int .i64 s.h.marker, .int .i64 s.h.type, .int .i64 s.h.seq, .int .i64 s.h.time, .int .i64 s.h.source, .int .i64 s.ds, .int .i64 s.df, .int .i64 s.chk, .slice a n c]) (by kernel_rfl) ⟨Q3.out.k0, Q3.out.k1⟩ (fun hHeld => ?_)
    have hz3 : W2.drew.heap.size = W2.heap.size := rfl
    rw [← hz3] at hgz
    generalize hW3 : W2.drew = W3 at Q3 hHeld hgz ⊢
    clear hW3 Q2 hz2 hz3
    refine take_lit (i := 0) (v := (.agg #[.int .i64 s.ctx, .int .i64 s.fmt, .int .i64 s.num, .int .i64 s.time, .int .i64 s.mark, .int .i64 s.id, .int .i64 s.udp, .int .i64 s.h.kind, .int .i64 s.h.tos, .int .i64 s.h.id, .int .i64 s.h.fixed, .int .i64 s.h.ttl, .int .i64 s.h.frm, .int .i64 s.h.to, .int .i64 s.h.fromPort, .int .i64 s.h.toPort, .int .i64 s.h.check, .int .i64 s.h.marker, .int .i64 s.h.type, .int .i64 s.h.seq, .int .i64 s.h.time, .int .i64 s.h.source, .int .i64 s.ds, .int .i64 s.df, .int .i64 s.chk, .slice s.pa s.pn s.pc])) 7 rfl rfl (by kernel_rfl) (by kernel_rfl) (by kernel_rfl) (fun _ _ _ h => h) (yieldsIf_load_mid (by rfl) _ _ rfl _ _ rfl _ _ (fun W q => sm_range q.1) Tryd.underlying28 rfl info_sm) (by assumption) ?_
    simp only [Act.put, List.setIfInBounds_toArray, List.set_cons_zero, List.set_cons_succ]
    refine take_lit (i := 1) (v := (.agg #[.int .i64 s.ctx, .int .i64 s.fmt, .int .i64 s.num, .int .i64 s.time, .int .i64 s.mark, .int .i64 s.id, .int .i64 s.udp, .int .i64 s.h.kind, .int .i64 s.h.tos, .int .i64 s.h.id, .int .i64 s.h.fixed, .int .i64 s.h.ttl, .int .i64 s.h.frm, .int .i64 s.h.to, .int .i64 s.h.fromPort, .int .i64 s.h.toPort, .int .i64 s.h.check, .int .i64 s.h.marker, .int .i64 s.h.type, .int .i64 s.h.seq, .int .i64 s.h.time, .int .i64 s.h.source, .int .i64 s.ds, .int .i64 s.df, .int .i64 s.chk, .slice a n c])) 8 rfl rfl (by kernel_rfl) (by kernel_rfl) (by kernel_rfl) (fun _ _ _ h => h) (yieldsIf_load_mid (by rfl) _ _ rfl _ _ rfl _ _ (fun W q => sm_range (s := { s with pa := a, pn := n, pc := c }) q.2) Tryd.underlying28 rfl info_sm) (by assumption) ?_
    simp only [Act.put, List.setIfInBounds_toArray, List.set_cons_zero, List.set_cons_succ]
    refine wpAnyH_ready (rs := [2, 3]) (by kernel_rfl) (by simp) ?_
    refine AllReadyH.cons rfl (fun K hK => ?_) (AllReadyH.cons rfl (fun K hK => ?_) AllReadyH.nil)
    · go_simp
      have M0 := Lib.hid (show Blk 28 (W3.alloc (.cells #[.int .i64 0, .int .i64 0, .int .i64 0, .int .i64 0, .int .i64 0, .int .i64 0, .int .i64 0, .int .i64 0, .int .i64 0, .int .i64 0, .int .i64 0, .int .i64 0, .int .i64 0, .int .i64 0, .int .i64 0, .int .i64 0, .int .i64 0, .int .i64 0, .int .i64 0, .int .i64 0, .int .i64 0, .int .i64 0, .int .i64 0, .int .i64 0, .int .i64 0, .slice none 0 0] 28)) W3.heap.size _ from heap_alloc_new W3 (.cells #[.int .i64 0, .int .i64 0, .int .i64 0, .int .i64 0, .int .i64 0, .int .i64 0, .int .i64 0, .int .i64 0, .int .i64 0, .int .i64 0, .int .i64 0, .int .i64 0, .int .i64 0, .int .i64 0, .int .i64 0, .int .i64 0, .int .i64 0, .int .i64 0, .int .i64 0, .int .i64 0, .int .i64 0, .int .i64 0, .int .i64 0, .int .i64 0, .int .i64 0, .slice none 0 0] 28))
      have Q3' := Lib.hid (Q3.out.more (.cells #[.int .i64 0, .int .i64 0, .int .i64 0, .int .i64 0, .int .i64 0, .int .i64 0, .int .i64 0, .int .i64 0, .int .i64 0, .int .i64 0, .int .i64 0, .int .i64 0, .int .i64 0, .int .i64 0, .int .i64 0, .int .i64 0, .int .i64 0, .int .i64 0, .int .i64 0, .int .i64 0, .int .i64 0, .int .i64 0, .int .i64 0, .int .i64 0, .int .i64 0, .slice none 0 0] 28))
      refine hK.out _ _ ⟨Q3'.out.k0, Q3'.out.k1⟩ (fun hHeld => ?_)
      have hgz2 : (W3.alloc (.cells #[.int .i64 0, .int .i64 0, .int .i64 0, .int .i64 0, .int .i64 0, .int .i64 0, .int .i64 0, .int .i64 0, .int .i64 0, .int .i64 0, .int .i64 0, .int .i64 0, .int .i64 0, .int .i64 0, .int .i64 0, .int .i64 0, .int .i64 0, .int .i64 0, .int .i64 0, .int .i64 0, .int .i64 0, .int .i64 0, .int .i64 0, .int .i64 0, .int .i64 0, .slice none 0 0] 28)).heap.size = W3.heap.size + 1 := by simp
      clear hK K Q3
      generalize hW4 : W3.alloc (.cells #[.int .i64 0, .int .i64 0, .int .i64 0, .int .i64 0, .int .i64 0, .int .i64 0, .int .i64 0, .int .i64 0, .int .i64 0, .int .i64 0, .int .i64 0, .int .i64 0, .int .i64 0, .int .i64 0, .int .i64 0, .int .i64 0, .int .i64 0, .int .i64 0, .int .i64 0, .int .i64 0, .int .i64 0, .int .i64 0, .int .i64 0, .int .i64 0, .int .i64 0, .slice none 0 0] 28) = W4 at M0 Q3' hHeld hgz2 ⊢
      clear hW4
      refine wpAnyH_ready (rs := [3]) (by kernel_rfl) (by simp) ?_
      refine AllReadyH.cons rfl (fun K hK => ?_) AllReadyH.nil
      go_simp
      have M1 := Lib.hid (show Blk 28 (W4.alloc (.cells #[.int .i64 0, .int .i64 0, .int .i64 0, .int .i64 0, .int .i64 0, .int .i64 0, .int .i64 0, .int .i64 0, .int .i64 0, .int .i64 0, .int .i64 0, .int .i64 0, .int .i64 0, .int .i64 0, .int .i64 0, .int .i64 0, .int .i64 0, .int .i64 0, .int .i64 0, .int .i64 0, .int .i64 0, .int .i64 0, .int .i64 0, .int .i64 0, .int .i64 0, .slice none 0 0] 28)) W4.heap.size _ from heap_alloc_new W4 (.cells #[.int .i64 0, .int .i64 0, .int .i64 0, .int .i64 0, .int .i64 0, .int .i64 0, .int .i64 0, .int .i64 0, .int .i64 0, .int .i64 0, .int .i64 0, .int .i64 0, .int .i64 0, .int .i64 0, .int .i64 0, .int .i64 0, .int .i64 0, .int .i64 0, .int .i64 0, .int .i64 0, .int .i64 0, .int .i64 0, .int .i64 0, .int .i64 0, .int .i64 0, .slice none 0 0] 28))
      have M2 := Lib.hid (M0.out.keep ((Below.refl _ _).alloc (Nat.le_refl _) (.cells #[.int .i64 0, .int .i64 0, .int .i64 0, .int .i64 0, .int .i64 0, .int .i64 0, .int .i64 0, .int .i64 0, .int .i64 0, .int .i64 0, .int .i64 0, .int .i64 0, .int .i64 0, .int .i64 0, .int .i64 0, .int .i64 0, .int .i64 0, .int .i64 0, .int .i64 0, .int .i64 0, .int .i64 0, .int .i64 0, .int .i64 0, .int .i64 0, .int .i64 0, .slice none 0 0] 28)))
      have Q4 := Lib.hid (Q3'.out.more (.cells #[.int .i64 0, .int .i64 0, .int .i64 0, .int .i64 0, .int .i64 0, .int .i64 0, .int .i64 0, .int .i64 0, .int .i64 0, .int .i64 0, .int .i64 0, .int .i64 0, .int .i64 0, .int .i64 0, .int .i64 0, .int .i64 0, .int .i64 0, .int .i64 0, .int .i64 0, .int .i64 0, .int .i64 0, .int .i64 0, .int .i64 0, .int .i64 0, .int .i64 0, .slice none 0 0] 28))
      refine hK.out _ _ ⟨Q4.out.k0, Q4.out.k1⟩ (fun hHeld => ?_)
      clear hK K Q3' M0
      generalize hW5 : W4.alloc (.cells #[.int .i64 0, .int .i64 0, .int .i64 0, .int .i64 0, .int .i64 0, .int .i64 0, .int .i64 0, .int .i64 0, .int .i64 0, .int .i64 0, .int .i64 0, .int .i64 0, .int .i64 0, .int .i64 0, .int .i64 0, .int .i64 0, .int .i64 0, .int .i64 0, .int .i64 0, .int .i64 0, .int .i64 0, .int .i64 0, .int .i64 0, .int .i64 0, .int .i64 0, .slice none 0 0] 28) = W7 at M1 M2 Q4 hHeld ⊢
      clear hW5
      rw [hgz2] at M1
      refine wpAnyH_ready (rs := [4]) (by kernel_rfl) (by simp) ?_
      refine AllReadyH.cons rfl (fun K hK => ?_) AllReadyH.nil
      refine step_store_blk (n := 26) rfl rfl _ _ rfl rfl rfl M2.out rfl rfl info_sm (by simp [Value.oneCell']) ?_
      intro W5 K5 G5
      have J5 := Lib.hid (show Blk 28 W5 _ _ from K5)
      have Q5 := Lib.hid (Q4.out.row G5 ⟨by omega, by omega⟩)
      have J6 := Lib.hid (M1.out.keepRow G5 (fun e => by have := Option.some.inj e; omega))
      refine hK.out _ _ ⟨Q5.out.k0, Q5.out.k1⟩ (fun hHeld => ?_)
      clear hK K K5 G5 Q4 M2 M1
      refine wpAnyH_ready (rs := [5]) (by kernel_rfl) (by simp) ?_
      refine AllReadyH.cons rfl (fun K hK => ?_) AllReadyH.nil
      refine step_store_blk (n := 26) rfl rfl _ _ rfl rfl rfl J6.out rfl rfl info_sm (by simp [Value.oneCell']) ?_
      intro W6 K6 G6
      have L6 := Lib.hid (show Blk 28 W6 _ _ from K6)
      have Q6 := Lib.hid (Q5.out.row G6 ⟨by omega, by omega⟩)
      have L5 := Lib.hid (J5.out.keepRow G6 (fun e => by have := Option.some.inj e; omega))
      refine hK.out _ _ ⟨Q6.out.k0, Q6.out.k1⟩ (fun hHeld => ?_)
      clear hK K K6 G6 Q5 J5 J6
      refine wpAnyH_done (by kernel_rfl) ?_ _
      refine NoPanic.normal ?_
      subst hg0
      go_wp2_with fail
      go_meet
      exact ⟨_, _, _, rfl, rfl, rfl, Q6.out, L5.out, L6.out⟩
    · go_simp
      have M0 := Lib.hid (show Blk 28 (W3.alloc (.cells #[.int .i64 0, .int .i64 0, .int .i64 0, .int .i64 0, .int .i64 0, .int .i64 0, .int .i64 0, .int .i64 0, .int .i64 0, .int .i64 0, .int .i64 0, .int .i64 0, .int .i64 0, .int .i64 0, .int .i64 0, .int .i64 0, .int .i64 0, .int .i64 0, .int .i64 0, .int .i64 0, .int .i64 0, .int .i64 0, .int .i64 0, .int .i64 0, .int .i64 0, .slice none 0 0] 28)) W3.heap.size _ from heap_alloc_new W3 (.cells #[.int .i64 0, .int .i64 0, .int .i64 0, .int .i64 0, .int .i64 0, .int .i64 0, .int .i64 0, .int .i64 0, .int .i64 0, .int .i64 0, .int .i64 0, .int .i64 0, .int .i64 0, .int .i64 0, .int .i64 0, .int .i64 0, .int .i64 0, .int .i64 0, .int .i64 0, .int .i64 0, .int .i64 0, .int .i64 0, .int .i64 0, .int .i64 0, .int .i64 0, .slice none 0 0] 28))
      have Q3' := Lib.hid (Q3.out.more (.cells #[.int .i64 0, .int .i64 0, .int .i64 0, .int .i64 0, .int .i64 0, .int .i64 0, .int .i64 0, .int .i64 0, .int .i64 0, .int .i64 0, .int .i64 0, .int .i64 0, .int .i64 0, .int .i64 0, .int .i64 0, .int .i64 0, .int .i64 0, .int .i64 0, .int .i64 0, .int .i64 0, .int .i64 0, .int .i64 0, .int .i64 0, .int .i64 0, .int .i64 0, .slice none 0 0] 28))
      refine hK.out _ _ ⟨Q3'.out.k0, Q3'.out.k1⟩ (fun hHeld => ?_)
      have hgz2 : (W3.alloc (.cells #[.int .i64 0, .int .i64 0, .int .i64 0, .int .i64 0, .int .i64 0, .int .i64 0, .int .i64 0, .int .i64 0, .int .i64 0, .int .i64 0, .int .i64 0, .int .i64 0, .int .i64 0, .int .i64 0, .int .i64 0, .int .i64 0, .int .i64 0, .int .i64 0, .int .i64 0, .int .i64 0, .int .i64 0, .int .i64 0, .int .i64 0, .int .i64 0, .int .i64 0, .slice none 0 0] 28)).heap.size = W3.heap.size + 1 := by simp
      clear hK K Q3
      generalize hW4 : W3.alloc (.cells #[.int .i64 0, .int .i64 0, .int .i64 0, .int .i64 0, .int .i64 0, .int .i64 0, .int .i64 0, .int .i64 0, .int .i64 0, .int .i64 0, .int .i64 0, .int .i64 0, .int .i64 0, .int .i64 0, .int .i64 0, .int .i64 0, .int .i64 0, .int .i64 0, .int .i64 0, .int .i64 0, .int .i64 0, .int .i64 0, .int .i64 0, .int .i64 0, .int .i64 0, .slice none 0 0] 28) = W4 at M0 Q3' hHeld hgz2 ⊢
      clear hW4
      refine wpAnyH_ready (rs := [2]) (by kernel_rfl) (by simp) ?_
      refine AllReadyH.cons rfl (fun K hK => ?_) AllReadyH.nil
      go_simp
      have M1 := Lib.hid (show Blk 28 (W4.alloc (.cells #[.int .i64 0, .int .i64 0, .int .i64 0, .int .i64 0, .int .i64 0, .int .i64 0, .int .i64 0, .int .i64 0, .int .i64 0, .int .i64 0, .int .i64 0, .int .i64 0, .int .i64 0, .int .i64 0, .int .i64 0, .int .i64 0, .int .i64 0, .int .i64 0, .int .i64 0, .int .i64 0, .int .i64 0, .int .i64 0, .int .i64 0, .int .i64 0, .int .i64 0, .slice none 0 0] 28)) W4.heap.size _ from heap_alloc_new W4 (.cells #[.int .i64 0, .int .i64 0, .int .i64 0, .int .i64 0, .int .i64 0, .int .i64 0, .int .i64 0, .int .i64 0, .int .i64 0, .int .i64 0, .int .i64 0, .int .i64 0, .int .i64 0, .int .i64 0, .int .i64 0, .int .i64 0, .int .i64 0, .int .i64 0, .int .i64 0, .int .i64 0, .int .i64 0, .int .i64 0, .int .i64 0, .int .i64 0, .int .i64 0, .slice none 0 0] 28))
      have M2 := Lib.hid (M0.out.keep ((Below.refl _ _).alloc (Nat.le_refl _) (.cells #[.int .i64 0, .int .i64 0, .int .i64 0, .int .i64 0, .int .i64 0, .int .i64 0, .int .i64 0, .int .i64 0, .int .i64 0, .int .i64 0, .int .i64 0, .int .i64 0, .int .i64 0, .int .i64 0, .int .i64 0, .int .i64 0, .int .i64 0, .int .i64 0, .int .i64 0, .int .i64 0, .int .i64 0, .int .i64 0, .int .i64 0, .int .i64 0, .int .i64 0, .slice none 0 0] 28)))
      have Q4 := Lib.hid (Q3'.out.more (.cells #[.int .i64 0, .int .i64 0, .int .i64 0, .int .i64 0, .int .i64 0, .int .i64 0, .int .i64 0, .int .i64 0, .int .i64 0, .int .i64 0, .int .i64 0, .int .i64 0, .int .i64 0, .int .i64 0, .int .i64 0, .int .i64 0, .int .i64 0, .int .i64 0, .int .i64 0, .int .i64 0, .int .i64 0, .int .i64 0, .int .i64 0, .int .i64 0, .int .i64 0, .slice none 0 0] 28))
      refine hK.out _ _ ⟨Q4.out.k0, Q4.out.k1⟩ (fun hHeld => ?_)
      clear hK K Q3' M0
      generalize hW5 : W4.alloc (.cells #[.int .i64 0, .int .i64 0, .int .i64 0, .int .i64 0, .int .i64 0, .int .i64 0, .int .i64 0, .int .i64 0, .int .i64 0, .int .i64 0, .int .i64 0, .int .i64 0, .int .i64 0, .int .i64 0, .int .i64 0, .int .i64 0, .int .i64 0, .int .i64 0, .int .i64 0, .int .i64 0, .int .i64 0, .int .i64 0, .int .i64 0, .int .i64 0, .int .i64 0, .slice none 0 0] 28) = W7 at M1 M2 Q4 hHeld ⊢
      clear hW5
      rw [hgz2] at M1
      refine wpAnyH_ready (rs := [4]) (by kernel_rfl) (by simp) ?_
      refine AllReadyH.cons rfl (fun K hK => ?_) AllReadyH.nil
      refine step_store_blk (n := 26) rfl rfl _ _ rfl rfl rfl M1.out rfl rfl info_sm (by simp [Value.oneCell']) ?_
      intro W5 K5 G5
      have J5 := Lib.hid (show Blk 28 W5 _ _ from K5)
      have Q5 := Lib.hid (Q4.out.row G5 ⟨by omega, by omega⟩)
      have J6 := Lib.hid (M2.out.keepRow G5 (fun e => by have := Option.some.inj e; omega))
      refine hK.out _ _ ⟨Q5.out.k0, Q5.out.k1⟩ (fun hHeld => ?_)
      clear hK K K5 G5 Q4 M1 M2
      refine wpAnyH_ready (rs := [5]) (by kernel_rfl) (by simp) ?_
      refine AllReadyH.cons rfl (fun K hK => ?_) AllReadyH.nil
      refine step_store_blk (n := 26) rfl rfl _ _ rfl rfl rfl J6.out rfl rfl info_sm (by simp [Value.oneCell']) ?_
      intro W6 K6 G6
      have L6 := Lib.hid (show Blk 28 W6 _ _ from K6)
      have Q6 := Lib.hid (Q5.out.row G6 ⟨by omega, by omega⟩)
      have L5 := Lib.hid (J5.out.keepRow G6 (fun e => by have := Option.some.inj e; omega))
      refine hK.out _ _ ⟨Q6.out.k0, Q6.out.k1⟩ (fun hHeld => ?_)
      clear hK K K6 G6 Q5 J5 J6
      refine wpAnyH_done (by kernel_rfl) ?_ _
      refine NoPanic.normal ?_
      subst hg0
      go_wp2_with fail
      go_meet
      exact ⟨_, _, _, rfl, rfl, rfl, Q6.out, L5.out, L6.out⟩
  case rest =>
    obtain ⟨x, y, W9, rfl, rfl, rfl, q, kx, ky⟩ := hcut
    have Q := Lib.hid q
    have cx := cells_of kx
    have cy := cells_of ky
    have cs := cells_of Q.out.k0
    have ct := cells_of Q.out.k1
    have SS := Lib.hid (HS.out.sl.keep Q.out.b)
    have ST := Lib.hid (HT.out.keep Q.out.b)
    clear q kx ky
    go_wp2_with (first | (go_at_call 15; ((with_reducible refine (same_any _ _ _ _ _ _ _ _ _ SS.out ST.out).mono ?_); rintro e w7 ⟨rfl, rfl⟩)) | fail)
    go_ret
    exact ⟨rfl, Q.out.b⟩
end Go.Proofs.YtkhcfmnebflgkaaDoor
