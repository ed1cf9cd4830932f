/-
  The program's read of layer 8.
-/
import Derived.Test.YtkhcfmnebflgkaaDoorFmRd
import Derived.Test.YtkhcfmnebflgkaaDoorFmPeekP
import Derived.Test.YtkhcfmnebflgkaaDoorJLow
import Derived.Deep.DeepCutAuto
namespace Go.Proofs.YtkhcfmnebflgkaaDoor
open Go Go.RowKit

/-- whether bytes that are read have a checksum -/
def hasC (f k : Int) (zs : List Int) (c : Bool) : Bool := if f = 1 ∨ f = 2 ∨ f = 3 then c else ckF f k zs == 1
def endL (f k : Int) (zs : List Int) (c : Bool) : Nat := hlen f k + if hasC f k zs c = true then 2 else 0
/-- with the checksum in its place -/
def rdC (f : Int) (s : Sm) (x : Int) : Sm := if f = 4 ∨ f = 5 then { s with h := { s.h with check := x } } else { s with udp := x }
/-- the parts but the payload -/
def rdP (ctx f k : Int) (zs : List Int) (c : Bool) : Sm := if hasC f k zs c = true then rdC f (rdS ctx f k zs) (getB zs (hlen f k) 2) else rdS ctx f k zs
/-- .. with a payload -/
def rdW (ctx f k : Int) (zs : List Int) (c : Bool) (a : Option Addr) (cap : Nat) : Sm := { rdP ctx f k zs c with pa := a, pn := zs.length - endL f k zs c, pc := cap, pz := zs.drop (endL f k zs c) }

theorem rdS_fmt (ctx f k : Int) (zs : List Int) (v : FK f k) : (rdS ctx f k zs).fmt = f := by
  rcases v with ⟨f', k'⟩ | ⟨rfl, rfl⟩
  · rcases (show f = 1 ∨ f = 2 ∨ f = 3 ∨ f = 4 ∨ f = 5 by omega) with rfl | rfl | rfl | rfl | rfl <;> rcases k' with rfl | rfl <;> rfl
  · rfl
theorem fld_off (f k : Int) (i : Nat) (hi : i < (fldL f k).length) : ((fldL f k).getD i (0, 0)).2 < 29 := by
  have m : (fldL f k).getD i (0, 0) ∈ fldL f k := by
    rw [List.getD_eq_getElem?_getD, List.getElem?_eq_getElem hi]; exact List.getElem_mem hi
  have e : ∀ p ∈ fldL f k, p.2 < 29 := by unfold fldL; (repeat' split) <;> decide
  exact e _ m
def zeroS : Sm := ⟨0, 0, 0, 0, 0, 0, 0, zeroH, 0, 0, 0, none, 0, 0, []⟩
/-- the worlds of read: the draft in D, the result in R -/
structure RdS (w W : World) (D R : Nat) (pb : Option Addr) (nb : Nat) (zs : List Int) (cs : Array Value) : Prop where
  d : Blk 59 W D cs
  r : Blk 28 W R #[.int .i64 0, .int .i64 0, .int .i64 0, .int .i64 0, .int .i64 0, .int .i64 0, .int .i64 0, .int .i64 0, .int .i64 0, .int .i64 0, .int .i64 0, .int .i64 0, .int .i64 0, .int .i64 0, .int .i64 0, .int .i64 0, .int .i64 0, .int .i64 0, .int .i64 0, .int .i64 0, .int .i64 0, .int .i64 0, .int .i64 0, .int .i64 0, .int .i64 0, .slice none 0 0]
  t : St W
  s : Sl .u8 W pb nb zs
  b : Below w.heap.size w W
  h1 : R < D
  h2 : w.heap.size ≤ R
  h3 : ∀ x, pb = some x → 0 < nb → x.block < w.heap.size
theorem RdS.keep {w W W' : World} {D R : Nat} {pb : Option Addr} {nb : Nat} {zs : List Int} {cs : Array Value} (q : RdS w W D R pb nb zs cs) (hb : Below W.heap.size W W') : RdS w W' D R pb nb zs cs :=
  ⟨q.d.keep hb, q.r.keep hb, q.t.keep hb, q.s.keep hb, q.b.trans (hb.mono q.b.size), q.h1, q.h2, q.h3⟩
theorem RdS.row {w W W' : World} {D R : Nat} {pb : Option Addr} {nb : Nat} {zs : List Int} {cs cs' : Array Value} (q : RdS w W D R pb nb zs cs) (hb : W.grownBy W' (some D)) (hd : Blk 59 W' D cs') : RdS w W' D R pb nb zs cs' := by
  have a := q.h1
  have b := q.h2
  refine ⟨hd, q.r.keepRow hb (fun e => by have := Option.some.inj e; omega), fun i v hv => hb.cell (q.t i v hv) (fun e => ?_), q.s.keepRow hb (fun x e h0 e2 => by have := q.h3 x e h0; have := Option.some.inj e2; omega), q.b.trans (Below.of_row hb (fun k e => by rw [← Option.some.inj e]; omega) q.b.size), q.h1, q.h2, q.h3⟩
  have e2 : (0 : Nat) = D := Option.some.inj e
  omega
theorem RdS.lost {w W W' : World} {D R : Nat} {pb : Option Addr} {nb : Nat} {zs : List Int} {cs : Array Value} (q : RdS w W D R pb nb zs cs) (hb : W.grownBy W' (some D)) : Blk 28 W' R #[.int .i64 0, .int .i64 0, .int .i64 0, .int .i64 0, .int .i64 0, .int .i64 0, .int .i64 0, .int .i64 0, .int .i64 0, .int .i64 0, .int .i64 0, .int .i64 0, .int .i64 0, .int .i64 0, .int .i64 0, .int .i64 0, .int .i64 0, .int .i64 0, .int .i64 0, .int .i64 0, .int .i64 0, .int .i64 0, .int .i64 0, .int .i64 0, .int .i64 0, .slice none 0 0] ∧ Below w.heap.size w W' := by
  have a := q.h1
  have b := q.h2
  exact ⟨q.r.keepRow hb (fun e => by have := Option.some.inj e; omega), q.b.trans (Below.of_row hb (fun k e => by rw [← Option.some.inj e]; omega) q.b.size)⟩
/-- what read leaves -/
def ReadR (ctx f k : Int) (zs : List Int) (c : Bool) (w : World) (e : Ending) (w' : World) : Prop :=
  Below w.heap.size w w' ∧ if endL f k zs c ≤ zs.length then ∃ a cap, (a = none → cap = 0) ∧ Mk .u8 5 w.heap.size w' (.slice a (zs.length - endL f k zs c) cap) (zs.length - endL f k zs c) (zs.drop (endL f k zs c)) ∧ e = .returned (.tuple #[(.agg #[.int .i64 (rdW ctx f k zs c a cap).ctx, .int .i64 (rdW ctx f k zs c a cap).fmt, .int .i64 (rdW ctx f k zs c a cap).num, .int .i64 (rdW ctx f k zs c a cap).time, .int .i64 (rdW ctx f k zs c a cap).mark, .int .i64 (rdW ctx f k zs c a cap).id, .int .i64 (rdW ctx f k zs c a cap).udp, .int .i64 (rdW ctx f k zs c a cap).h.kind, .int .i64 (rdW ctx f k zs c a cap).h.tos, .int .i64 (rdW ctx f k zs c a cap).h.id, .int .i64 (rdW ctx f k zs c a cap).h.fixed, .int .i64 (rdW ctx f k zs c a cap).h.ttl, .int .i64 (rdW ctx f k zs c a cap).h.frm, .int .i64 (rdW ctx f k zs c a cap).h.to, .int .i64 (rdW ctx f k zs c a cap).h.fromPort, .int .i64 (rdW ctx f k zs c a cap).h.toPort, .int .i64 (rdW ctx f k zs c a cap).h.check, .int .i64 (rdW ctx f k zs c a cap).h.marker, .int .i64 (rdW ctx f k zs c a cap).h.type, .int .i64 (rdW ctx f k zs c a cap).h.seq, .int .i64 (rdW ctx f k zs c a cap).h.time, .int .i64 (rdW ctx f k zs c a cap).h.source, .int .i64 (rdW ctx f k zs c a cap).ds, .int .i64 (rdW ctx f k zs c a cap).df, .int .i64 (rdW ctx f k zs c a cap).chk, .slice (rdW ctx f k zs c a cap).pa (rdW ctx f k zs c a cap).pn (rdW ctx f k zs c a cap).pc]), .int .i64 0]) else e = .returned (.tuple #[(.agg #[.int .i64 zeroS.ctx, .int .i64 zeroS.fmt, .int .i64 zeroS.num, .int .i64 zeroS.time, .int .i64 zeroS.mark, .int .i64 zeroS.id, .int .i64 zeroS.udp, .int .i64 zeroS.h.kind, .int .i64 zeroS.h.tos, .int .i64 zeroS.h.id, .int .i64 zeroS.h.fixed, .int .i64 zeroS.h.ttl, .int .i64 zeroS.h.frm, .int .i64 zeroS.h.to, .int .i64 zeroS.h.fromPort, .int .i64 zeroS.h.toPort, .int .i64 zeroS.h.check, .int .i64 zeroS.h.marker, .int .i64 zeroS.h.type, .int .i64 zeroS.h.seq, .int .i64 zeroS.h.time, .int .i64 zeroS.h.source, .int .i64 zeroS.ds, .int .i64 zeroS.df, .int .i64 zeroS.chk, .slice zeroS.pa zeroS.pn zeroS.pc]), .int .i64 5])

/-- read, behind both lists of fields -/
def ReadMid (s : Sm) (pb : Option Addr) (nb : Nat) (zs : List Int) (c : Bool) (w : World) (D : Nat) (s9 s10 : Value) (W : World) : Prop :=
  (s9 = .int .i64 (8 * endL s.fmt s.h.kind zs c : Nat) ∧ s10 = .int .i64 0 ∧ endL s.fmt s.h.kind zs c ≤ nb ∧ ∃ st ck ze, RdS w W D (w.heap.size + 1) pb nb zs (drA (rdP s.ctx s.fmt s.h.kind zs c) st ck ze)) ∨
  (s10 = .int .i64 5 ∧ ¬ endL s.fmt s.h.kind zs c ≤ nb ∧ Blk 28 W (w.heap.size + 1) #[.int .i64 0, .int .i64 0, .int .i64 0, .int .i64 0, .int .i64 0, .int .i64 0, .int .i64 0, .int .i64 0, .int .i64 0, .int .i64 0, .int .i64 0, .int .i64 0, .int .i64 0, .int .i64 0, .int .i64 0, .int .i64 0, .int .i64 0, .int .i64 0, .int .i64 0, .int .i64 0, .int .i64 0, .int .i64 0, .int .i64 0, .int .i64 0, .int .i64 0, .slice none 0 0] ∧ Below w.heap.size w W)
theorem drA_pay (s : Sm) (st ck ze : Int) (a : Option Addr) (n c : Nat) (z : List Int) : (drA s st ck ze).setIfInBounds 25 (.slice a n c) = drA { s with pa := a, pn := n, pc := c, pz := z } st ck ze := by
  unfold drA
  simp only [List.setIfInBounds_toArray, List.set_cons_succ, List.set_cons_zero]
theorem dr_range {W : World} {D : Nat} {s : Sm} {st ck ze : Int} (h : Blk 59 W D (drA s st ck ze)) : W.rangeAt D 0 [.int .i64 s.ctx, .int .i64 s.fmt, .int .i64 s.num, .int .i64 s.time, .int .i64 s.mark, .int .i64 s.id, .int .i64 s.udp, .int .i64 s.h.kind, .int .i64 s.h.tos, .int .i64 s.h.id, .int .i64 s.h.fixed, .int .i64 s.h.ttl, .int .i64 s.h.frm, .int .i64 s.h.to, .int .i64 s.h.fromPort, .int .i64 s.h.toPort, .int .i64 s.h.check, .int .i64 s.h.marker, .int .i64 s.h.type, .int .i64 s.h.seq, .int .i64 s.h.time, .int .i64 s.h.source, .int .i64 s.ds, .int .i64 s.df, .int .i64 s.chk, .slice s.pa s.pn s.pc] := fun j v hv => by
  rw [Nat.zero_add, cells_of h]
  unfold drA
  rw [List.getElem?_toArray]
  exact (List.getElem?_append_left (l₁ := [.int .i64 s.ctx, .int .i64 s.fmt, .int .i64 s.num, .int .i64 s.time, .int .i64 s.mark, .int .i64 s.id, .int .i64 s.udp, .int .i64 s.h.kind, .int .i64 s.h.tos, .int .i64 s.h.id, .int .i64 s.h.fixed, .int .i64 s.h.ttl, .int .i64 s.h.frm, .int .i64 s.h.to, .int .i64 s.h.fromPort, .int .i64 s.h.toPort, .int .i64 s.h.check, .int .i64 s.h.marker, .int .i64 s.h.type, .int .i64 s.h.seq, .int .i64 s.h.time, .int .i64 s.h.source, .int .i64 s.ds, .int .i64 s.df, .int .i64 s.chk, .slice s.pa s.pn s.pc]) (l₂ := [_, _, _]) (List.getElem?_eq_some_iff.1 hv).1).trans hv
def kSm (ctx f k : Int) : Sm := ⟨ctx, f, 0, 0, 0, 0, 0, kindH k, 0, 0, 0, none, 0, 0, []⟩
set_option maxRecDepth 100000 in
set_option maxHeartbeats 6400000 in
theorem read_any (s : Sm) (pb : Option Addr) (nb capb : Nat) (zs : List Int) (c : Bool) (w : World) (v : FK s.fmt s.h.kind) (hsk : s = kSm s.ctx s.fmt s.h.kind) (sl : Sl .u8 w pb nb zs) (hcap : nb ≤ capb) (hnil : pb = none → capb = 0) (hs : St w) :
    Calls Tryd.prog 53 #[.slice pb nb capb, (.agg #[.int .i64 s.ctx, .int .i64 s.fmt, .int .i64 s.num, .int .i64 s.time, .int .i64 s.mark, .int .i64 s.id, .int .i64 s.udp, .int .i64 s.h.kind, .int .i64 s.h.tos, .int .i64 s.h.id, .int .i64 s.h.fixed, .int .i64 s.h.ttl, .int .i64 s.h.frm, .int .i64 s.h.to, .int .i64 s.h.fromPort, .int .i64 s.h.toPort, .int .i64 s.h.check, .int .i64 s.h.marker, .int .i64 s.h.type, .int .i64 s.h.seq, .int .i64 s.h.time, .int .i64 s.h.source, .int .i64 s.ds, .int .i64 s.df, .int .i64 s.chk, .slice s.pa s.pn s.pc]), .bool c] w (ReadR s.ctx s.fmt s.h.kind zs c w) := by
  have KA := Lib.hid ((show Blk 28 _ _ #[.int .i64 s.ctx, .int .i64 s.fmt, .int .i64 s.num, .int .i64 s.time, .int .i64 s.mark, .int .i64 s.id, .int .i64 s.udp, .int .i64 s.h.kind, .int .i64 s.h.tos, .int .i64 s.h.id, .int .i64 s.h.fixed, .int .i64 s.h.ttl, .int .i64 s.h.frm, .int .i64 s.h.to, .int .i64 s.h.fromPort, .int .i64 s.h.toPort, .int .i64 s.h.check, .int .i64 s.h.marker, .int .i64 s.h.type, .int .i64 s.h.seq, .int .i64 s.h.time, .int .i64 s.h.source, .int .i64 s.ds, .int .i64 s.df, .int .i64 s.chk, .slice s.pa s.pn s.pc] from heap_alloc_new w (.cells #[.int .i64 s.ctx, .int .i64 s.fmt, .int .i64 s.num, .int .i64 s.time, .int .i64 s.mark, .int .i64 s.id, .int .i64 s.udp, .int .i64 s.h.kind, .int .i64 s.h.tos, .int .i64 s.h.id, .int .i64 s.h.fixed, .int .i64 s.h.ttl, .int .i64 s.h.frm, .int .i64 s.h.to, .int .i64 s.h.fromPort, .int .i64 s.h.toPort, .int .i64 s.h.check, .int .i64 s.h.marker, .int .i64 s.h.type, .int .i64 s.h.seq, .int .i64 s.h.time, .int .i64 s.h.source, .int .i64 s.ds, .int .i64 s.df, .int .i64 s.chk, .slice s.pa s.pn s.pc] 28)).keep ((Below.refl _ _).alloc (Nat.le_refl _) (.cells #[.int .i64 0, .int .i64 0, .int .i64 0, .int .i64 0, .int .i64 0, .int .i64 0, .int .i64 0, .int .i64 0, .int .i64 0, .int .i64 0, .int .i64 0, .int .i64 0, .int .i64 0, .int .i64 0, .int .i64 0, .int .i64 0, .int .i64 0, .int .i64 0, .int .i64 0, .int .i64 0, .int .i64 0, .int .i64 0, .int .i64 0, .int .i64 0, .int .i64 0, .slice none 0 0] 28)))
  have B0 := Lib.hid (((Below.refl w.heap.size w).alloc (Nat.le_refl _) (.cells #[.int .i64 s.ctx, .int .i64 s.fmt, .int .i64 s.num, .int .i64 s.time, .int .i64 s.mark, .int .i64 s.id, .int .i64 s.udp, .int .i64 s.h.kind, .int .i64 s.h.tos, .int .i64 s.h.id, .int .i64 s.h.fixed, .int .i64 s.h.ttl, .int .i64 s.h.frm, .int .i64 s.h.to, .int .i64 s.h.fromPort, .int .i64 s.h.toPort, .int .i64 s.h.check, .int .i64 s.h.marker, .int .i64 s.h.type, .int .i64 s.h.seq, .int .i64 s.h.time, .int .i64 s.h.source, .int .i64 s.ds, .int .i64 s.df, .int .i64 s.chk, .slice s.pa s.pn s.pc] 28)).alloc (by simp) (.cells #[.int .i64 0, .int .i64 0, .int .i64 0, .int .i64 0, .int .i64 0, .int .i64 0, .int .i64 0, .int .i64 0, .int .i64 0, .int .i64 0, .int .i64 0, .int .i64 0, .int .i64 0, .int .i64 0, .int .i64 0, .int .i64 0, .int .i64 0, .int .i64 0, .int .i64 0, .int .i64 0, .int .i64 0, .int .i64 0, .int .i64 0, .int .i64 0, .int .i64 0, .slice none 0 0] 28))
  have HSK := Lib.hid hsk
  have HSL := Lib.hid sl
  have HS := Lib.hid hs
  have HV := Lib.hid v
  have HB : Hid (∀ x, pb = some x → 0 < nb → x.block < w.heap.size) := Lib.hid (fun x e h0 => by obtain ⟨b, off, e2⟩ := sl.head h0; have := (show Sl .u8 w (some ⟨b, off, none⟩) nb zs from e2 ▸ sl).block h0; rw [e] at e2; rw [Option.some.inj e2]; exact this)
  have HNI := Lib.hid hnil
  have hr := sl.reach
  have hzl := sl.len
  clear hsk sl hs v hnil
  go_enter Tryd.func53, Tryd.ntmps53
  go_upto_region 1 with fail
  have KR := Lib.hid (show Blk 28 _ _ #[.int .i64 0, .int .i64 0, .int .i64 0, .int .i64 0, .int .i64 0, .int .i64 0, .int .i64 0, .int .i64 0, .int .i64 0, .int .i64 0, .int .i64 0, .int .i64 0, .int .i64 0, .int .i64 0, .int .i64 0, .int .i64 0, .int .i64 0, .int .i64 0, .int .i64 0, .int .i64 0, .int .i64 0, .int .i64 0, .int .i64 0, .int .i64 0, .int .i64 0, .slice none 0 0] from heap_alloc_new (w.alloc (.cells #[.int .i64 s.ctx, .int .i64 s.fmt, .int .i64 s.num, .int .i64 s.time, .int .i64 s.mark, .int .i64 s.id, .int .i64 s.udp, .int .i64 s.h.kind, .int .i64 s.h.tos, .int .i64 s.h.id, .int .i64 s.h.fixed, .int .i64 s.h.ttl, .int .i64 s.h.frm, .int .i64 s.h.to, .int .i64 s.h.fromPort, .int .i64 s.h.toPort, .int .i64 s.h.check, .int .i64 s.h.marker, .int .i64 s.h.type, .int .i64 s.h.seq, .int .i64 s.h.time, .int .i64 s.h.source, .int .i64 s.ds, .int .i64 s.df, .int .i64 s.chk, .slice s.pa s.pn s.pc] 28)) (.cells #[.int .i64 0, .int .i64 0, .int .i64 0, .int .i64 0, .int .i64 0, .int .i64 0, .int .i64 0, .int .i64 0, .int .i64 0, .int .i64 0, .int .i64 0, .int .i64 0, .int .i64 0, .int .i64 0, .int .i64 0, .int .i64 0, .int .i64 0, .int .i64 0, .int .i64 0, .int .i64 0, .int .i64 0, .int .i64 0, .int .i64 0, .int .i64 0, .int .i64 0, .slice none 0 0] 28))
  have hw1 : (w.alloc (.cells #[.int .i64 s.ctx, .int .i64 s.fmt, .int .i64 s.num, .int .i64 s.time, .int .i64 s.mark, .int .i64 s.id, .int .i64 s.udp, .int .i64 s.h.kind, .int .i64 s.h.tos, .int .i64 s.h.id, .int .i64 s.h.fixed, .int .i64 s.h.ttl, .int .i64 s.h.frm, .int .i64 s.h.to, .int .i64 s.h.fromPort, .int .i64 s.h.toPort, .int .i64 s.h.check, .int .i64 s.h.marker, .int .i64 s.h.type, .int .i64 s.h.seq, .int .i64 s.h.time, .int .i64 s.h.source, .int .i64 s.ds, .int .i64 s.df, .int .i64 s.chk, .slice s.pa s.pn s.pc] 28)).heap.size = w.heap.size + 1 := by simp
  rw [hw1] at KR
  clear hw1
  generalize (w.alloc (.cells #[.int .i64 s.ctx, .int .i64 s.fmt, .int .i64 s.num, .int .i64 s.time, .int .i64 s.mark, .int .i64 s.id, .int .i64 s.udp, .int .i64 s.h.kind, .int .i64 s.h.tos, .int .i64 s.h.id, .int .i64 s.h.fixed, .int .i64 s.h.ttl, .int .i64 s.h.frm, .int .i64 s.h.to, .int .i64 s.h.fromPort, .int .i64 s.h.toPort, .int .i64 s.h.check, .int .i64 s.h.marker, .int .i64 s.h.type, .int .i64 s.h.seq, .int .i64 s.h.time, .int .i64 s.h.source, .int .i64 s.ds, .int .i64 s.df, .int .i64 s.chk, .slice s.pa s.pn s.pc] 28)).alloc (.cells #[.int .i64 0, .int .i64 0, .int .i64 0, .int .i64 0, .int .i64 0, .int .i64 0, .int .i64 0, .int .i64 0, .int .i64 0, .int .i64 0, .int .i64 0, .int .i64 0, .int .i64 0, .int .i64 0, .int .i64 0, .int .i64 0, .int .i64 0, .int .i64 0, .int .i64 0, .int .i64 0, .int .i64 0, .int .i64 0, .int .i64 0, .int .i64 0, .int .i64 0, .slice none 0 0] 28) = W1 at KA B0 KR ⊢
  refine wp_region_lit ?_
  refine wpList_load_sm KA.out rfl _ rfl rfl ?_
  refine wpList_run (.agg #[.int .i64 s.ctx, .int .i64 s.fmt, .int .i64 s.num, .int .i64 s.time, .int .i64 s.mark, .int .i64 s.id, .int .i64 s.udp, .int .i64 s.h.kind, .int .i64 s.h.tos, .int .i64 s.h.id, .int .i64 s.h.fixed, .int .i64 s.h.ttl, .int .i64 s.h.frm, .int .i64 s.h.to, .int .i64 s.h.fromPort, .int .i64 s.h.toPort, .int .i64 s.h.check, .int .i64 s.h.marker, .int .i64 s.h.type, .int .i64 s.h.seq, .int .i64 s.h.time, .int .i64 s.h.source, .int .i64 s.ds, .int .i64 s.df, .int .i64 s.chk, .slice s.pa s.pn s.pc, .int .i64 0, .int .i64 0, .int .i64 0]) W1 rfl (by kernel_rfl) ?_
  refine wpList_run (.pointer (some ⟨W1.heap.size, 0, none⟩)) (W1.alloc (.cells #[.int .i64 0, .int .i64 0, .int .i64 0, .int .i64 0, .int .i64 0, .int .i64 0, .int .i64 0, .int .i64 0, .int .i64 0, .int .i64 0, .int .i64 0, .int .i64 0, .int .i64 0, .int .i64 0, .int .i64 0, .int .i64 0, .int .i64 0, .int .i64 0, .int .i64 0, .int .i64 0, .int .i64 0, .int .i64 0, .int .i64 0, .int .i64 0, .int .i64 0, .slice none 0 0, .int .i64 0, .int .i64 0, .int .i64 0] 59)) rfl (by kernel_rfl) ?_
  refine wpList_store_blk (n := 29) rfl rfl _ _ rfl rfl rfl (heap_alloc_new W1 _) rfl rfl info_draft (by simp [Value.oneCell']) ?_
  intro W2 KD GD
  simp only [Act.put, List.setIfInBounds_toArray, List.set_cons_zero, List.set_cons_succ]
  have hlt2 : w.heap.size < W1.heap.size := KA.out.lt
  have hlt3 : w.heap.size + 1 < W1.heap.size := KR.out.lt
  have B2 : Below W1.heap.size W1 W2 := ((Below.refl W1.heap.size W1).alloc (Nat.le_refl _) _).trans (Below.of_row GD (fun g e => by rw [← Option.some.inj e]; exact Nat.le_refl _) (by simp))
  have Q2 : RdS w W2 W1.heap.size (w.heap.size + 1) pb nb zs (drA s 0 0 0) := ⟨KD, KR.out.keep B2, HS.out.keep (B0.out.trans (B2.mono B0.out.size)), HSL.out.keep (B0.out.trans (B2.mono B0.out.size)), B0.out.trans (B2.mono B0.out.size), by omega, by omega, HB.out⟩
  have Q2 := Lib.hid Q2
  clear KD GD B2 KA
  generalize W1.heap.size = D at Q2 hlt2 hlt3 ⊢
  have CF := Lib.hid (fields_any2 D s.fmt s.h.kind W2 HV.out (cells_of Q2.out.d 1) (cells_of Q2.out.d 7) Q2.out.t)
  go_wp2_with fail
  refine CF.out.mono ?_
  rintro e W3 ⟨gf, cf, rfl, hfr, hb3⟩
  have Q3 := Lib.hid (Q2.out.keep hb3)
  have hgD : gf ≠ D := by have := (hfr.ge gf rfl).1; have := Q2.out.d.lt; omega
  have hbz : Bytes zs := HSL.out.u8
  obtain ⟨⟨st, ze, hrd⟩, hsum, hwt⟩ := rd_all s.ctx s.fmt s.h.kind zs hbz HV.out
  have hn20 : (fldL s.fmt s.h.kind).length ≤ 20 := by unfold fldL; (repeat' split) <;> decide
  have RF := Lib.hid (readFields_any D gf _ pb nb capb 0 (fldL s.fmt s.h.kind).length cf zs (fldL s.fmt s.h.kind) (fWs s.fmt s.h.kind) (drA s 0 0 0) W3 Q3.out.s (fun x e h0 => by have := Q3.out.h3 x e h0; have := Q3.out.h1; have := Q3.out.h2; omega) hfr hgD Q3.out.d (by omega) (by omega) (by omega) rfl hwt (fun i hi => fld_off _ _ i hi))
  have HSUM := Lib.hid hsum
  have hdr : drA s 0 0 0 = drO s.ctx s.fmt s.h.kind := by
    have e := HSK.out
    generalize s.ctx = c1 at e ⊢
    generalize s.fmt = c2 at e ⊢
    generalize s.h.kind = c3 at e ⊢
    subst e
    rfl
  rw [← hdr] at hrd
  have HRD := Lib.hid hrd
  clear hsum hrd hdr hwt hfr hb3 hn20 Q2 CF
  go_wp2_with fail
  refine RF.out.mono ?_
  rintro e W4 ⟨hg4, hif⟩
  rw [HSUM.out, Nat.zero_add] at hif
  by_cases hok : 8 * hlen s.fmt s.h.kind ≤ 8 * nb
  · rw [if_pos hok] at hif
    obtain ⟨rfl, hd4⟩ := hif
    rw [HRD.out] at hd4
    have Q4 := Lib.hid (Q3.out.row hg4 hd4)
    clear hd4 hg4 RF Q3
    have hfm := rdS_fmt s.ctx s.fmt s.h.kind zs HV.out
    have c1 := cells_of Q4.out.d 1
    have c27 := cells_of Q4.out.d 27
    have HC := Lib.hid (fun W (h1 : W.cell? ⟨D, 1, none⟩ = some (.int .i64 s.fmt)) h2 => hasChecksum_any D s.fmt (ckF s.fmt s.h.kind zs) c W h1 h2)
    have HCD : Hid ((if s.fmt = 1 ∨ s.fmt = 2 ∨ s.fmt = 3 then c else ckF s.fmt s.h.kind zs == 1) = hasC s.fmt s.h.kind zs c) := rfl
    have HC1 : Hid (W4.cell? ⟨D, 1, none⟩ = some (.int .i64 s.fmt)) := Lib.hid (by rw [c1]; show some (Value.int .i64 (rdS s.ctx s.fmt s.h.kind zs).fmt) = _; rw [hfm])
    have HC27 : Hid (W4.cell? ⟨D, 27, none⟩ = some (.int .i64 (ckF s.fmt s.h.kind zs))) := Lib.hid c27
    rw [HCD.out] at HC
    clear c1 c27 hfm
    have hlen33 : hlen s.fmt s.h.kind ≤ 33 := by unfold hlen; (repeat' split) <;> omega
    have hR : w.heap.size ≤ w.heap.size + 1 := by omega
    generalize hcc : hasC s.fmt s.h.kind zs c = hcb at HC
    have HCC := Lib.hid hcc
    clear hcc
    go_upto_if 24 with (first | (go_at_call 67; refine (HC.out _ HC1.out HC27.out).mono ?_; rintro e w' ⟨rfl, rfl⟩) | fail)
    go_cut [9, 10] (fun s9 s10 wc => ∃ wx, wx = wc ∧ ReadMid s pb nb zs c w D s9 s10 wx)
    case first =>
      cases hcb
      · have HE : Hid (endL s.fmt s.h.kind zs c = hlen s.fmt s.h.kind) := Lib.hid (by unfold endL; rw [HCC.out]; rfl)
        have HP : Hid (rdP s.ctx s.fmt s.h.kind zs c = rdS s.ctx s.fmt s.h.kind zs) := Lib.hid (by unfold rdP; rw [HCC.out]; rfl)
        go_wp2_with fail
        go_meet
        exact ⟨_, rfl, .inl ⟨int_eq (by rw [HE.out]; omega), rfl, by rw [HE.out]; omega, _, _, _, by rw [HP.out]; exact Q4.out⟩⟩
      · have HE : Hid (endL s.fmt s.h.kind zs c = hlen s.fmt s.h.kind + 2) := Lib.hid (by unfold endL; rw [HCC.out]; rfl)
        have HP : Hid (rdP s.ctx s.fmt s.h.kind zs c = rdC s.fmt (rdS s.ctx s.fmt s.h.kind zs) (getB zs (hlen s.fmt s.h.kind) 2)) := Lib.hid (by unfold rdP; rw [HCC.out]; rfl)
        have CC := Lib.hid (fun W h => checksum_any D s.fmt W h)
        have hlit := (Below.refl W4.heap.size W4).alloc (Nat.le_refl _) (.cells #[.int .i64 16, .pointer (some ⟨D, ckAt s.fmt, none⟩)] 65)
        have QL := Q4.out.keep hlit
        have hDl := Q4.out.d.lt
        have RF2 := Lib.hid (readFields_any D W4.heap.size W4.heap.size pb nb capb (8 * hlen s.fmt s.h.kind) 1 1 zs [(16, ckAt s.fmt)] [16] _ _ QL.s (fun x e h0 => by have := QL.h3 x e h0; have := QL.h1; have := QL.h2; omega) (FR.lit D W4.heap.size W4 [(16, ckAt s.fmt)] 1 (Nat.le_refl _) rfl (by omega)) (by omega) QL.d (by omega) (by omega) (by omega) rfl rfl (fun i hi => by
          obtain rfl : i = 0 := by omega
          show ckAt s.fmt < 29
          unfold ckAt; split <;> omega))
        have QL := Lib.hid QL
        clear hlit
        have HB2 : Hid (((numAt zs (8 * hlen s.fmt s.h.kind) 16 : Nat) : Int) = getB zs (hlen s.fmt s.h.kind) 2) := Lib.hid (numAt_getB2 zs HSL.out.u8 _)
        go_wp2_with fail
        refine (CC.out _ HC1.out).mono ?_
        rintro e w' ⟨rfl, rfl⟩
        go_wp2_with fail
        refine RF2.out.mono ?_
        rintro e W5 ⟨hg5, hif⟩
        rw [show sumTo [16] 1 = 16 from rfl] at hif
        by_cases hok2 : 8 * hlen s.fmt s.h.kind + 16 ≤ 8 * nb
        · rw [if_pos hok2] at hif
          obtain ⟨rfl, hd5⟩ := hif
          have hd6 : Blk 59 W5 D (drA (rdP s.ctx s.fmt s.h.kind zs c) st (ckF s.fmt s.h.kind zs) ze) := by
            rw [HP.out, ← HB2.out]
            have e := hd5
            simp only [rdTo, sumTo, Nat.add_zero] at e
            rw [show wid [16] 0 = 16 from rfl] at e
            have e3 : ([(16, ckAt s.fmt)] : List (Int × Nat)).getD 0 (0, 0) = (16, ckAt s.fmt) := rfl
            rw [e3] at e
            unfold rdC ckAt at *
            split at e <;> rename_i h9
            · rw [if_pos h9]; exact e
            · rw [if_neg h9]; exact e
          have Q6 := Lib.hid (QL.out.row hg5 hd6)
          clear hd5 hd6 hg5
          go_wp2_with fail
          go_meet
          exact ⟨_, rfl, .inl ⟨int_eq (by rw [HE.out]; omega), rfl, by rw [HE.out]; omega, _, _, _, Q6.out⟩⟩
        · rw [if_neg hok2] at hif
          subst hif
          obtain ⟨kr, b5⟩ := QL.out.lost hg5
          have KR5 := Lib.hid kr
          have B5 := Lib.hid b5
          clear kr b5 hg5
          go_wp2_with fail
          go_meet
          exact ⟨_, rfl, .inr ⟨rfl, by rw [HE.out]; omega, KR5.out, B5.out⟩⟩
    case rest =>
      obtain ⟨W6, rfl, h6⟩ := hcut
      clear Q4 HC HC1 HC27 HCD HSUM HRD
      rcases h6 with ⟨rfl, rfl, hen, st6, ck6, ze6, q6⟩ | ⟨rfl, hen, kr6, b6⟩
      · have Q6 := Lib.hid q6
        have hE1 : 1 ≤ endL s.fmt s.h.kind zs c := by
          have : 1 ≤ hlen s.fmt s.h.kind := by unfold hlen; (repeat' split) <;> omega
          unfold endL; omega
        have HW : Hid (∀ a cap, rdW s.ctx s.fmt s.h.kind zs c a cap = { rdP s.ctx s.fmt s.h.kind zs c with pa := a, pn := zs.length - endL s.fmt s.h.kind zs c, pc := cap, pz := zs.drop (endL s.fmt s.h.kind zs c) }) := Lib.hid (fun _ _ => rfl)
        have hlp := HSL.out.len
        generalize hee : endL s.fmt s.h.kind zs c = E at hen hE1 HW ⊢
        have HEE := Lib.hid hee
        clear q6 hee
        obtain ⟨b, off, rfl⟩ := Q6.out.s.head (by omega)
        obtain ⟨PA, hif⟩ : ∃ PA, (if capb = E then (some ⟨b, off, none⟩ : Option Addr) else some ⟨b, off + E, none⟩) = PA := ⟨_, rfl⟩
        have SP : Hid (Sl .u8 W6 PA (nb - E) (zs.drop E)) := by
          refine Lib.hid ?_
          rw [← hif]
          split
          · have e0 : zs.drop E = [] := List.eq_nil_of_length_eq_zero (by rw [List.length_drop]; omega)
            have n0 : nb - E = 0 := by omega
            rw [e0, n0]
            exact ⟨rfl, by omega, by simp, fun i hi => by omega⟩
          · have q := Q6.out.s.sub E (nb - E) (by omega)
            rwa [List.take_of_length_le (by rw [List.length_drop]; omega)] at q
        have HPN : Hid (PA = none → capb - E = 0) := Lib.hid (fun h => by rw [← hif] at h; split at h <;> cases h)
        have hq8 : (8 * (E : Int)) / 8 = (E : Int) := by omega
        have hq9 : ((8 * E : Nat) : Int) / 8 = (E : Int) := by omega
        have hle1 : (E : Int) ≤ (nb : Int) := by omega
        have hle2 : (E : Int) ≤ (capb : Int) := by omega
        have CL := Lib.hid (fun h => clone_any W6.heap.size PA (nb - E) (capb - E) (zs.drop E) W6 SP.out HPN.out h)
        go_wp2_with fail
        refine (CL.out (Nat.le_refl _)).mono ?_
        rintro e W7 ⟨a7, c7, rfl, hn7, hm7, hb7⟩
        have Q7 := Lib.hid (Q6.out.keep hb7)
        have M7 := Lib.hid hm7
        have N7 := Lib.hid hn7
        have hm7b := hm7.shape
        clear hn7 hm7 hb7 CL
        have c25 := cells_of Q7.out.d 25
        have z25 := frozen_of Q7.out.d 25
        have k8 : Blk 59 (W7.setCell ⟨D, 25, none⟩ (.slice a7 (nb - E) c7)) D (drA (rdW s.ctx s.fmt s.h.kind zs c a7 c7) st6 ck6 ze6) := by
          have k := blk_set Q7.out.d 25 (.slice a7 (nb - E) c7)
          rw [drA_pay _ _ _ _ _ _ _ (zs.drop E)] at k
          rw [HW.out, hlp]
          exact k
        have g8 := setCell_but W7 D 25 (.slice a7 (nb - E) c7)
        have Q8 := Lib.hid (Q7.out.row g8 k8)
        have hDW : D < W6.heap.size := Q6.out.d.lt
        have M8 : Hid (Mk .u8 5 w.heap.size (W7.setCell ⟨D, 25, none⟩ (.slice a7 (nb - E) c7)) (.slice a7 (nb - E) c7) (nb - E) (zs.drop E)) := Lib.hid ((M7.out.keepRow g8 (by
          cases a7 with
          | none => exact .inl rfl
          | some x => exact .inr (fun e => by have := (M7.out.own_ge x.block rfl).1; have := Option.some.inj e; omega))).mono Q6.out.b.size)
        clear k8 g8 hm7b
        go_upto_region 8 with fail
        clear c25 z25
        generalize W7.setCell ⟨D, 25, none⟩ (.slice a7 (nb - E) c7) = W8 at Q8 M8 ⊢
        generalize hRW : rdW s.ctx s.fmt s.h.kind zs c a7 c7 = S8 at Q8
        have HRW := Lib.hid hRW
        clear hRW
        refine wp_region_lit ?_
        refine wpList_run (.pointer (some ⟨D, 0, none⟩)) W8 rfl (by kernel_rfl) ?_
        refine wpList_load_mid rfl 28 _ rfl D 0 rfl [.int .i64 S8.ctx, .int .i64 S8.fmt, .int .i64 S8.num, .int .i64 S8.time, .int .i64 S8.mark, .int .i64 S8.id, .int .i64 S8.udp, .int .i64 S8.h.kind, .int .i64 S8.h.tos, .int .i64 S8.h.id, .int .i64 S8.h.fixed, .int .i64 S8.h.ttl, .int .i64 S8.h.frm, .int .i64 S8.h.to, .int .i64 S8.h.fromPort, .int .i64 S8.h.toPort, .int .i64 S8.h.check, .int .i64 S8.h.marker, .int .i64 S8.h.type, .int .i64 S8.h.seq, .int .i64 S8.h.time, .int .i64 S8.h.source, .int .i64 S8.ds, .int .i64 S8.df, .int .i64 S8.chk, .slice S8.pa S8.pn S8.pc] _ (dr_range Q8.out.d) Tryd.underlying28 rfl info_sm ?_
        refine wpList_store_blk (n := 26) rfl rfl _ _ rfl rfl rfl Q8.out.r rfl rfl info_sm (by simp [Value.oneCell']) ?_
        intro W9 K9 G9
        simp only [Act.put, List.setIfInBounds_toArray, List.set_cons_zero, List.set_cons_succ]
        have B9 := Lib.hid (Q8.out.b.trans (Below.of_row G9 (fun g e => by rw [← Option.some.inj e]; exact hR) Q8.out.b.size))
        have M9 := Lib.hid (M8.out.keepRow G9 (by
          cases a7 with
          | none => exact .inl rfl
          | some x => exact .inr (fun e => by have h1 := (M7.out.own_ge x.block rfl).1; have h2 : x.block = w.heap.size + 1 := Option.some.inj e; omega)))
        have KK9 := Lib.hid K9
        clear K9 G9
        go_wp2_with fail
        refine bodyPost_ret (results_sm Tryd.results53 _ _ _ _ rfl KK9.out rfl) rfl ?_
        refine ⟨B9.out, ?_⟩
        rw [HEE.out, hlp, if_pos hen]
        exact ⟨a7, c7, N7.out, M9.out, by rw [HRW.out]; rfl⟩
      · have HR := Lib.hid hen
        have hen2 : zs.length = nb := hzl
        have KR6 := Lib.hid kr6
        have B6 := Lib.hid b6
        clear kr6 b6 hen
        go_upto_region 6 with fail
        refine wp_region_lit ?_
        refine wpList_run (.agg #[.int .i64 zeroS.ctx, .int .i64 zeroS.fmt, .int .i64 zeroS.num, .int .i64 zeroS.time, .int .i64 zeroS.mark, .int .i64 zeroS.id, .int .i64 zeroS.udp, .int .i64 zeroS.h.kind, .int .i64 zeroS.h.tos, .int .i64 zeroS.h.id, .int .i64 zeroS.h.fixed, .int .i64 zeroS.h.ttl, .int .i64 zeroS.h.frm, .int .i64 zeroS.h.to, .int .i64 zeroS.h.fromPort, .int .i64 zeroS.h.toPort, .int .i64 zeroS.h.check, .int .i64 zeroS.h.marker, .int .i64 zeroS.h.type, .int .i64 zeroS.h.seq, .int .i64 zeroS.h.time, .int .i64 zeroS.h.source, .int .i64 zeroS.ds, .int .i64 zeroS.df, .int .i64 zeroS.chk, .slice zeroS.pa zeroS.pn zeroS.pc]) W6 rfl (by kernel_rfl) ?_
        refine wpList_run (.int .i64 5) W6 rfl (by kernel_rfl) ?_
        refine wpList_store_blk (n := 26) rfl rfl _ _ rfl rfl rfl KR6.out rfl rfl info_sm (by simp [Value.oneCell']) ?_
        intro W7 K7 G7
        simp only [Act.put, List.setIfInBounds_toArray, List.set_cons_zero, List.set_cons_succ]
        have B7 := Lib.hid (B6.out.trans (Below.of_row G7 (fun g e => by rw [← Option.some.inj e]; exact hR) B6.out.size))
        have KK7 := Lib.hid K7
        clear K7 G7
        go_wp2_with fail
        refine bodyPost_ret (results_sm Tryd.results53 _ _ _ _ rfl KK7.out rfl) rfl ?_
        exact ⟨B7.out, by rw [if_neg (by rw [hen2]; exact HR.out)]; rfl⟩
  · rw [if_neg hok] at hif
    subst hif
    have HR : Hid (¬ endL s.fmt s.h.kind zs c ≤ zs.length) := Lib.hid (by unfold endL; omega)
    obtain ⟨kr, b4⟩ := Q3.out.lost hg4
    have KR4 := Lib.hid kr
    have B4 := Lib.hid b4
    have hR : w.heap.size ≤ w.heap.size + 1 := by omega
    clear hg4 RF Q3 kr b4
    go_upto_region 6 with fail
    refine wp_region_lit ?_
    refine wpList_run (.agg #[.int .i64 zeroS.ctx, .int .i64 zeroS.fmt, .int .i64 zeroS.num, .int .i64 zeroS.time, .int .i64 zeroS.mark, .int .i64 zeroS.id, .int .i64 zeroS.udp, .int .i64 zeroS.h.kind, .int .i64 zeroS.h.tos, .int .i64 zeroS.h.id, .int .i64 zeroS.h.fixed, .int .i64 zeroS.h.ttl, .int .i64 zeroS.h.frm, .int .i64 zeroS.h.to, .int .i64 zeroS.h.fromPort, .int .i64 zeroS.h.toPort, .int .i64 zeroS.h.check, .int .i64 zeroS.h.marker, .int .i64 zeroS.h.type, .int .i64 zeroS.h.seq, .int .i64 zeroS.h.time, .int .i64 zeroS.h.source, .int .i64 zeroS.ds, .int .i64 zeroS.df, .int .i64 zeroS.chk, .slice zeroS.pa zeroS.pn zeroS.pc]) W4 rfl (by kernel_rfl) ?_
    refine wpList_run (.int .i64 5) W4 rfl (by kernel_rfl) ?_
    refine wpList_store_blk (n := 26) rfl rfl _ _ rfl rfl rfl KR4.out rfl rfl info_sm (by simp [Value.oneCell']) ?_
    intro W5 K5 G5
    simp only [Act.put, List.setIfInBounds_toArray, List.set_cons_zero, List.set_cons_succ]
    have B5 := Lib.hid (B4.out.trans (Below.of_row G5 (fun g e => by rw [← Option.some.inj e]; exact hR) B4.out.size))
    have KK5 := Lib.hid K5
    clear K5 G5
    go_wp2_with fail
    refine bodyPost_ret (results_sm Tryd.results53 _ _ _ _ rfl KK5.out rfl) rfl ?_
    exact ⟨B5.out, by rw [if_neg HR.out]; rfl⟩
end Go.Proofs.YtkhcfmnebflgkaaDoor
