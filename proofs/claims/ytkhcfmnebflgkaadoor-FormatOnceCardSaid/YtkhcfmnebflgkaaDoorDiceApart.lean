/-
  Bytes lie apart from dice and from packets in parts: their cells are of another kind.
-/
import Derived.Test.YtkhcfmnebflgkaaDoorDiceSmall0
namespace Go.Proofs.YtkhcfmnebflgkaaDoor
open Go Go.RowKit

theorem apart_blk {T : TypeId} {W : World} {P n : Nat} {cs : Array Value} {a : Option Addr} {zs : List Int} (hk : Blk T W P cs) (hc : ∀ z, Value.int .u8 z ∉ cs) (hs : Sl .u8 W a n zs) : ∀ x, a = some x → 0 < n → x.block ≠ P := by
  intro x hx hn e
  obtain ⟨b, off, he, h⟩ := hs.cell 0 hn
  rw [hx] at he
  cases he
  cases e
  rw [cells_of hk] at h
  exact hc _ (Array.mem_of_getElem? h)
theorem dice_apart {W : World} {g n : Nat} {a : Option Addr} {zs : List Int} (hd : DiceIn W g) (hs : Sl .u8 W a n zs) : ∀ x, a = some x → 0 < n → x.block ≠ g := by
  obtain ⟨a', n', cap', t, c, h, _⟩ := hd
  exact apart_blk (show Blk _ W g _ from h.blk) (fun z m => by simp at m) hs
theorem small_apart {W : World} {P n : Nat} {s : Sm} {a : Option Addr} {zs : List Int} (hk : Blk 28 W P #[.int .i64 s.ctx, .int .i64 s.fmt, .int .i64 s.num, .int .i64 s.time, .int .i64 s.mark, .int .i64 s.id, .int .i64 s.udp, .int .i64 s.h.kind, .int .i64 s.h.tos, .int .i64 s.h.id, .int .i64 s.h.fixed, .int .i64 s.h.ttl, .int .i64 s.h.frm, .int .i64 s.h.to, .int .i64 s.h.fromPort, .int .i64 s.h.toPort, .int .i64 s.h.check, .int .i64 s.h.marker, .int .i64 s.h.type, .int .i64 s.h.seq, .int .i64 s.h.time, .int .i64 s.h.source, .int .i64 s.ds, .int .i64 s.df, .int .i64 s.chk, .slice s.pa s.pn s.pc]) (hs : Sl .u8 W a n zs) : ∀ x, a = some x → 0 < n → x.block ≠ P :=
  apart_blk hk (fun z m => by simp at m) hs
theorem sl_roll {W W' : World} {g n : Nat} {a : Option Addr} {zs : List Int} (hs : Sl .u8 W a n zs) (hd : DiceIn W g) (hg : W.grownBy W' (some g)) : Sl .u8 W' a n zs :=
  hs.keepRow hg (fun x hx hn e => dice_apart hd hs x hx hn (Option.some.inj e))
theorem in_roll {W W' : World} {g : Nat} {s : Sm} (h : s.In W) (hd : DiceIn W g) (hg : W.grownBy W' (some g)) : s.In W' := ⟨sl_roll h.sl hd hg, h.nil, h.cap⟩
theorem in_put {W W' : World} {P : Nat} {s s0 : Sm} (h : s.In W) (hk : Blk 28 W P #[.int .i64 s0.ctx, .int .i64 s0.fmt, .int .i64 s0.num, .int .i64 s0.time, .int .i64 s0.mark, .int .i64 s0.id, .int .i64 s0.udp, .int .i64 s0.h.kind, .int .i64 s0.h.tos, .int .i64 s0.h.id, .int .i64 s0.h.fixed, .int .i64 s0.h.ttl, .int .i64 s0.h.frm, .int .i64 s0.h.to, .int .i64 s0.h.fromPort, .int .i64 s0.h.toPort, .int .i64 s0.h.check, .int .i64 s0.h.marker, .int .i64 s0.h.type, .int .i64 s0.h.seq, .int .i64 s0.h.time, .int .i64 s0.h.source, .int .i64 s0.ds, .int .i64 s0.df, .int .i64 s0.chk, .slice s0.pa s0.pn s0.pc]) (hg : W.grownBy W' (some P)) : s.In W' :=
  ⟨h.sl.keepRow hg (fun x hx hn e => small_apart hk h.sl x hx hn (Option.some.inj e)), h.nil, h.cap⟩
end Go.Proofs.YtkhcfmnebflgkaaDoor
