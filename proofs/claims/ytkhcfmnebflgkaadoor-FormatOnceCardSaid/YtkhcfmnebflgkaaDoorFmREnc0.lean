/-
  The document's own Encode of layer 8: what the steps of a walk leave.
-/
import Derived.Test.YtkhcfmnebflgkaaDoorFmEnc
import Derived.Test.YtkhcfmnebflgkaaDoorFmValid3
import Derived.Test.YtkhcfmnebflgkaaDoorJBase
import Derived.Test.YtkhcfmnebflgkaaDoorFmVal2
namespace Go.Proofs.YtkhcfmnebflgkaaDoor
open Go Go.RowKit

/-- the bytes so far, and the packet in parts in its block -/
structure RE (w W : World) (s : Sm) (a : Option Addr) (n c : Nat) (L : List Int) : Prop where
  m : Mk .u8 5 w.heap.size W (.slice a n c) n L
  z : a = none → c = 0
  f : ∀ x, a = some x → w.heap.size < x.block
  p : Blk 28 W w.heap.size #[.int .i64 s.ctx, .int .i64 s.fmt, .int .i64 s.num, .int .i64 s.time, .int .i64 s.mark, .int .i64 s.id, .int .i64 s.udp, .int .i64 s.h.kind, .int .i64 s.h.tos, .int .i64 s.h.id, .int .i64 s.h.fixed, .int .i64 s.h.ttl, .int .i64 s.h.frm, .int .i64 s.h.to, .int .i64 s.h.fromPort, .int .i64 s.h.toPort, .int .i64 s.h.check, .int .i64 s.h.marker, .int .i64 s.h.type, .int .i64 s.h.seq, .int .i64 s.h.time, .int .i64 s.h.source, .int .i64 s.ds, .int .i64 s.df, .int .i64 s.chk, .slice s.pa s.pn s.pc]
  b : Below w.heap.size w W
theorem RE.ne {w W : World} {s : Sm} {a : Option Addr} {n c : Nat} {L : List Int} (q : RE w W s a n c L) : (Value.slice a n c).ownBlock ≠ some w.heap.size := by
  intro e
  cases a with
  | none => cases e
  | some x =>
    have := q.f x rfl
    have e2 : x.block = w.heap.size := Option.some.inj e
    omega
theorem RE.ge {w W : World} {s : Sm} {a : Option Addr} {n c : Nat} {L : List Int} (q : RE w W s a n c L) : ∀ k, (Value.slice a n c).ownBlock = some k → w.heap.size ≤ k := fun k e => (q.m.own_ge k e).1
theorem RE.keep {w W W' : World} {s : Sm} {a : Option Addr} {n c : Nat} {L : List Int} (q : RE w W s a n c L) (hb : Below W.heap.size W W') : RE w W' s a n c L :=
  ⟨q.m.keep hb, q.z, q.f, q.p.keep hb, q.b.trans (hb.mono q.b.size)⟩
/-- behind Put -/
theorem RE.put {w W W' : World} {s : Sm} {a a' : Option Addr} {n n' c c' : Nat} {L L' : List Int} (q : RE w W s a n c L) (g : Grew .u8 5 w.heap.size W W' (.slice a n c) (.slice a' n' c') n' L') (hz : a' = none → c' = 0) : RE w W' s a' n' c' L' := by
  have hlt : w.heap.size < W.heap.size := q.p.lt
  refine ⟨g.row, hz, fun x e => ?_, q.p.keepRow g.grown q.ne, q.b.trans (Below.of_row g.grown q.ge q.b.size)⟩
  subst e
  rcases g.lies x.block rfl with e | e
  · cases a with
    | none => cases e
    | some y => have e2 : y.block = x.block := Option.some.inj e; have := q.f y rfl; omega
  · omega
/-- behind one byte more, whose literal lay in a block of its own -/
theorem RE.push {w W W' : World} {s : Sm} {a : Option Addr} {n c g c' : Nat} {L L' : List Int} {o : Obj} (q : RE w W s a n c L) (hm : Mk .u8 5 w.heap.size W' (.slice (some ⟨g, 0, none⟩) (n + 1) c') (n + 1) L') (hg : (W.alloc o).grownBy W' (Value.slice a n c).ownBlock)
    (hl : (Value.slice a n c).ownBlock = some g ∨ g = (W.alloc o).heap.size) : RE w W' s (some ⟨g, 0, none⟩) (n + 1) c' L' := by
  have q1 := q.keep ((Below.refl W.heap.size W).alloc (Nat.le_refl _) o)
  have hlt : w.heap.size < W.heap.size := q.p.lt
  refine ⟨hm, (fun h => by cases h), fun x e => ?_, q1.p.keepRow hg q1.ne, q1.b.trans (Below.of_row hg q1.ge q1.b.size)⟩
  cases e
  rcases hl with e | e
  · cases a with
    | none => cases e
    | some y => have e2 : y.block = g := Option.some.inj e; have := q.f y rfl; show w.heap.size < g; omega
  · show w.heap.size < g
    rw [e]; simp; omega
theorem RE.cell {w W : World} {s : Sm} {a : Option Addr} {n c : Nat} {L : List Int} (q : RE w W s a n c L) : ∀ i, W.cell? ⟨w.heap.size, i, none⟩ = (#[.int .i64 s.ctx, .int .i64 s.fmt, .int .i64 s.num, .int .i64 s.time, .int .i64 s.mark, .int .i64 s.id, .int .i64 s.udp, .int .i64 s.h.kind, .int .i64 s.h.tos, .int .i64 s.h.id, .int .i64 s.h.fixed, .int .i64 s.h.ttl, .int .i64 s.h.frm, .int .i64 s.h.to, .int .i64 s.h.fromPort, .int .i64 s.h.toPort, .int .i64 s.h.check, .int .i64 s.h.marker, .int .i64 s.h.type, .int .i64 s.h.seq, .int .i64 s.h.time, .int .i64 s.h.source, .int .i64 s.ds, .int .i64 s.df, .int .i64 s.chk, .slice s.pa s.pn s.pc] : Array Value)[i]? := cells_of q.p

/-- append one byte to the bytes so far -/
theorem wpList_push_re {w W : World} {s : Sm} {ops : Array Oper} {rest : List Oper} {o : Oper} {act : Act} {Q : Exit → Act → World → Prop} {a : Option Addr} {n c : Nat} {L : List Int} (hgd : o.guard = none) (x y : Operand) (ho : o.op = .call { callee := .builtin .append, args := #[x, y], argTypes := #[26, 26] })
    (q : RE w W s a n c L) (z : Int) (h0 : 0 ≤ z) (h1 : z ≤ 255) (hx : act.eval x = .slice a n c) (H : Nat) (hH : H = W.heap.size) (hy : act.eval y = .slice (some ⟨H, 0, none⟩) 1 1) (hn : n ≤ 1000)
    (h : ∀ g c' W', RE w W' s (some ⟨g, 0, none⟩) (n + 1) c' (L ++ [z]) → wpList Tryd.prog ops Q rest (act.put o.dst (.slice (some ⟨g, 0, none⟩) (n + 1) c')) W') :
    wpList Tryd.prog ops Q (o :: rest) act (W.alloc (.cells #[.int .u8 z] 5)) := by
  subst hH
  have hb : w.heap.size ≤ W.heap.size := q.b.size
  have L1 := (Mk.lit .u8 5 W.heap.size W [z] 1 (Nat.le_refl _) rfl (by omega) (fun y hy => by simp at hy; subst hy; exact byte_wf h0 h1)).sl
  exact wpList_push_at hgd x y 26 ho .u8 5 w.heap.size 1 Tryd.underlying26 info_u8 (.slice a n c) n L hx (q.m.alloc _) z W.heap.size 0 1 L1 hy (by omega) (by omega) (by simp; omega) fun g c' W' hm hg hl => h g c' W' (q.push hm hg hl)
end Go.Proofs.YtkhcfmnebflgkaaDoor
