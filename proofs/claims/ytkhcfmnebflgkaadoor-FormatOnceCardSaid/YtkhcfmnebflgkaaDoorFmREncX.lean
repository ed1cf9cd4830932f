/-
  The bytes so far, and other slices made meanwhile: for regions that draw their order.
-/
import Derived.Test.YtkhcfmnebflgkaaDoorFmREnc0
import Derived.Test.YtkhcfmnebflgkaaDoorJBase
import Derived.Test.YtkhcfmnebflgkaaDoorFmDyn
namespace Go.Proofs.YtkhcfmnebflgkaaDoor
open Go Go.RowKit

structure RX (w W : World) (s : Sm) (a : Option Addr) (n c : Nat) (L : List Int) (xs : List (Nat × Nat × List Int)) : Prop where
  r : RE w W s a n c L
  x : ∀ t ∈ xs, Sl .u8 W (some ⟨t.1, 0, none⟩) t.2.1 t.2.2 ∧ t.1 < W.heap.size ∧ ∀ y, a = some y → y.block ≠ t.1
theorem RX.keep {w W W' : World} {s : Sm} {a : Option Addr} {n c : Nat} {L : List Int} {xs : List (Nat × Nat × List Int)} (q : RX w W s a n c L xs) (hb : Below W.heap.size W W') : RX w W' s a n c L xs :=
  ⟨q.r.keep hb, fun t ht => ⟨(q.x t ht).1.keep hb, Nat.lt_of_lt_of_le (q.x t ht).2.1 hb.size, (q.x t ht).2.2⟩⟩
theorem RE.lt {w W : World} {s : Sm} {a : Option Addr} {n c : Nat} {L : List Int} (q : RE w W s a n c L) : ∀ y, a = some y → y.block < W.heap.size := fun y e => by
  subst e; exact (q.m.own_ge y.block rfl).2
theorem RX.lit {w W : World} {s : Sm} {a : Option Addr} {n c : Nat} {L : List Int} {xs : List (Nat × Nat × List Int)} (q : RX w W s a n c L xs) (z : Int) (h0 : 0 ≤ z) (h1 : z ≤ 255) : RX w (W.alloc (.cells #[.int .u8 z] 5)) s a n c L ((W.heap.size, 1, [z]) :: xs) := by
  have q1 := q.keep ((Below.refl W.heap.size W).alloc (Nat.le_refl _) (.cells #[.int .u8 z] 5))
  refine ⟨q1.r, fun t ht => ?_⟩
  rcases List.mem_cons.1 ht with rfl | ht
  · exact ⟨(Mk.lit .u8 5 W.heap.size W [z] 1 (Nat.le_refl _) rfl (by omega) (fun y hy => by simp at hy; subst hy; exact byte_wf h0 h1)).sl, by simp, fun y e => Nat.ne_of_lt (q.r.lt y e)⟩
  · exact q1.x t ht
theorem RX.made {w W W' : World} {s : Sm} {a : Option Addr} {n c g m c2 : Nat} {L zs : List Int} {xs : List (Nat × Nat × List Int)} (q : RX w W s a n c L xs) (hm : Mk .u8 5 W.heap.size W' (.slice (some ⟨g, 0, none⟩) m c2) m zs) (hb : Below W.heap.size W W') : RX w W' s a n c L ((g, m, zs) :: xs) := by
  have q1 := q.keep hb
  refine ⟨q1.r, fun t ht => ?_⟩
  rcases List.mem_cons.1 ht with rfl | ht
  · have k := hm.own_ge g rfl
    exact ⟨hm.sl, k.2, fun y e => by have := q.r.lt y e; show y.block ≠ g; omega⟩
  · exact q1.x t ht
/-- append of one of the slices to the bytes so far, in a drawn region -/
theorem step_rx {w W : World} {s : Sm} {ops : Array Oper} {o : Oper} {act : Act} {K : Act → World → Prop} {Q : Exit → Act → World → Prop} {F : Prop} {a : Option Addr} {n c b m cb : Nat} {L zs : List Int} {xs : List (Nat × Nat × List Int)} (hgd : o.guard = none) (d : Tmp) (hd : o.dst = some d) (x y : Operand) (ho : o.op = .call { callee := .builtin .append, args := #[x, y], argTypes := #[26, 26] })
    (q : RX w W s a n c L xs) (ht : (b, m, zs) ∈ xs) (hx : act.eval x = .slice a n c) (hy : act.eval y = .slice (some ⟨b, 0, none⟩) m cb) (hn : n + m ≤ 2000)
    (h : ∀ a' c' W', RX w W' s a' (n + m) c' (L ++ zs) xs → K (act.put (some d) (.slice a' (n + m) c')) W') :
    if Region.wanted o (yielded ops act.tmps) = true then Oper.wp Tryd.prog o act W K Q else F := by
  have hb : w.heap.size ≤ W.heap.size := q.r.b.size
  refine step_slice_mk hgd x y 26 ho .u8 5 w.heap.size 1 Tryd.underlying26 info_u8 (.slice a n c) n L hx q.r.m (some ⟨b, 0, none⟩) m cb zs ⟨_, _, rfl⟩ hy (q.x _ ht).1 (by omega) (by omega) hb ?_
  intro a' c' W' hm hg hl hz
  rw [hd]
  refine h a' c' W' ⟨q.r.put ⟨hm, hg, hl⟩ (fun e => (hz e).2), fun t ht => ?_⟩
  obtain ⟨t1, t2, t3⟩ := q.x t ht
  refine ⟨t1.keepRow hg (fun x e _ => ?_), Nat.lt_of_lt_of_le t2 hg.size, fun y e => ?_⟩
  · cases e
    intro e2
    cases a with
    | none => cases e2
    | some y => exact t3 y rfl (Option.some.inj e2).symm
  · subst e
    rcases hl y.block rfl with e | e
    · cases a with
      | none => cases e
      | some y' => have e2 : y'.block = y.block := Option.some.inj e; have := t3 y' rfl; omega
    · omega
/-- the bytes so far, and a copy of the header in a block of its own -/
structure RH (w W : World) (s : Sm) (a : Option Addr) (n c : Nat) (L : List Int) (G : Nat) : Prop where
  r : RE w W s a n c L
  h : Blk 23 W G #[.int .i64 s.h.kind, .int .i64 s.h.tos, .int .i64 s.h.id, .int .i64 s.h.fixed, .int .i64 s.h.ttl, .int .i64 s.h.frm, .int .i64 s.h.to, .int .i64 s.h.fromPort, .int .i64 s.h.toPort, .int .i64 s.h.check, .int .i64 s.h.marker, .int .i64 s.h.type, .int .i64 s.h.seq, .int .i64 s.h.time, .int .i64 s.h.source]
  f : ∀ x, a = some x → x.block ≠ G
theorem RH.keep {w W W' : World} {s : Sm} {a : Option Addr} {n c G : Nat} {L : List Int} (q : RH w W s a n c L G) (hb : Below W.heap.size W W') : RH w W' s a n c L G := ⟨q.r.keep hb, q.h.keep hb, q.f⟩
theorem RH.put {w W W' : World} {s : Sm} {a a' : Option Addr} {n n' c c' G : Nat} {L L' : List Int} (q : RH w W s a n c L G) (g : Grew .u8 5 w.heap.size W W' (.slice a n c) (.slice a' n' c') n' L') (hz : a' = none → c' = 0) : RH w W' s a' n' c' L' G := by
  have hlt := q.h.lt
  refine ⟨q.r.put g hz, q.h.keepRow g.grown (fun e => ?_), fun x e => ?_⟩
  · cases a with
    | none => cases e
    | some y => exact q.f y rfl (Option.some.inj e)
  · subst e
    rcases g.lies x.block rfl with e | e
    · cases a with
      | none => cases e
      | some y => have e2 : y.block = x.block := Option.some.inj e; have := q.f y rfl; omega
    · omega
theorem RE.header {w W W' : World} {s : Sm} {a : Option Addr} {n c : Nat} {L : List Int} {o : Obj} (q : RE w W s a n c L) (h : Blk 23 W' W.heap.size #[.int .i64 s.h.kind, .int .i64 s.h.tos, .int .i64 s.h.id, .int .i64 s.h.fixed, .int .i64 s.h.ttl, .int .i64 s.h.frm, .int .i64 s.h.to, .int .i64 s.h.fromPort, .int .i64 s.h.toPort, .int .i64 s.h.check, .int .i64 s.h.marker, .int .i64 s.h.type, .int .i64 s.h.seq, .int .i64 s.h.time, .int .i64 s.h.source]) (g : (W.alloc o).grownBy W' (some W.heap.size)) : RH w W' s a n c L W.heap.size := by
  have hb : Below W.heap.size W W' := ((Below.refl W.heap.size W).alloc (Nat.le_refl _) o).trans (Below.of_row g (fun k e => by cases e; exact Nat.le_refl _) (by simp))
  exact ⟨q.keep hb, h, fun x e => Nat.ne_of_lt (q.lt x e)⟩
theorem RH.cell {w W : World} {s : Sm} {a : Option Addr} {n c G : Nat} {L : List Int} (q : RH w W s a n c L G) : ∀ i, W.cell? ⟨G, i, none⟩ = (#[.int .i64 s.h.kind, .int .i64 s.h.tos, .int .i64 s.h.id, .int .i64 s.h.fixed, .int .i64 s.h.ttl, .int .i64 s.h.frm, .int .i64 s.h.to, .int .i64 s.h.fromPort, .int .i64 s.h.toPort, .int .i64 s.h.check, .int .i64 s.h.marker, .int .i64 s.h.type, .int .i64 s.h.seq, .int .i64 s.h.time, .int .i64 s.h.source] : Array Value)[i]? := cells_of q.h
/-- the document's dynamic, of either kind -/
def dynN (s : Sm) : Nat := if s.h.kind = 1 then 5 else 14
theorem rDyn_all (s : Sm) (w : World) (b : BigB s) :
    Calls Tryd.prog 32 #[(.agg #[.int .i64 s.ctx, .int .i64 s.fmt, .int .i64 s.num, .int .i64 s.time, .int .i64 s.mark, .int .i64 s.id, .int .i64 s.udp, .int .i64 s.h.kind, .int .i64 s.h.tos, .int .i64 s.h.id, .int .i64 s.h.fixed, .int .i64 s.h.ttl, .int .i64 s.h.frm, .int .i64 s.h.to, .int .i64 s.h.fromPort, .int .i64 s.h.toPort, .int .i64 s.h.check, .int .i64 s.h.marker, .int .i64 s.h.type, .int .i64 s.h.seq, .int .i64 s.h.time, .int .i64 s.h.source, .int .i64 s.ds, .int .i64 s.df, .int .i64 s.chk, .slice s.pa s.pn s.pc])] w fun e w' => ∃ g cp, e = .returned (.slice (some ⟨g, 0, none⟩) (dynN s) cp) ∧ Mk .u8 5 w.heap.size w' (.slice (some ⟨g, 0, none⟩) (dynN s) cp) (dynN s) (dynL s) ∧ Below w.heap.size w w' := by
  unfold dynN
  by_cases k : s.h.kind = 1
  · rw [if_pos k]
    refine (rDynamic_one s w b.head b.df k).mono ?_
    rintro e w' ⟨o, cp, rfl, hm, _, hb⟩
    obtain ⟨g, rfl⟩ := hm.head0 (by omega)
    exact ⟨g, cp, rfl, hm, hb⟩
  · rw [if_neg k]
    have k2 : s.h.kind = 2 := by
      obtain ⟨h, _⟩ | ⟨h, _⟩ := b.head.2
      · exact absurd h k
      · exact h
    refine (rDynamic_two s w b.head b.df k2).mono ?_
    rintro e w' ⟨o, cp, rfl, hm, _, hb⟩
    obtain ⟨g, rfl⟩ := hm.head0 (by omega)
    exact ⟨g, cp, rfl, hm, hb⟩
end Go.Proofs.YtkhcfmnebflgkaaDoor
