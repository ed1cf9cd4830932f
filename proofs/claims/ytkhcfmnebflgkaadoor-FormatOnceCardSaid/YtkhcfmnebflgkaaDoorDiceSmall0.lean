/-
  Small of the statements' own helpers: packets in parts that are valid. (asm_small.py writes this text.)
-/
import Derived.Test.YtkhcfmnebflgkaaDoorJBase
import Derived.Test.YtkhcfmnebflgkaaDoorJDice
import Derived.Test.YtkhcfmnebflgkaaDoorStep4
import Derived.Deep.DeepCutAuto
import Derived.Deep.CutBlock
import Derived.Deep.RegionHeld3
import Derived.Deep.DrawnRows
import Derived.Test.YtkhcfmnebflgkaaDoorDiceHeader2
import Derived.Test.YtkhcfmnebflgkaaDoorDiceDyn
import Derived.Test.YtkhcfmnebflgkaaDoorFmEnc
namespace Go.Proofs.YtkhcfmnebflgkaaDoor
open Go Go.RowKit

/-- a walk with dice in block g and a result's block -/
structure SW (w W : World) (g : Nat) : Prop where
  d : DiceIn W g
  gr : w.grownBy W (some g)
  zr : Blk 28 W w.heap.size #[.int .i64 0, .int .i64 0, .int .i64 0, .int .i64 0, .int .i64 0, .int .i64 0, .int .i64 0, .int .i64 0, .int .i64 0, .int .i64 0, .int .i64 0, .int .i64 0, .int .i64 0, .int .i64 0, .int .i64 0, .int .i64 0, .int .i64 0, .int .i64 0, .int .i64 0, .int .i64 0, .int .i64 0, .int .i64 0, .int .i64 0, .int .i64 0, .int .i64 0, .slice none 0 0]
theorem SW.call {w W W' : World} {g : Nat} (q : SW w W g) (hlt : g < w.heap.size) (hd : DiceIn W' g) (hg : W.grownBy W' (some g)) : SW w W' g :=
  ⟨hd, grown_trans q.gr hg, q.zr.keepRow hg (fun e => by have := Option.some.inj e; omega)⟩
theorem SW.alloc {w W : World} {g : Nat} (q : SW w W g) (o : Obj) : SW w (W.alloc o) g :=
  ⟨q.d.alloc o, q.gr.trans (World.grownBy_alloc W o (some g)), q.zr.keep ((Below.refl _ _).alloc (Nat.le_refl _) o)⟩
theorem SW.drew {w W : World} {g : Nat} (q : SW w W g) : SW w W.drew g := ⟨q.d.drew, ⟨q.gr.os, q.gr.tape, q.gr.output, q.gr.size, q.gr.block⟩, q.zr⟩
theorem SW.row {w W W' : World} {g b : Nat} (q : SW w W g) (hg : W.grownBy W' (some b)) (h1 : g < b) (h2 : w.heap.size < b) : SW w W' g :=
  ⟨q.d.keepRow hg (fun c e => by rw [← Option.some.inj e]; exact h1), grown_then q.gr hg (fun j e => .inr (by rw [← Option.some.inj e]; omega)), q.zr.keepRow hg (fun e => by have := Option.some.inj e; omega)⟩
/-- a block that is younger than the dice -/
structure OB (T : TypeId) (g : Nat) (W : World) (b : Nat) (cs : Array Value) : Prop where
  k : Blk T W b cs
  n : g < b
theorem OB.new {g : Nat} {W : World} (T : TypeId) (cs : Array Value) (h : g < W.heap.size) : OB T g (W.alloc (.cells cs T)) W.heap.size cs := ⟨heap_alloc_new W _, h⟩
theorem OB.call {T : TypeId} {g b : Nat} {W W' : World} {cs : Array Value} (q : OB T g W b cs) (hg : W.grownBy W' (some g)) : OB T g W' b cs := ⟨q.k.keepRow hg (fun e => by have := Option.some.inj e; have := q.n; omega), q.n⟩
theorem OB.alloc {T : TypeId} {g b : Nat} {W : World} {cs : Array Value} (q : OB T g W b cs) (o : Obj) : OB T g (W.alloc o) b cs := ⟨q.k.keep ((Below.refl _ _).alloc (Nat.le_refl _) o), q.n⟩
theorem own_ne {o : Option Addr} {m c B : Nat} (h : ∀ x, o = some x → x.block ≠ B) : (Value.slice o m c).ownBlock = none ∨ (Value.slice o m c).ownBlock ≠ some B := by
  cases o with
  | none => exact .inl rfl
  | some x => exact .inr (fun e => h x rfl (Option.some.inj e))
/-- a payload of the call's own, apart from block B -/
structure PM (w W : World) (B : Nat) (s : Sm) : Prop where
  m : Mk .u8 5 (w.heap.size + 1) W (.slice s.pa s.pn s.pc) s.pn s.pz
  nil : s.pa = none → s.pc = 0
  n : s.pn ≤ 12
  ne : ∀ x, s.pa = some x → x.block ≠ B
/-- .. and the packet in parts in block B -/
structure SQ (w W : World) (g B : Nat) (s : Sm) : Prop where
  q : SW w W g
  k : Blk 28 W B #[.int .i64 s.ctx, .int .i64 s.fmt, .int .i64 s.num, .int .i64 s.time, .int .i64 s.mark, .int .i64 s.id, .int .i64 s.udp, .int .i64 s.h.kind, .int .i64 s.h.tos, .int .i64 s.h.id, .int .i64 s.h.fixed, .int .i64 s.h.ttl, .int .i64 s.h.frm, .int .i64 s.h.to, .int .i64 s.h.fromPort, .int .i64 s.h.toPort, .int .i64 s.h.check, .int .i64 s.h.marker, .int .i64 s.h.type, .int .i64 s.h.seq, .int .i64 s.h.time, .int .i64 s.h.source, .int .i64 s.ds, .int .i64 s.df, .int .i64 s.chk, .slice s.pa s.pn s.pc]
  p : PM w W B s
  hB : w.heap.size < B
theorem SQ.call {w W W' : World} {g B : Nat} {s : Sm} (q : SQ w W g B s) (hlt : g < w.heap.size) (hd : DiceIn W' g) (hg : W.grownBy W' (some g)) : SQ w W' g B s :=
  ⟨q.q.call hlt hd hg, q.k.keepRow hg (fun e => by have := Option.some.inj e; have := q.hB; omega), ⟨q.p.m.keepBut hg (by omega), q.p.nil, q.p.n, q.p.ne⟩, q.hB⟩
theorem SQ.alloc {w W : World} {g B : Nat} {s : Sm} (q : SQ w W g B s) (o : Obj) : SQ w (W.alloc o) g B s :=
  ⟨q.q.alloc o, q.k.keep ((Below.refl _ _).alloc (Nat.le_refl _) o), ⟨q.p.m.alloc o, q.p.nil, q.p.n, q.p.ne⟩, q.hB⟩
theorem SQ.drew {w W : World} {g B : Nat} {s : Sm} (q : SQ w W g B s) : SQ w W.drew g B s := ⟨q.q.drew, q.k, ⟨q.p.m.drew, q.p.nil, q.p.n, q.p.ne⟩, q.hB⟩
/-- stores into the packet -/
theorem SQ.put {w W W' : World} {g B : Nat} {s s' : Sm} (q : SQ w W g B s) (hg : W.grownBy W' (some B)) (hk : W'.heap[B]? = some (.cells #[.int .i64 s'.ctx, .int .i64 s'.fmt, .int .i64 s'.num, .int .i64 s'.time, .int .i64 s'.mark, .int .i64 s'.id, .int .i64 s'.udp, .int .i64 s'.h.kind, .int .i64 s'.h.tos, .int .i64 s'.h.id, .int .i64 s'.h.fixed, .int .i64 s'.h.ttl, .int .i64 s'.h.frm, .int .i64 s'.h.to, .int .i64 s'.h.fromPort, .int .i64 s'.h.toPort, .int .i64 s'.h.check, .int .i64 s'.h.marker, .int .i64 s'.h.type, .int .i64 s'.h.seq, .int .i64 s'.h.time, .int .i64 s'.h.source, .int .i64 s'.ds, .int .i64 s'.df, .int .i64 s'.chk, .slice s'.pa s'.pn s'.pc] 28 (0, 0))) (hp : s'.pa = s.pa ∧ s'.pn = s.pn ∧ s'.pc = s.pc ∧ s'.pz = s.pz) (hlt : g < w.heap.size) : SQ w W' g B s' := by
  obtain ⟨h1, h2, h3, h4⟩ := hp
  refine ⟨q.q.row hg (by have := q.hB; omega) q.hB, hk, ⟨?_, by rw [h1, h3]; exact q.p.nil, by rw [h2]; exact q.p.n, by rw [h1]; exact q.p.ne⟩, q.hB⟩
  rw [h1, h2, h3, h4]
  exact q.p.m.keepRow hg (own_ne q.p.ne)
/-- behind the store of the result -/
theorem SQ.fin {w W W' : World} {g B : Nat} {s : Sm} (q : SQ w W g B s) (hg : W.grownBy W' (some w.heap.size)) (hlt : g < w.heap.size) : s.In W' ∧ DiceIn W' g ∧ w.grownBy W' (some g) := by
  have hne : ∀ x, s.pa = some x → x.block ≠ w.heap.size := fun x e => by
    have := (q.p.m.own_ge x.block (by rw [e]; rfl)).1
    omega
  refine ⟨⟨(q.p.m.keepRow hg (own_ne hne)).sl, q.p.nil, ?_⟩, q.q.d.keepRow hg (fun c e => by rw [← Option.some.inj e]; exact hlt), grown_then q.q.gr hg (fun j e => .inr (by rw [← Option.some.inj e]; exact Nat.le_refl _))⟩
  rcases q.p.m.own.2 with ⟨h1, h2⟩ | ⟨g9, cap9, cur9, h1, _, _, h2, _⟩
  · simp only [Value.slice.injEq] at h1; omega
  · simp only [Value.slice.injEq] at h1; omega
theorem results_sm1 {fn : Func} {x : Tmp} (h : fn.results = #[.cell x 28]) (tmps : Array Value) (w : World) (g : Nat) (cs : Array Value) (hx : tmps.getD x undef = .pointer (some ⟨g, 0, none⟩)) (K : w.heap[g]? = some (.cells cs 28 (0, 0))) (hn : cs.size = 26) :
    (results fn tmps).run Tryd.prog w = .ok (.agg cs) w := by
  have hc : w.rangeAt g 0 cs.toList := fun j v hv => by
    rw [Nat.zero_add, cells_of K]; simpa using hv
  have l := run_loadVar_mid (P := Tryd.prog) w g 0 28 cs.toList _ hc Tryd.underlying28 rfl (by rw [info_sm]; simp [hn])
  have hx2 : tmps[x]?.getD undef = .pointer (some ⟨g, 0, none⟩) := by simpa using hx
  rw [Array.toArray_toList] at l
  simp [results, h, hx2, asAddr, l]
theorem SQ.putH {w W W' : World} {g B : Nat} {s : Sm} {h : Hd} (q : SQ w W g B s) (hg : W.grownBy W' (some B)) (hk : W'.heap[B]? = some (.cells (setFrom #[.int .i64 s.ctx, .int .i64 s.fmt, .int .i64 s.num, .int .i64 s.time, .int .i64 s.mark, .int .i64 s.id, .int .i64 s.udp, .int .i64 s.h.kind, .int .i64 s.h.tos, .int .i64 s.h.id, .int .i64 s.h.fixed, .int .i64 s.h.ttl, .int .i64 s.h.frm, .int .i64 s.h.to, .int .i64 s.h.fromPort, .int .i64 s.h.toPort, .int .i64 s.h.check, .int .i64 s.h.marker, .int .i64 s.h.type, .int .i64 s.h.seq, .int .i64 s.h.time, .int .i64 s.h.source, .int .i64 s.ds, .int .i64 s.df, .int .i64 s.chk, .slice s.pa s.pn s.pc] 7 (#[.int .i64 h.kind, .int .i64 h.tos, .int .i64 h.id, .int .i64 h.fixed, .int .i64 h.ttl, .int .i64 h.frm, .int .i64 h.to, .int .i64 h.fromPort, .int .i64 h.toPort, .int .i64 h.check, .int .i64 h.marker, .int .i64 h.type, .int .i64 h.seq, .int .i64 h.time, .int .i64 h.source] : Array Value).toList) 28 (0, 0))) (hlt : g < w.heap.size) : SQ w W' g B { s with h := h } := by
  rw [show setFrom #[.int .i64 s.ctx, .int .i64 s.fmt, .int .i64 s.num, .int .i64 s.time, .int .i64 s.mark, .int .i64 s.id, .int .i64 s.udp, .int .i64 s.h.kind, .int .i64 s.h.tos, .int .i64 s.h.id, .int .i64 s.h.fixed, .int .i64 s.h.ttl, .int .i64 s.h.frm, .int .i64 s.h.to, .int .i64 s.h.fromPort, .int .i64 s.h.toPort, .int .i64 s.h.check, .int .i64 s.h.marker, .int .i64 s.h.type, .int .i64 s.h.seq, .int .i64 s.h.time, .int .i64 s.h.source, .int .i64 s.ds, .int .i64 s.df, .int .i64 s.chk, .slice s.pa s.pn s.pc] 7 (#[.int .i64 h.kind, .int .i64 h.tos, .int .i64 h.id, .int .i64 h.fixed, .int .i64 h.ttl, .int .i64 h.frm, .int .i64 h.to, .int .i64 h.fromPort, .int .i64 h.toPort, .int .i64 h.check, .int .i64 h.marker, .int .i64 h.type, .int .i64 h.seq, .int .i64 h.time, .int .i64 h.source] : Array Value).toList = #[.int .i64 s.ctx, .int .i64 s.fmt, .int .i64 s.num, .int .i64 s.time, .int .i64 s.mark, .int .i64 s.id, .int .i64 s.udp, .int .i64 h.kind, .int .i64 h.tos, .int .i64 h.id, .int .i64 h.fixed, .int .i64 h.ttl, .int .i64 h.frm, .int .i64 h.to, .int .i64 h.fromPort, .int .i64 h.toPort, .int .i64 h.check, .int .i64 h.marker, .int .i64 h.type, .int .i64 h.seq, .int .i64 h.time, .int .i64 h.source, .int .i64 s.ds, .int .i64 s.df, .int .i64 s.chk, .slice s.pa s.pn s.pc] from by kernel_rfl] at hk
  exact q.put hg hk ⟨rfl, rfl, rfl, rfl⟩ hlt
theorem SQ.putD {w W W' : World} {g B : Nat} {s : Sm} {x y : Int} (q : SQ w W g B s) (hg : W.grownBy W' (some B)) (hk : W'.heap[B]? = some (.cells (setFrom #[.int .i64 s.ctx, .int .i64 s.fmt, .int .i64 s.num, .int .i64 s.time, .int .i64 s.mark, .int .i64 s.id, .int .i64 s.udp, .int .i64 s.h.kind, .int .i64 s.h.tos, .int .i64 s.h.id, .int .i64 s.h.fixed, .int .i64 s.h.ttl, .int .i64 s.h.frm, .int .i64 s.h.to, .int .i64 s.h.fromPort, .int .i64 s.h.toPort, .int .i64 s.h.check, .int .i64 s.h.marker, .int .i64 s.h.type, .int .i64 s.h.seq, .int .i64 s.h.time, .int .i64 s.h.source, .int .i64 s.ds, .int .i64 s.df, .int .i64 s.chk, .slice s.pa s.pn s.pc] 22 (#[.int .i64 x, .int .i64 y] : Array Value).toList) 28 (0, 0))) (hlt : g < w.heap.size) : SQ w W' g B { s with ds := x, df := y } := by
  rw [show setFrom #[.int .i64 s.ctx, .int .i64 s.fmt, .int .i64 s.num, .int .i64 s.time, .int .i64 s.mark, .int .i64 s.id, .int .i64 s.udp, .int .i64 s.h.kind, .int .i64 s.h.tos, .int .i64 s.h.id, .int .i64 s.h.fixed, .int .i64 s.h.ttl, .int .i64 s.h.frm, .int .i64 s.h.to, .int .i64 s.h.fromPort, .int .i64 s.h.toPort, .int .i64 s.h.check, .int .i64 s.h.marker, .int .i64 s.h.type, .int .i64 s.h.seq, .int .i64 s.h.time, .int .i64 s.h.source, .int .i64 s.ds, .int .i64 s.df, .int .i64 s.chk, .slice s.pa s.pn s.pc] 22 (#[.int .i64 x, .int .i64 y] : Array Value).toList = #[.int .i64 s.ctx, .int .i64 s.fmt, .int .i64 s.num, .int .i64 s.time, .int .i64 s.mark, .int .i64 s.id, .int .i64 s.udp, .int .i64 s.h.kind, .int .i64 s.h.tos, .int .i64 s.h.id, .int .i64 s.h.fixed, .int .i64 s.h.ttl, .int .i64 s.h.frm, .int .i64 s.h.to, .int .i64 s.h.fromPort, .int .i64 s.h.toPort, .int .i64 s.h.check, .int .i64 s.h.marker, .int .i64 s.h.type, .int .i64 s.h.seq, .int .i64 s.h.time, .int .i64 s.h.source, .int .i64 x, .int .i64 y, .int .i64 s.chk, .slice s.pa s.pn s.pc] from by kernel_rfl] at hk
  exact q.put hg hk ⟨rfl, rfl, rfl, rfl⟩ hlt
/-- what Small makes first -/
structure Sm0 (s : Sm) : Prop where
  ctx : 0 ≤ s.ctx ∧ s.ctx ≤ 15
  fmt : 1 ≤ s.fmt ∧ s.fmt ≤ 6
  z : s.num = 0 ∧ s.time = 0 ∧ s.mark = 0 ∧ s.id = 0 ∧ s.udp = 0 ∧ s.h = ⟨0, 0, 0, 0, 0, 0, 0, 0, 0, 0, 0, 0, 0, 0, 0⟩ ∧ s.ds = 0 ∧ s.df = 0 ∧ s.chk = 0
def z26 : Array Value := #[.int .i64 0, .int .i64 0, .int .i64 0, .int .i64 0, .int .i64 0, .int .i64 0, .int .i64 0, .int .i64 0, .int .i64 0, .int .i64 0, .int .i64 0, .int .i64 0, .int .i64 0, .int .i64 0, .int .i64 0, .int .i64 0, .int .i64 0, .int .i64 0, .int .i64 0, .int .i64 0, .int .i64 0, .int .i64 0, .int .i64 0, .int .i64 0, .int .i64 0, .slice none 0 0]
def sm0V (v q : Int) (o : Option Addr) (m c : Nat) : Value := .agg #[.int .i64 v, .int .i64 q, .int .i64 0, .int .i64 0, .int .i64 0, .int .i64 0, .int .i64 0, .int .i64 0, .int .i64 0, .int .i64 0, .int .i64 0, .int .i64 0, .int .i64 0, .int .i64 0, .int .i64 0, .int .i64 0, .int .i64 0, .int .i64 0, .int .i64 0, .int .i64 0, .int .i64 0, .int .i64 0, .int .i64 0, .int .i64 0, .int .i64 0, .slice o m c]
theorem inB_of {n m : Int} (h : 0 ≤ n ∧ n ≤ m) : inB n m = true := decide_eq_true h
theorem ok_to {s : Sm} (h : OkS s) : smB s = true := by
  unfold smB
  rw [inB_of h.ctx, decide_eq_true h.fmt, decide_eq_true h.pn]
  simp only [Bool.true_and]
  rcases h.arm with ⟨f, k, b⟩ | ⟨f, b⟩ | ⟨f, b⟩
  · rw [if_pos (by omega)]
    unfold smSmallB smHeadB smLowB smDyn0
    rw [inB_of b.num, inB_of b.time, inB_of b.mark, inB_of b.id, inB_of b.chk, inB_of b.udp, (eqB_iff _ _).2 b.head, b.ds, b.df]
    rcases k with k | k <;> rw [k] <;> rfl
  · rw [if_neg (by omega), if_neg (by omega)]
    unfold smNoneB smBigB dynB smDyn0
    rw [(validB_iff _).2 b.head, b.num, b.time, b.mark, b.id, b.udp, inB_of b.chk]
    have d : decide ((0 ≤ s.ds ∧ s.ds ≤ 65535) ∧ (s.df = 0 ∨ s.df = 1)) = true := decide_eq_true ⟨b.ds, by have := b.df; omega⟩
    rw [d]
    have o : (s.h.kind == 1 && !(s.ds == 0 && s.df == 0)) = false := by
      by_cases k : s.h.kind = 1
      · rw [(b.one k).1, (b.one k).2]; simp
      · simp [k]
    rw [o]
    rcases f with f | f
    · rw [(eqB_iff _ _).2 (b.stat f)]; simp
    · rw [f]; simp
  · rw [if_neg (by omega), if_pos f]
    unfold smNoneB smRawB smDyn0
    rw [b.num, b.time, b.mark, b.id, b.udp, b.ctx, b.chk, b.head, b.ds, b.df, (eqB_iff _ _).2 rfl]
    rfl
theorem zeroH_fits : zeroH.Fits := by constructor <;> (simp only [zeroH]; omega)
theorem small_raw {s : Sm} (z : Sm0 s) (f : s.fmt = 6) (p : s.pn ≤ 12) : ({ s with ctx := 0 } : Sm).h.Fits ∧ smB { s with ctx := 0 } = true := by
  obtain ⟨z1, z2, z3, z4, z5, z6, z7, z8, z9⟩ := z.z
  refine ⟨by show s.h.Fits; rw [z6]; exact zeroH_fits, ok_to ⟨(show (0 : Int) ≤ 0 ∧ (0 : Int) ≤ 15 by decide), z.fmt, Nat.le_trans p (by decide), .inr (.inr ⟨f, ⟨rfl, z1, z2, z3, z4, z5, z9, z6, z7, z8⟩⟩)⟩⟩
theorem small_low {s : Sm} (z : Sm0 s) (p : s.pn ≤ 12) (k u n t m i c : Int) (f : s.fmt ≤ 3) (hk : k = 1 ∨ k = 2) (hn : 0 ≤ n ∧ n ≤ smNumM s.fmt k) (ht : 0 ≤ t ∧ t ≤ smTimeM s.fmt k) (hm : 0 ≤ m ∧ m ≤ smMarkM s.fmt k) (hi : 0 ≤ i ∧ i ≤ smIdM s.fmt k) (hc : 0 ≤ c ∧ c ≤ smChkM s.fmt) (hu : 0 ≤ u ∧ u ≤ 65535) :
    (⟨s.ctx, s.fmt, n, t, m, i, u, { s.h with kind := k }, s.ds, s.df, c, s.pa, s.pn, s.pc, s.pz⟩ : Sm).h.Fits ∧ smB (⟨s.ctx, s.fmt, n, t, m, i, u, { s.h with kind := k }, s.ds, s.df, c, s.pa, s.pn, s.pc, s.pz⟩ : Sm) = true := by
  obtain ⟨_, _, _, _, _, z6, z7, z8, _⟩ := z.z
  refine ⟨?_, ok_to ⟨z.ctx, z.fmt, Nat.le_trans p (by decide), .inl ⟨f, hk, ⟨hn, ht, hm, hi, hc, hu, ?_, z7, z8⟩⟩⟩⟩
  · show ({ s.h with kind := k } : Hd).Fits
    rw [z6]
    rcases hk with rfl | rfl <;> constructor <;> (dsimp only; omega)
  · show ({ s.h with kind := k } : Hd) = kindH k
    rw [z6]; rfl
theorem small_big {s : Sm} (z : Sm0 s) (p : s.pn ≤ 12) (h : Hd) (x y c : Int) (f : s.fmt = 4 ∨ s.fmt = 5) (hv : h.Valid) (hs : s.fmt = 4 → statH h = kindH h.kind) (hd : DynS h.kind x y) (hc : 0 ≤ c ∧ c ≤ 255) :
    (⟨s.ctx, s.fmt, s.num, s.time, s.mark, s.id, s.udp, h, x, y, c, s.pa, s.pn, s.pc, s.pz⟩ : Sm).h.Fits ∧ smB (⟨s.ctx, s.fmt, s.num, s.time, s.mark, s.id, s.udp, h, x, y, c, s.pa, s.pn, s.pc, s.pz⟩ : Sm) = true := by
  obtain ⟨z1, z2, z3, z4, z5, z6, z7, z8, z9⟩ := z.z
  refine ⟨?_, ok_to ⟨z.ctx, z.fmt, Nat.le_trans p (by decide), .inr (.inl ⟨f, ⟨hv, ⟨hd.s0, hd.s1⟩, ?_, fun k => hd.udp (show h.kind ≠ 2 by rw [show h.kind = 1 from k]; decide), hc, z1, z2, z3, z4, z5, hs⟩⟩)⟩⟩
  · show h.Fits
    have a := hv.1
    rcases hv.2 with ⟨k, b⟩ | ⟨k, b⟩
    · exact ⟨by omega, by have := a.tos0; have := a.tos1; omega, by have := a.id0; have := a.id1; omega, by have := a.fixed0; have := a.fixed1; omega, by have := a.ttl0; have := a.ttl1; omega, by have := a.frm0; have := a.frm1; omega, by have := a.to0; have := a.to1; omega, by have := a.fromPort0; have := a.fromPort1; omega, by have := a.toPort0; have := a.toPort1; omega, by have := a.check0; have := a.check1; omega, by rw [b.marker]; decide, by rw [b.type]; decide, by rw [b.seq]; decide, by rw [b.time]; decide, by rw [b.source]; decide⟩
    · exact ⟨by omega, by have := a.tos0; have := a.tos1; omega, by have := a.id0; have := a.id1; omega, by have := a.fixed0; have := a.fixed1; omega, by have := a.ttl0; have := a.ttl1; omega, by have := a.frm0; have := a.frm1; omega, by have := a.to0; have := a.to1; omega, by have := a.fromPort0; have := a.fromPort1; omega, by have := a.toPort0; have := a.toPort1; omega, by have := a.check0; have := a.check1; omega, by have := b.marker0; have := b.marker1; omega, by have := b.type0; have := b.type1; omega, by have := b.seq0; have := b.seq1; omega, by have := b.time0; have := b.time1; omega, by have := b.source0; have := b.source1; omega⟩
  · show 0 ≤ y ∧ y ≤ 1
    rcases hd.fol with h | h <;> omega
/-- a valid header without its static fields -/
def noStat (h : Hd) : Hd := ⟨h.kind, h.tos, h.id, h.fixed, h.ttl, 0, 0, 0, 0, h.check, h.marker, h.type, h.seq, h.time, 0⟩
theorem noStat_valid {h : Hd} (v : h.Valid) : (noStat h).Valid ∧ statH (noStat h) = kindH (noStat h).kind := by
  obtain ⟨a, b⟩ := v
  refine ⟨⟨⟨a.tos0, a.tos1, a.ttl0, a.ttl1, a.id0, a.id1, by simp [noStat], by simp [noStat], by simp [noStat], by simp [noStat], a.check0, a.check1, a.fixed0, a.fixed1, by simp [noStat], by simp [noStat], by simp [noStat], by simp [noStat]⟩, ?_⟩, rfl⟩
  rcases b with ⟨k, b⟩ | ⟨k, b⟩
  · exact .inl ⟨k, ⟨b.marker, b.type, b.seq, b.time, rfl⟩⟩
  · exact .inr ⟨k, ⟨b.marker0, b.marker1, b.type0, b.type1, b.seq0, b.seq1, b.time0, b.time1, by simp [noStat], by simp [noStat]⟩⟩
def ctxRow : List Int := [0, 0, 1, 15]
theorem ctxRow_bd (i : Nat) : 0 ≤ ctxRow.getD i 0 ∧ ctxRow.getD i 0 ≤ 15 := by
  by_cases hi : i < ctxRow.length
  · have : ∀ z ∈ ctxRow, 0 ≤ z ∧ z ≤ 15 := by decide
    exact this _ (getD_mem hi)
  · rw [List.getD_eq_getElem?_getD, List.getElem?_eq_none (by omega)]; decide
theorem ctxRow_at (i : Nat) (hi : i < 4) : (#[.int .i64 0, .int .i64 0, .int .i64 1, .int .i64 15] : Array Value)[i]? = some (.int .i64 (ctxRow.getD i 0)) := by
  obtain rfl | rfl | rfl | rfl : i = 0 ∨ i = 1 ∨ i = 2 ∨ i = 3 := by omega
  all_goals rfl
end Go.Proofs.YtkhcfmnebflgkaaDoor
