/-
  A header in memory, loaded and stored whole in one step of the walk.
-/
import Derived.Test.YtfeeifemfhhijaaHdBox
import Derived.Test.YtfeeifemfhhijaaProg
namespace Go.Proofs.Ytfeeifemfhhijaa
open Go Go.RowKit

/-- block b holds the cells C of a header, none of them frozen -/
structure Bk (W : World) (b : Nat) (C : Array Value) : Prop where
  blk : W.heap[b]? = some (.cells C 23 (0, 0))
  size : C.size = 15
theorem Bk.lt {W : World} {b : Nat} {C : Array Value} (h : Bk W b C) : b < W.heap.size := lt_of_block h.blk
theorem Bk.keep {W W' : World} {b B : Nat} {C : Array Value} (h : Bk W b C) (hb : Below B W W') (hB : b < B) : Bk W' b C := ⟨(hb.block b hB).trans h.blk, h.size⟩
theorem Bk.drew {W : World} {b : Nat} {C : Array Value} (h : Bk W b C) : Bk W.drew b C := ⟨h.blk, h.size⟩
theorem Bk.alloc {W : World} {b : Nat} {C : Array Value} (h : Bk W b C) (o : Obj) : Bk (W.alloc o) b C := ⟨(heap_alloc_old W o h.lt).trans h.blk, h.size⟩
theorem Bk.new (W : World) (C : Array Value) (hC : C.size = 15) : Bk (W.alloc (.cells C 23)) W.heap.size C := ⟨heap_alloc_new W _, hC⟩
theorem Bk.keepRow {W W' : World} {b : Nat} {C : Array Value} {row : Option Nat} (h : Bk W b C) (hg : W.grownBy W' row) (hr : some b ≠ row) : Bk W' b C := ⟨(hg.block b h.lt hr).trans h.blk, h.size⟩

/-- the world in which a block was stored whole -/
def putBlk (W : World) (b : Nat) (C : Array Value) : World := (List.range 15).foldl (fun w i => w.setCell ⟨b, i, none⟩ (C.getD i (.bool false))) W

theorem load_bk (W : World) (b : Nat) (C : Array Value) (h : Bk W b C) : Sem.run Try.prog (Instr.loadAt 23 (.pointer (some ⟨b, 0, none⟩))) W = .ok (.agg C) W := by
  obtain ⟨l⟩ := C
  match l, h with
  | [c0, c1, c2, c3, c4, c5, c6, c7, c8, c9, c10, c11, c12, c13, c14], h =>
    have hc := cells_of h.blk
    go_simp
theorem store_bk (W : World) (b : Nat) (D : Array Value) (a0 a1 a2 a3 a4 a5 a6 a7 a8 a9 a10 a11 a12 a13 a14 : Int) (h : Bk W b D) : Sem.run Try.prog (Instr.storeAt 23 (.pointer (some ⟨b, 0, none⟩)) (.agg #[.int .i64 a0, .int .i64 a1, .int .i64 a2, .int .i64 a3, .int .i64 a4, .int .i64 a5, .int .i64 a6, .int .i64 a7, .int .i64 a8, .int .i64 a9, .int .i64 a10, .int .i64 a11, .int .i64 a12, .int .i64 a13, .int .i64 a14])) W = .ok () (putBlk W b #[.int .i64 a0, .int .i64 a1, .int .i64 a2, .int .i64 a3, .int .i64 a4, .int .i64 a5, .int .i64 a6, .int .i64 a7, .int .i64 a8, .int .i64 a9, .int .i64 a10, .int .i64 a11, .int .i64 a12, .int .i64 a13, .int .i64 a14]) := by
  obtain ⟨m⟩ := D
  match m, h with
  | [d0, d1, d2, d3, d4, d5, d6, d7, d8, d9, d10, d11, d12, d13, d14], h =>
    have hc := cells_of h.blk
    have hf := frozen_of h.blk
    go_simp
    rfl
theorem putBlk_grown (W : World) (b : Nat) (C : Array Value) : W.grownBy (putBlk W b C) (some b) := by
  simp only [putBlk, List.range, List.range.loop, List.foldl_cons, List.foldl_nil]
  iterate 15 refine grown_self ?_ _ _
  exact World.grownBy.refl _ _
theorem Bk.put {W : World} {b : Nat} {D : Array Value} (h : Bk W b D) (C : Array Value) (hC : C.size = 15) : Bk (putBlk W b C) b C := by
  obtain ⟨m⟩ := D
  obtain ⟨l⟩ := C
  match m, h, l, hC with
  | [d0, d1, d2, d3, d4, d5, d6, d7, d8, d9, d10, d11, d12, d13, d14], h, [c0, c1, c2, c3, c4, c5, c6, c7, c8, c9, c10, c11, c12, c13, c14], _ =>
    refine ⟨?_, rfl⟩
    have K := blk_set (blk_set (blk_set (blk_set (blk_set (blk_set (blk_set (blk_set (blk_set (blk_set (blk_set (blk_set (blk_set (blk_set (blk_set (h.blk) 0 c0) 1 c1) 2 c2) 3 c3) 4 c4) 5 c5) 6 c6) 7 c7) 8 c8) 9 c9) 10 c10) 11 c11) 12 c12) 13 c13) 14 c14
    simp only [List.setIfInBounds_toArray, List.set_cons_succ, List.set_cons_zero] at K
    exact K
theorem Below.put {W W' : World} {B b : Nat} (h : Below B W W') (hb : B ≤ b) (hs : B ≤ W'.heap.size) (C : Array Value) : Below B W (putBlk W' b C) := h.trans (Below.of_row (putBlk_grown W' b C) (fun g e => by cases e; exact hb) hs)
/-- the same as rules of the walk: that a block holds a header, and which -/
def IsBk (W : World) (b : Nat) : Prop := ∃ C, Bk W b C
def blkCells (W : World) (b : Nat) : Array Value := match W.heap[b]? with | some (.cells C _ _) => C | _ => #[]
theorem Bk.both {W : World} {b : Nat} {C : Array Value} (h : Bk W b C) : IsBk W b ∧ blkCells W b = C := ⟨⟨C, h⟩, by unfold blkCells; rw [h.blk]⟩
def blkOf : Value → Nat
  | .pointer (some a) => a.block
  | _ => 0
def IsPtr (W : World) (v : Value) : Prop := ∃ b, v = .pointer (some ⟨b, 0, none⟩) ∧ IsBk W b
def IsHdr (v : Value) : Prop := ∃ a0 a1 a2 a3 a4 a5 a6 a7 a8 a9 a10 a11 a12 a13 a14 : Int, v = .agg #[.int .i64 a0, .int .i64 a1, .int .i64 a2, .int .i64 a3, .int .i64 a4, .int .i64 a5, .int .i64 a6, .int .i64 a7, .int .i64 a8, .int .i64 a9, .int .i64 a10, .int .i64 a11, .int .i64 a12, .int .i64 a13, .int .i64 a14]
def hdrCells : Value → Array Value
  | .agg C => C
  | _ => #[]
theorem blkOf_ptr (b o : Nat) : blkOf (.pointer (some ⟨b, o, none⟩)) = b := rfl
theorem hdrCells_agg (C : Array Value) : hdrCells (.agg C) = C := rfl
theorem isPtr_ptr (W : World) (b : Nat) : IsPtr W (.pointer (some ⟨b, 0, none⟩)) = IsBk W b := by
  unfold IsPtr
  apply propext
  constructor
  · rintro ⟨b', e, h⟩
    simp at e; subst e; exact h
  · exact fun h => ⟨b, rfl, h⟩
theorem isHdr_agg (a0 a1 a2 a3 a4 a5 a6 a7 a8 a9 a10 a11 a12 a13 a14 : Int) : IsHdr (.agg #[.int .i64 a0, .int .i64 a1, .int .i64 a2, .int .i64 a3, .int .i64 a4, .int .i64 a5, .int .i64 a6, .int .i64 a7, .int .i64 a8, .int .i64 a9, .int .i64 a10, .int .i64 a11, .int .i64 a12, .int .i64 a13, .int .i64 a14]) = True := eq_true ⟨a0, a1, a2, a3, a4, a5, a6, a7, a8, a9, a10, a11, a12, a13, a14, rfl⟩
theorem load_blk (W : World) (v : Value) (h : IsPtr W v) : Sem.run Try.prog (Instr.loadAt 23 v) W = .ok (.agg (blkCells W (blkOf v))) W := by
  obtain ⟨b, rfl, C, h⟩ := h
  rw [load_bk W b C h, blkOf_ptr, h.both.2]
theorem store_blk (W : World) (v c : Value) (h : IsPtr W v) (hc : IsHdr c) : Sem.run Try.prog (Instr.storeAt 23 v c) W = .ok () (putBlk W (blkOf v) (hdrCells c)) := by
  obtain ⟨b, rfl, C, h⟩ := h
  obtain ⟨a0, a1, a2, a3, a4, a5, a6, a7, a8, a9, a10, a11, a12, a13, a14, rfl⟩ := hc
  exact store_bk W b C a0 a1 a2 a3 a4 a5 a6 a7 a8 a9 a10 a11 a12 a13 a14 h
theorem exec_load_hd (W : World) (r : Operand → Value) (dst : Option Nat) (x : Operand) (ty : TypeId) (pos : String) (aft : Array Edge) (g : Option (Nat × Bool)) (h : IsPtr W (r x)) :
    Sem.run Try.prog (execOp r (Oper.mk dst (.load 23 x) ty pos aft g)) W = .ok (.value (.agg (blkCells W (blkOf (r x))))) W := by
  have q := load_blk W (r x) h
  simp only [execOp, Sem.run_bind, q, Result.andThen_ok, Sem.run_pure]
theorem exec_store_hd (W : World) (r : Operand → Value) (dst : Option Nat) (x y : Operand) (ty : TypeId) (pos : String) (aft : Array Edge) (g : Option (Nat × Bool)) (h : IsPtr W (r x)) (hc : IsHdr (r y)) :
    Sem.run Try.prog (execOp r (Oper.mk dst (.store 23 x y) ty pos aft g)) W = .ok .skip (putBlk W (blkOf (r x)) (hdrCells (r y))) := by
  have q := store_blk W (r x) (r y) h hc
  simp only [execOp, Sem.run_bind, q, Result.andThen_ok, Sem.run_pure]
end Go.Proofs.Ytfeeifemfhhijaa
