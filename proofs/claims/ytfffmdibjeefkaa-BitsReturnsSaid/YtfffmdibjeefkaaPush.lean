/-
  One number put behind a slice of the call's own, and what else stays as it was.
-/
import Derived.Test.YtfffmdibjeefkaaMk
import Derived.Maps.AppendAt
namespace Go.Proofs.Ytfffmdibjeefkaa
open Go Go.RowKit

theorem Mk.keepRow {k : IntKind} {E B : Nat} {w w' : World} {v : Value} {n : Nat} {zs : List Int} {row : Option Nat} (h : Mk k E B w v n zs) (hb : w.grownBy w' row) (hg : v.ownBlock = none ∨ v.ownBlock ≠ row) : Mk k E B w' v n zs :=
  ⟨h.own.kept hb hg, h.reach, h.wf⟩
theorem Sl.keepRow {k : IntKind} {w w' : World} {a : Option Addr} {n : Nat} {zs : List Int} {row : Option Nat} (h : Sl k w a n zs) (hb : w.grownBy w' row) (ha : ∀ x, a = some x → 0 < n → some x.block ≠ row) : Sl k w' a n zs := by
  refine ⟨h.len, h.reach, h.wf, fun i hi => ?_⟩
  obtain ⟨b, off, rfl, hc⟩ := h.cell i hi
  exact ⟨b, off, rfl, hb.cell hc (ha ⟨b, off, none⟩ rfl (by omega))⟩
theorem Below.of_row {w w' : World} {row : Option Nat} {B : Nat} (hb : w.grownBy w' row) (hB : ∀ g, row = some g → B ≤ g) (hs : B ≤ w.heap.size) : Below B w w' := (Below.refl _ _).grown hb hs hB
theorem Mk.own_ge {k : IntKind} {E B : Nat} {w : World} {v : Value} {n : Nat} {zs : List Int} (h : Mk k E B w v n zs) : ∀ g, v.ownBlock = some g → B ≤ g ∧ g < w.heap.size := fun g hg => by
  rcases h.shape with ⟨rfl, _⟩ | ⟨g', cap, rfl, hb, hl⟩
  · simp [Value.ownBlock] at hg
  · simp [Value.ownBlock] at hg; omega

/-- 'append(out, x)', one number behind a slice that is nil or the call's own: the new block is the old one, or a new one -/
theorem wpList_push_mk {P : Program} {w0 : World} {ops : Array Oper} {rest : List Oper} {o : Oper} {a : Act} {Q : Exit → Act → World → Prop}
    (hgd : o.guard = none) (s x : Operand) (t : TypeId) (ho : o.op = .call { callee := .builtin .append, args := #[s, x], argTypes := #[t, t] })
    (k : IntKind) (E B bytes : Nat) (ht : P.underlying t = some (.slice E)) (hinfo : (P.info? E).map (fun i => (i.zero, i.size, i.bytes)) = some (some (.int k 0), 1, bytes))
    (v : Value) (n : Nat) (xs : List Int) (hs : a.eval s = v) (hm : Mk k E B w0 v n xs) (z : Int) (T : TypeId) (hz : (Lit.int k z).wf = true) (H : Nat) (hH : H = w0.heap.size)
    (hx : a.eval x = .slice (some ⟨H, 0, none⟩) 1 1) (hr : n + 1 ≤ 140737488351232) (hbytes : (n + 1) * bytes ≤ 140737488355328) (hbase : B ≤ w0.heap.size)
    (h : ∀ g cap w', Mk k E B w' (.slice (some ⟨g, 0, none⟩) (n + 1) cap) (n + 1) (xs ++ [z]) → w0.grownBy w' v.ownBlock → (v.ownBlock = some g ∨ g = w0.heap.size + 1) → wpList P ops Q rest (a.put o.dst (.slice (some ⟨g, 0, none⟩) (n + 1) cap)) w') :
    wpList P ops Q (o :: rest) a (w0.alloc (.cells #[.int k z] T)) := by
  obtain ⟨i, hi, hz0, hz1, hz2⟩ := info_parts hinfo
  subst hH
  refine wpList_append_own_at _ hgd s x t ho B E i (.int k 0) 1 bytes ht hi hz0 hz1 hz2 rfl (by decide) v n _ hs (hm.own.alloc _) ⟨w0.heap.size, 0, none⟩ 1 1 [.int k z] hx rfl ?_ (ints_oneCell k [z]) (by unfold maxLen; omega) hbytes (by simp; omega) ?_
  · exact cell_one_new w0 (.int k z) T
  · intro v' w' h1 h2 _ h4
    have hmk : Mk k E B w' v' (n + 1) (xs ++ [z]) := ⟨by rw [List.map_append]; exact h1, hr, fun y hy => by
      rcases List.mem_append.1 hy with hy | hy
      · exact hm.wf y hy
      · rw [List.mem_singleton.1 hy]; exact hz⟩
    rcases hmk.shape with ⟨_, e⟩ | ⟨g, cap, rfl, _, _⟩
    · omega
    · refine h g cap w' hmk ?_ ?_
      · exact ⟨h2.os, h2.tape, h2.output, Nat.le_trans (by simp) h2.size, fun j hj hn => (h2.block j (by simp; omega) hn).trans (heap_alloc_old w0 _ hj)⟩
      · rcases h4 with h4 | h4
        · exact .inl h4.symm
        · right; simpa [Value.ownBlock] using h4

end Go.Proofs.Ytfffmdibjeefkaa
