/-
  One number put behind a slice of the call's own, and what else stays as it was.
-/
import Derived.Test.YtlpnpecohndpbaaMk
import Derived.Maps.AppendAt
import Derived.Deep.AppendLies
namespace Go.Proofs.Ytlpnpecohndpbaa
open Go Go.RowKit

theorem Mk.keepRow {k : IntKind} {E B : Nat} {w w' : World} {v : Value} {n : Nat} {zs : List Int} {row : Option Nat} (h : Mk k E B w v n zs) (hb : w.grownBy w' row) (hg : v.ownBlock = none ∨ v.ownBlock ≠ row) : Mk k E B w' v n zs :=
  ⟨h.own.kept hb hg, h.reach, h.wf⟩
theorem Sl.keepRow {k : IntKind} {w w' : World} {a : Option Addr} {n : Nat} {zs : List Int} {row : Option Nat} (h : Sl k w a n zs) (hb : w.grownBy w' row) (ha : ∀ x, a = some x → 0 < n → some x.block ≠ row) : Sl k w' a n zs := by
  refine ⟨h.len, h.reach, h.wf, fun i hi => ?_⟩
  obtain ⟨b, off, rfl, hc⟩ := h.cell i hi
  exact ⟨b, off, rfl, hb.cell hc (ha ⟨b, off, none⟩ rfl (by omega))⟩
theorem Below.of_row {w w' : World} {row : Option Nat} {B : Nat} (hb : w.grownBy w' row) (hB : ∀ g, row = some g → B ≤ g) (hs : B ≤ w.heap.size) : Below B w w' := (Below.refl _ _).grown hb hs hB
theorem Mk.own_ge {k : IntKind} {E B : Nat} {w : World} {v : Value} {n : Nat} {zs : List Int} (h : Mk k E B w v n zs) : ∀ g, v.ownBlock = some g → B ≤ g ∧ g < w.heap.size := fun g hg => by
  rcases h.shape with ⟨rfl, _⟩ | ⟨g', cap, rfl, hb, hl⟩
  · simp [Value.ownBlock] at hg
  · simp [Value.ownBlock] at hg; omega

/-- 'append(out, x)', one number behind a slice that is nil or the call's own: the new block is the old one, or a new one -/
theorem wpList_push_mk {P : Program} {w0 : World} {ops : Array Oper} {rest : List Oper} {o : Oper} {a : Act} {Q : Exit → Act → World → Prop}
    (hgd : o.guard = none) (s x : Operand) (t : TypeId) (ho : o.op = .call { callee := .builtin .append, args := #[s, x], argTypes := #[t, t] })
    (k : IntKind) (E B bytes : Nat) (ht : P.underlying t = some (.slice E)) (hinfo : (P.info? E).map (fun i => (i.zero, i.size, i.bytes)) = some (some (.int k 0), 1, bytes))
    (v : Value) (n : Nat) (xs : List Int) (hs : a.eval s = v) (hm : Mk k E B w0 v n xs) (z : Int) (T : TypeId) (hz : (Lit.int k z).wf = true) (H : Nat) (hH : H = w0.heap.size)
    (hx : a.eval x = .slice (some ⟨H, 0, none⟩) 1 1) (hr : n + 1 ≤ 140737488355328) (hbytes : (n + 1) * bytes ≤ 140737488355328) (hbase : B ≤ w0.heap.size)
    (h : ∀ g cap w', Mk k E B w' (.slice (some ⟨g, 0, none⟩) (n + 1) cap) (n + 1) (xs ++ [z]) → w0.grownBy w' v.ownBlock → (v.ownBlock = some g ∨ g = w0.heap.size + 1) → wpList P ops Q rest (a.put o.dst (.slice (some ⟨g, 0, none⟩) (n + 1) cap)) w') :
    wpList P ops Q (o :: rest) a (w0.alloc (.cells #[.int k z] T)) := by
  obtain ⟨i, hi, hz0, hz1, hz2⟩ := info_parts hinfo
  subst hH
  refine wpList_append_own_at _ hgd s x t ho B E i (.int k 0) 1 bytes ht hi hz0 hz1 hz2 rfl (by decide) v n _ hs (hm.own.alloc _) ⟨w0.heap.size, 0, none⟩ 1 1 [.int k z] hx rfl ?_ (ints_oneCell k [z]) (by unfold maxLen; omega) hbytes (by simp; omega) ?_
  · exact cell_one_new w0 (.int k z) T
  · intro v' w' h1 h2 _ h4
    have hmk : Mk k E B w' v' (n + 1) (xs ++ [z]) := ⟨by rw [List.map_append]; exact h1, hr, fun y hy => by
      rcases List.mem_append.1 hy with hy | hy
      · exact hm.wf y hy
      · rw [List.mem_singleton.1 hy]; exact hz⟩
    rcases hmk.shape with ⟨_, e⟩ | ⟨g, cap, rfl, _, _⟩
    · omega
    · refine h g cap w' hmk ?_ ?_
      · exact ⟨h2.os, h2.tape, h2.output, Nat.le_trans (by simp) h2.size, fun j hj hn => (h2.block j (by simp; omega) hn).trans (heap_alloc_old w0 _ hj)⟩
      · rcases h4 with h4 | h4
        · exact .inl h4.symm
        · right; simpa [Value.ownBlock] using h4

/-- 'append(out, x)' at any world: what 'x' reads as is one number -/
theorem wp_push_mk {P : Program} {w1 : World} {o : Oper} {a : Act} {K : Act → World → Prop} {Q : Exit → Act → World → Prop} (s x : Operand) (t : TypeId) (ho : o.op = .call { callee := .builtin .append, args := #[s, x], argTypes := #[t, t] })
    (k : IntKind) (E B bytes : Nat) (ht : P.underlying t = some (.slice E)) (hinfo : (P.info? E).map (fun i => (i.zero, i.size, i.bytes)) = some (some (.int k 0), 1, bytes))
    (v : Value) (n : Nat) (xs : List Int) (hs : a.eval s = v) (hm : Mk k E B w1 v n xs) (z : Int) (b off c : Nat) (hsl : Sl k w1 (some ⟨b, off, none⟩) 1 [z])
    (hx : a.eval x = .slice (some ⟨b, off, none⟩) 1 c) (hr : n + 1 ≤ 140737488355328) (hbytes : (n + 1) * bytes ≤ 140737488355328) (hbase : B ≤ w1.heap.size)
    (h : ∀ g cap w', Mk k E B w' (.slice (some ⟨g, 0, none⟩) (n + 1) cap) (n + 1) (xs ++ [z]) → w1.grownBy w' v.ownBlock → (v.ownBlock = some g ∨ g = w1.heap.size) → K (a.put o.dst (.slice (some ⟨g, 0, none⟩) (n + 1) cap)) w') :
    Oper.wp P o a w1 K Q := by
  obtain ⟨i, hi, hz0, hz1, hz2⟩ := info_parts hinfo
  refine wp_append_lies w1 s x t ho B E i (.int k 0) 1 bytes ht hi hz0 hz1 hz2 rfl (by decide) v n _ hs hm.own ⟨b, off, none⟩ 1 c [.int k z] hx rfl ?_ (ints_oneCell k [z]) (by omega) (by unfold maxLen; omega) hbytes hbase w1.heap.size rfl ?_
  · intro j u hj
    obtain rfl : j = 0 := by
      rcases Nat.eq_zero_or_pos j with h0 | h0
      · exact h0
      · rw [List.getElem?_eq_none (by simpa using (show 1 ≤ j by omega))] at hj; cases hj
    have hu : u = .int k z := by simpa using hj.symm
    have hc := hsl.at (i := 0) (by omega)
    have hplain : (⟨b, off, none⟩ : Addr).add 0 = ⟨b, off + 0, none⟩ := by unfold Addr.add; split <;> simp_all
    rw [hplain, hu]; exact hc
  · intro g cap w' h1 h2 h3 _
    refine h g cap w' ⟨by rw [List.map_append]; exact h1, hr, fun y hy => ?_⟩ h2 h3
    rcases List.mem_append.1 hy with hy | hy
    · exact hm.wf y hy
    · rw [List.mem_singleton.1 hy]; exact hsl.wf z (by simp)
theorem wpList_push_at {P : Program} {w1 : World} {ops : Array Oper} {rest : List Oper} {o : Oper} {a : Act} {Q : Exit → Act → World → Prop} (hgd : o.guard = none) (s x : Operand) (t : TypeId) (ho : o.op = .call { callee := .builtin .append, args := #[s, x], argTypes := #[t, t] })
    (k : IntKind) (E B bytes : Nat) (ht : P.underlying t = some (.slice E)) (hinfo : (P.info? E).map (fun i => (i.zero, i.size, i.bytes)) = some (some (.int k 0), 1, bytes))
    (v : Value) (n : Nat) (xs : List Int) (hs : a.eval s = v) (hm : Mk k E B w1 v n xs) (z : Int) (b off c : Nat) (hsl : Sl k w1 (some ⟨b, off, none⟩) 1 [z])
    (hx : a.eval x = .slice (some ⟨b, off, none⟩) 1 c) (hr : n + 1 ≤ 140737488355328) (hbytes : (n + 1) * bytes ≤ 140737488355328) (hbase : B ≤ w1.heap.size)
    (h : ∀ g cap w', Mk k E B w' (.slice (some ⟨g, 0, none⟩) (n + 1) cap) (n + 1) (xs ++ [z]) → w1.grownBy w' v.ownBlock → (v.ownBlock = some g ∨ g = w1.heap.size) → wpList P ops Q rest (a.put o.dst (.slice (some ⟨g, 0, none⟩) (n + 1) cap)) w') :
    wpList P ops Q (o :: rest) a w1 :=
  wpList_plain hgd fun _ hK => wp_push_mk s x t ho k E B bytes ht hinfo v n xs hs hm z b off c hsl hx hr hbytes hbase fun g cap w' h1 h2 h3 => hK _ _ (h g cap w' h1 h2 h3)
/-- .. at a step of a region that draws its order -/
theorem step_push_mk {P : Program} {w1 : World} {ops : Array Oper} {o : Oper} {a : Act} {K : Act → World → Prop} {Q : Exit → Act → World → Prop} {F : Prop} (hgd : o.guard = none) (s x : Operand) (t : TypeId) (ho : o.op = .call { callee := .builtin .append, args := #[s, x], argTypes := #[t, t] })
    (k : IntKind) (E B bytes : Nat) (ht : P.underlying t = some (.slice E)) (hinfo : (P.info? E).map (fun i => (i.zero, i.size, i.bytes)) = some (some (.int k 0), 1, bytes))
    (v : Value) (n : Nat) (xs : List Int) (hs : a.eval s = v) (hm : Mk k E B w1 v n xs) (z : Int) (b off c : Nat) (hsl : Sl k w1 (some ⟨b, off, none⟩) 1 [z])
    (hx : a.eval x = .slice (some ⟨b, off, none⟩) 1 c) (hr : n + 1 ≤ 140737488355328) (hbytes : (n + 1) * bytes ≤ 140737488355328) (hbase : B ≤ w1.heap.size)
    (h : ∀ g cap w', Mk k E B w' (.slice (some ⟨g, 0, none⟩) (n + 1) cap) (n + 1) (xs ++ [z]) → w1.grownBy w' v.ownBlock → (v.ownBlock = some g ∨ g = w1.heap.size) → K (a.put o.dst (.slice (some ⟨g, 0, none⟩) (n + 1) cap)) w') :
    if Region.wanted o (yielded ops a.tmps) = true then Oper.wp P o a w1 K Q else F := by
  have hw : Region.wanted o (yielded ops a.tmps) = true := by simp [Region.wanted, hgd]
  rw [if_pos hw]
  exact wp_push_mk s x t ho k E B bytes ht hinfo v n xs hs hm z b off c hsl hx hr hbytes hbase h

/-- a beginning of a slice -/
theorem Sl.take {k : IntKind} {w : World} {a : Option Addr} {n m : Nat} {zs : List Int} (h : Sl k w a n zs) (hm : m ≤ n) : Sl k w a m (zs.take m) := by
  have hl := h.len
  have hr := h.reach
  refine ⟨by rw [List.length_take]; omega, by omega, fun z hz => h.wf z (List.mem_of_mem_take hz), fun i hi => ?_⟩
  obtain ⟨b, off, e, hc⟩ := h.cell i (by omega)
  refine ⟨b, off, e, ?_⟩
  rw [hc, List.getD_eq_getElem?_getD, List.getD_eq_getElem?_getD, List.getElem?_take, if_pos hi]
/-- 'append(out, src...)' as wpList_append_mk has it, and where the new slice lies -/
theorem wpList_append_at {P : Program} {w : World} {ops : Array Oper} {rest : List Oper} {o : Oper} {a : Act} {Q : Exit → Act → World → Prop}
    (hgd : o.guard = none) (s x : Operand) (t : TypeId) (ho : o.op = .call { callee := .builtin .append, args := #[s, x], argTypes := #[t, t] })
    (k : IntKind) (E B bytes : Nat) (ht : P.underlying t = some (.slice E)) (hinfo : (P.info? E).map (fun i => (i.zero, i.size, i.bytes)) = some (some (.int k 0), 1, bytes))
    (v : Value) (n : Nat) (xs : List Int) (hs : a.eval s = v) (hm : Mk k E B w v n xs)
    (src : Option Addr) (m c : Nat) (zs : List Int) (hx : a.eval x = .slice src m c) (hsl : Sl k w src m zs) (hc0 : src = none → c = 0)
    (hr : n + m ≤ 140737488355328) (hbytes : (n + m) * bytes ≤ 140737488355328) (hbase : B ≤ w.heap.size)
    (h : ∀ ao cap w', Mk k E B w' (.slice ao (n + m) cap) (n + m) (xs ++ zs) → w.grownBy w' v.ownBlock → (∀ g, (Value.slice ao (n + m) cap).ownBlock = some g → v.ownBlock = some g ∨ w.heap.size ≤ g) → (ao = none → n + m = 0 ∧ cap = 0) → wpList P ops Q rest (a.put o.dst (.slice ao (n + m) cap)) w') :
    wpList P ops Q (o :: rest) a w := by
  obtain ⟨i, hi, hz0, hz1, hz2⟩ := info_parts hinfo
  have hwf : ∀ z ∈ xs ++ zs, (Lit.int k z).wf = true := fun z hz => by
    rcases List.mem_append.1 hz with hz | hz
    · exact hm.wf z hz
    · exact hsl.wf z hz
  have fin : ∀ v' w', w'.ownsRow B E 1 v' (n + m) ((xs ++ zs).map (Value.int k)) → w.grownBy w' v.ownBlock → (v'.ownBlock = v.ownBlock ∨ v'.ownBlock = some w.heap.size) → wpList P ops Q rest (a.put o.dst v') w' := by
    intro v' w' h1 h2 h3
    have hmk : Mk k E B w' v' (n + m) (xs ++ zs) := ⟨h1, hr, hwf⟩
    obtain ⟨ao, cap, rfl, hn⟩ := hmk.slice
    refine h ao cap w' hmk h2 (fun g hg => ?_) hn
    rcases h3 with h3 | h3
    · exact .inl (by rw [← h3]; exact hg)
    · rw [h3] at hg; cases hg; exact .inr (Nat.le_refl _)
  cases src with
  | none =>
    have hm0 : m = 0 := by
      rcases Nat.eq_zero_or_pos m with h0 | h0
      · exact h0
      · obtain ⟨b, off, e⟩ := hsl.head h0; cases e
    subst hm0
    have hz : zs = [] := List.eq_nil_of_length_eq_zero hsl.len
    subst hz
    obtain rfl := hc0 rfl
    refine wpList_append_own_none hgd s x t ho B E i 1 ht hi v n _ hs hm.own hx ?_
    have := fin v w (by simpa using hm.own) (World.grownBy.refl _ _) (.inl rfl)
    simpa using this
  | some ad =>
    refine wpList_append_own_at w hgd s x t ho B E i (.int k 0) 1 bytes ht hi hz0 hz1 hz2 rfl (by decide) v n _ hs hm.own ad m c (zs.map (Value.int k)) hx (by rw [List.length_map, hsl.len, Nat.mul_one]) ?_ (ints_oneCell _ _) (by unfold maxLen; omega) hbytes hbase ?_
    · intro j u hj
      have hjl : j < m := by
        rcases Nat.lt_or_ge j m with h | h
        · exact h
        · rw [List.getElem?_eq_none (by rw [List.length_map, hsl.len]; exact h)] at hj; cases hj
      rw [getD_map_int k zs j (by rw [hsl.len]; exact hjl)] at hj
      simp only [Option.some.injEq] at hj
      subst hj
      obtain ⟨b, off, e, hc⟩ := hsl.cell j hjl
      simp only [Option.some.injEq] at e
      subst e
      have hplain : (⟨b, off, none⟩ : Addr).add j = ⟨b, off + j, none⟩ := by unfold Addr.add; split <;> simp_all
      rw [hplain]; exact hc
    · intro v' w' h1 h2 _ h4
      rw [← List.map_append] at h1
      exact fin v' w' h1 h2 h4

/-- Two slices of the call's own, in different blocks. -/
structure Two (k1 k2 : IntKind) (E1 E2 B : Nat) (w : World) (v1 : Value) (n1 : Nat) (xs : List Int) (v2 : Value) (n2 : Nat) (ys : List Int) : Prop where
  m1 : Mk k1 E1 B w v1 n1 xs
  m2 : Mk k2 E2 B w v2 n2 ys
  ap : ∀ g, v1.ownBlock = some g → v2.ownBlock ≠ some g
theorem Two.swap {k1 k2 : IntKind} {E1 E2 B : Nat} {w : World} {v1 v2 : Value} {n1 n2 : Nat} {xs ys : List Int} (h : Two k1 k2 E1 E2 B w v1 n1 xs v2 n2 ys) : Two k2 k1 E2 E1 B w v2 n2 ys v1 n1 xs :=
  ⟨h.m2, h.m1, fun g e1 e2 => h.ap g e2 e1⟩
theorem Two.push1 {k1 k2 : IntKind} {E1 E2 B : Nat} {w w1 : World} {v1 v2 v : Value} {n1 n2 n : Nat} {xs ys zs : List Int} (h : Two k1 k2 E1 E2 B w v1 n1 xs v2 n2 ys) (hm : Mk k1 E1 B w1 v n zs) (hg : w.grownBy w1 v1.ownBlock) (hf : ∀ g, v.ownBlock = some g → v1.ownBlock = some g ∨ w.heap.size ≤ g) :
    Two k1 k2 E1 E2 B w1 v n zs v2 n2 ys := by
  refine ⟨hm, h.m2.keepRow hg ?_, fun g e1 e2 => ?_⟩
  · cases hv : v2.ownBlock with
    | none => exact .inl rfl
    | some y => exact .inr fun e => h.ap y e.symm hv
  · rcases hf g e1 with h1 | h1
    · exact h.ap g h1 e2
    · have := (h.m2.own_ge g e2).2; omega
theorem Two.push2 {k1 k2 : IntKind} {E1 E2 B : Nat} {w w1 : World} {v1 v2 v : Value} {n1 n2 n : Nat} {xs ys zs : List Int} (h : Two k1 k2 E1 E2 B w v1 n1 xs v2 n2 ys) (hm : Mk k2 E2 B w1 v n zs) (hg : w.grownBy w1 v2.ownBlock) (hf : ∀ g, v.ownBlock = some g → v2.ownBlock = some g ∨ w.heap.size ≤ g) :
    Two k1 k2 E1 E2 B w1 v1 n1 xs v n zs := (h.swap.push1 hm hg hf).swap
theorem Two.alloc {k1 k2 : IntKind} {E1 E2 B : Nat} {w : World} {v1 v2 : Value} {n1 n2 : Nat} {xs ys : List Int} (h : Two k1 k2 E1 E2 B w v1 n1 xs v2 n2 ys) (o : Obj) : Two k1 k2 E1 E2 B (w.alloc o) v1 n1 xs v2 n2 ys := ⟨h.m1.alloc o, h.m2.alloc o, h.ap⟩
theorem Two.keep {k1 k2 : IntKind} {E1 E2 B : Nat} {w w1 : World} {v1 v2 : Value} {n1 n2 : Nat} {xs ys : List Int} (h : Two k1 k2 E1 E2 B w v1 n1 xs v2 n2 ys) (hb : Below w.heap.size w w1) : Two k1 k2 E1 E2 B w1 v1 n1 xs v2 n2 ys := ⟨h.m1.keep hb, h.m2.keep hb, h.ap⟩

theorem getD_take_lt {zs : List Int} {m i : Nat} (h : i < m) : (zs.take m).getD i 0 = zs.getD i 0 := by
  rw [List.getD_eq_getElem?_getD, List.getD_eq_getElem?_getD, List.getElem?_take, if_pos h]
theorem byte_wf {z : Int} (h0 : 0 ≤ z) (h1 : z ≤ 255) : (Lit.int .u8 z).wf = true := by
  simpa [Lit.wf, IntKind.min, IntKind.max, IntKind.signed, IntKind.bits] using And.intro h0 h1
theorem setCell_but (w : World) (g i : Nat) (u : Value) : w.grownBy (w.setCell ⟨g, i, none⟩ u) (some g) :=
  ⟨rfl, rfl, rfl, by simp, fun k _ hk => Below.heap_setCell w ⟨g, i, none⟩ u k (by simpa using hk)⟩
theorem grown_then {a b c : World} {row row' : Option Nat} (h : a.grownBy b row) (k : b.grownBy c row') (hr : ∀ j, row' = some j → row = some j ∨ a.heap.size ≤ j) : a.grownBy c row :=
  ⟨k.os.trans h.os, k.tape.trans h.tape, k.output.trans h.output, Nat.le_trans h.size k.size, fun i hi hn => (k.block i (Nat.lt_of_lt_of_le hi h.size) (fun e => by
    rcases hr i e.symm with e' | e'
    · exact hn e'.symm
    · omega)).trans (h.block i hi hn)⟩

/-- a slice of the call's own has grown to another: where that lies and what the world keeps -/
structure Grew (k : IntKind) (E B : Nat) (w w' : World) (v v' : Value) (n : Nat) (zs : List Int) : Prop where
  row : Mk k E B w' v' n zs
  grown : w.grownBy w' v.ownBlock
  lies : ∀ g, v'.ownBlock = some g → v.ownBlock = some g ∨ w.heap.size ≤ g
theorem Grew.refl {k : IntKind} {E B : Nat} {w : World} {v : Value} {n : Nat} {zs : List Int} (h : Mk k E B w v n zs) : Grew k E B w w v v n zs := ⟨h, World.grownBy.refl _ _, fun _ hg => .inl hg⟩
theorem Grew.trans {k : IntKind} {E B : Nat} {w w' w2 : World} {v v' v2 : Value} {n n' : Nat} {zs zs' : List Int} (h : Grew k E B w w' v v' n zs) (q : Grew k E B w' w2 v' v2 n' zs') : Grew k E B w w2 v v2 n' zs' :=
  ⟨q.row, grown_then h.grown q.grown h.lies, fun g hg => by
    rcases q.lies g hg with e | e
    · exact h.lies g e
    · exact .inr (Nat.le_trans h.grown.size e)⟩
theorem Grew.below {k : IntKind} {E B : Nat} {w w' : World} {v v' : Value} {n n0 : Nat} {zs zs0 : List Int} (h : Grew k E B w w' v v' n zs) (hm : Mk k E B w v n0 zs0) (hB : B ≤ w.heap.size) : Below B w w' :=
  Below.of_row h.grown (fun g hg => (hm.own_ge g hg).1) hB


/-- a guarded operation that is wanted walks as one with no guard: ahead of wpList_append_at and its like -/
theorem wpList_unguard {P : Program} {ops : Array Oper} {rest : List Oper} {o : Oper} {a : Act} {w : World} {Q : Exit → Act → World → Prop} (hw : Region.wanted o (yielded ops a.tmps) = true) (h : wpList P ops Q ({ o with guard := none } :: rest) a w) : wpList P ops Q (o :: rest) a w := by
  unfold wpList at h ⊢
  rw [if_pos hw]
  rw [if_pos (by simp [Region.wanted])] at h
  exact h

/-- 'append(out, src...)' at any world, src with an element at least: as a step of a region that draws its order -/
theorem wp_some_mk {P : Program} {w1 : World} {o : Oper} {a : Act} {K : Act → World → Prop} {Q : Exit → Act → World → Prop} (s x : Operand) (t : TypeId) (ho : o.op = .call { callee := .builtin .append, args := #[s, x], argTypes := #[t, t] })
    (k : IntKind) (E B bytes : Nat) (ht : P.underlying t = some (.slice E)) (hinfo : (P.info? E).map (fun i => (i.zero, i.size, i.bytes)) = some (some (.int k 0), 1, bytes))
    (v : Value) (n : Nat) (xs : List Int) (hs : a.eval s = v) (hm : Mk k E B w1 v n xs) (b off m c : Nat) (zs : List Int) (hsl : Sl k w1 (some ⟨b, off, none⟩) m zs) (hm0 : 0 < m)
    (hx : a.eval x = .slice (some ⟨b, off, none⟩) m c) (hr : n + m ≤ 140737488355328) (hbytes : (n + m) * bytes ≤ 140737488355328) (hbase : B ≤ w1.heap.size)
    (h : ∀ g cap w', Mk k E B w' (.slice (some ⟨g, 0, none⟩) (n + m) cap) (n + m) (xs ++ zs) → w1.grownBy w' v.ownBlock → (v.ownBlock = some g ∨ g = w1.heap.size) → K (a.put o.dst (.slice (some ⟨g, 0, none⟩) (n + m) cap)) w') :
    Oper.wp P o a w1 K Q := by
  obtain ⟨i, hi, hz0, hz1, hz2⟩ := info_parts hinfo
  have hlen := hsl.len
  refine wp_append_lies w1 s x t ho B E i (.int k 0) 1 bytes ht hi hz0 hz1 hz2 rfl (by decide) v n _ hs hm.own ⟨b, off, none⟩ m c (zs.map (Value.int k)) hx (by simp [hlen]) ?_ (ints_oneCell k zs) hm0 (by unfold maxLen; omega) hbytes hbase w1.heap.size rfl ?_
  · intro j u hj
    have hj2 : j < zs.length := by
      rcases Nat.lt_or_ge j zs.length with h0 | h0
      · exact h0
      · rw [List.getElem?_eq_none (by simpa using h0)] at hj; cases hj
    rw [getD_map_int k zs j hj2] at hj
    have hu : u = .int k (zs.getD j 0) := by simpa using hj.symm
    have hc := hsl.at (i := j) (by omega)
    have hplain : (⟨b, off, none⟩ : Addr).add j = ⟨b, off + j, none⟩ := by unfold Addr.add; split <;> simp_all
    rw [hplain, hu]; exact hc
  · intro g cap w' h1 h2 h3 _
    refine h g cap w' ⟨by rw [List.map_append]; exact h1, hr, fun y hy => ?_⟩ h2 h3
    rcases List.mem_append.1 hy with hy | hy
    · exact hm.wf y hy
    · exact hsl.wf y hy
theorem step_some_mk {P : Program} {w1 : World} {ops : Array Oper} {o : Oper} {a : Act} {K : Act → World → Prop} {Q : Exit → Act → World → Prop} {F : Prop} (hgd : o.guard = none) (s x : Operand) (t : TypeId) (ho : o.op = .call { callee := .builtin .append, args := #[s, x], argTypes := #[t, t] })
    (k : IntKind) (E B bytes : Nat) (ht : P.underlying t = some (.slice E)) (hinfo : (P.info? E).map (fun i => (i.zero, i.size, i.bytes)) = some (some (.int k 0), 1, bytes))
    (v : Value) (n : Nat) (xs : List Int) (hs : a.eval s = v) (hm : Mk k E B w1 v n xs) (b off m c : Nat) (zs : List Int) (hsl : Sl k w1 (some ⟨b, off, none⟩) m zs) (hm0 : 0 < m)
    (hx : a.eval x = .slice (some ⟨b, off, none⟩) m c) (hr : n + m ≤ 140737488355328) (hbytes : (n + m) * bytes ≤ 140737488355328) (hbase : B ≤ w1.heap.size)
    (h : ∀ g cap w', Mk k E B w' (.slice (some ⟨g, 0, none⟩) (n + m) cap) (n + m) (xs ++ zs) → w1.grownBy w' v.ownBlock → (v.ownBlock = some g ∨ g = w1.heap.size) → K (a.put o.dst (.slice (some ⟨g, 0, none⟩) (n + m) cap)) w') :
    if Region.wanted o (yielded ops a.tmps) = true then Oper.wp P o a w1 K Q else F := by
  have hw : Region.wanted o (yielded ops a.tmps) = true := by simp [Region.wanted, hgd]
  rw [if_pos hw]
  exact wp_some_mk s x t ho k E B bytes ht hinfo v n xs hs hm b off m c zs hsl hm0 hx hr hbytes hbase h

/-- a part of a slice -/
theorem Sl.sub {k : IntKind} {w : World} {b off n : Nat} {zs : List Int} (h : Sl k w (some ⟨b, off, none⟩) n zs) (lo m : Nat) (hm : lo + m ≤ n) : Sl k w (some ⟨b, off + lo, none⟩) m ((zs.drop lo).take m) := by
  have hl := h.len
  have hr := h.reach
  refine ⟨by rw [List.length_take, List.length_drop]; omega, by omega, fun z hz => h.wf z (List.mem_of_mem_drop (List.mem_of_mem_take hz)), fun i hi => ?_⟩
  refine ⟨b, off + lo, rfl, ?_⟩
  have hc := h.at (i := lo + i) (by omega)
  rw [show off + lo + i = off + (lo + i) by omega, hc, List.getD_eq_getElem?_getD, List.getD_eq_getElem?_getD, List.getElem?_take, if_pos hi, List.getElem?_drop]
end Go.Proofs.Ytlpnpecohndpbaa
