/-
  Slices that the call itself makes: what they read as; append, make, a store, copies and strings of them, as laws for the walk.
-/
import Derived.Test.YtlpnpecohndpbaaBase
import Derived.Laws.AppendOwnNone
namespace Go.Proofs.Ytlpnpecohndpbaa
open Go Go.RowKit

/-- The slice value v, of n elements of the type E (one cell each), was made by the call (in a block from B on) and reads as the numbers zs of the kind k. -/
structure Mk (k : IntKind) (E B : Nat) (w : World) (v : Value) (n : Nat) (zs : List Int) : Prop where
  own : w.ownsRow B E 1 v n (zs.map (Value.int k))
  reach : n ≤ 140737488355328
  wf : ∀ z ∈ zs, (Lit.int k z).wf = true

theorem Mk.len {k : IntKind} {E B : Nat} {w : World} {v : Value} {n : Nat} {zs : List Int} (h : Mk k E B w v n zs) : zs.length = n := by
  have := h.own.1; simpa using this

theorem Mk.shape {k : IntKind} {E B : Nat} {w : World} {v : Value} {n : Nat} {zs : List Int} (h : Mk k E B w v n zs) :
    (v = .slice none 0 0 ∧ n = 0) ∨ ∃ g cap, v = .slice (some ⟨g, 0, none⟩) n cap ∧ B ≤ g ∧ g < w.heap.size := by
  rcases h.own.2 with h0 | ⟨g, cap, cur, hv, hb, hg, _⟩
  · exact .inl h0
  · exact .inr ⟨g, cap, hv, hb, (Array.getElem?_eq_some_iff.1 hg).1⟩

theorem Mk.slice {k : IntKind} {E B : Nat} {w : World} {v : Value} {n : Nat} {zs : List Int} (h : Mk k E B w v n zs) : ∃ a cap, v = .slice a n cap ∧ (a = none → n = 0 ∧ cap = 0) := by
  rcases h.shape with ⟨rfl, rfl⟩ | ⟨g, cap, rfl, _⟩
  · exact ⟨_, _, rfl, fun _ => ⟨rfl, rfl⟩⟩
  · exact ⟨_, _, rfl, fun h => by cases h⟩

theorem getD_map_int (k : IntKind) (zs : List Int) (i : Nat) (h : i < zs.length) : (zs.map (Value.int k))[i]? = some (.int k (zs.getD i 0)) := by
  rw [List.getElem?_map, List.getElem?_eq_getElem h, List.getD_eq_getElem?_getD, List.getElem?_eq_getElem h]; rfl

theorem Mk.at {k : IntKind} {E B : Nat} {w : World} {g n cap : Nat} {zs : List Int} (h : Mk k E B w (.slice (some ⟨g, 0, none⟩) n cap) n zs) {j : Nat} (hj : j < n) : w.cell? ⟨g, j, none⟩ = some (.int k (zs.getD j 0)) := by
  rw [h.own.cellAt j (by omega)]; exact getD_map_int k zs j (by rw [h.len]; exact hj)

theorem Mk.free {k : IntKind} {E B : Nat} {w : World} {g n cap : Nat} {zs : List Int} (h : Mk k E B w (.slice (some ⟨g, 0, none⟩) n cap) n zs) (j : Nat) : w.frozen? ⟨g, j, none⟩ = false := h.own.frozenAt j

theorem Mk.block {k : IntKind} {E B : Nat} {w : World} {g n cap : Nat} {zs : List Int} (h : Mk k E B w (.slice (some ⟨g, 0, none⟩) n cap) n zs) : B ≤ g ∧ g < w.heap.size := by
  rcases h.shape with ⟨e, _⟩ | ⟨g', cap', e, r⟩
  · simp at e
  · simp at e; obtain ⟨rfl, _⟩ := e; exact r

theorem Mk.sl {k : IntKind} {E B : Nat} {w : World} {a : Option Addr} {n cap : Nat} {zs : List Int} (h : Mk k E B w (.slice a n cap) n zs) : Sl k w a n zs := by
  refine ⟨h.len, h.reach, h.wf, fun i hi => ?_⟩
  rcases h.shape with ⟨_, h0⟩ | ⟨g, cap', e, r⟩
  · omega
  · simp only [Value.slice.injEq] at e
    obtain ⟨rfl, _, _⟩ := e
    exact ⟨g, 0, rfl, by rw [Nat.zero_add]; exact h.at hi⟩

theorem Mk.nil (k : IntKind) (E B : Nat) (w : World) : Mk k E B w (.slice none 0 0) 0 [] := ⟨World.ownsRow_nil _ _ _ _, by omega, by simp⟩

theorem Mk.mono {k : IntKind} {E B B' : Nat} {w : World} {v : Value} {n : Nat} {zs : List Int} (h : Mk k E B w v n zs) (hB : B' ≤ B) : Mk k E B' w v n zs := by
  refine ⟨⟨h.own.1, ?_⟩, h.reach, h.wf⟩
  rcases h.own.2 with h0 | ⟨g, cap, cur, hv, hb, r⟩
  · exact .inl h0
  · exact .inr ⟨g, cap, cur, hv, by omega, r⟩

/-- what a later world, in which this block has not turned, leaves of it -/
theorem Mk.keepB {k : IntKind} {E B C : Nat} {w w' : World} {v : Value} {n : Nat} {zs : List Int} (h : Mk k E B w v n zs) (hb : Below C w w') (hC : ∀ g, v.ownBlock = some g → g < C) : Mk k E B w' v n zs := by
  refine ⟨⟨h.own.1, ?_⟩, h.reach, h.wf⟩
  rcases h.own.2 with h0 | ⟨g, cap, cur, hv, hbg, hg, r⟩
  · exact .inl h0
  · refine .inr ⟨g, cap, cur, hv, hbg, ?_, r⟩
    rw [hb.block g (hC g (by rw [hv]; rfl))]; exact hg
theorem Mk.keep {k : IntKind} {E B : Nat} {w w' : World} {v : Value} {n : Nat} {zs : List Int} (h : Mk k E B w v n zs) (hb : Below w.heap.size w w') : Mk k E B w' v n zs := by
  refine h.keepB hb fun g hg => ?_
  rcases h.shape with ⟨rfl, _⟩ | ⟨g', cap, rfl, _, r⟩
  · simp [Value.ownBlock] at hg
  · simp [Value.ownBlock] at hg; omega
theorem Mk.alloc {k : IntKind} {E B : Nat} {w : World} {v : Value} {n : Nat} {zs : List Int} (h : Mk k E B w v n zs) (o : Obj) : Mk k E B (w.alloc o) v n zs := ⟨h.own.alloc o, h.reach, h.wf⟩
theorem Mk.drew {k : IntKind} {E B : Nat} {w : World} {v : Value} {n : Nat} {zs : List Int} (h : Mk k E B w v n zs) : Mk k E B w.drew v n zs := ⟨h.own.drew, h.reach, h.wf⟩
theorem Sl.alloc {k : IntKind} {w : World} {a : Option Addr} {n : Nat} {zs : List Int} (h : Sl k w a n zs) (o : Obj) : Sl k (w.alloc o) a n zs := h.keep ((Below.refl _ _).alloc (Nat.le_refl _) o)
theorem Sl.drew {k : IntKind} {w : World} {a : Option Addr} {n : Nat} {zs : List Int} (h : Sl k w a n zs) : Sl k w.drew a n zs := h.keep (Below.refl _ _).drew
/-- a store into a block of the call's own -/
theorem Sl.set {k : IntKind} {w : World} {a : Option Addr} {n : Nat} {zs : List Int} (h : Sl k w a n zs) (p : Addr) (u : Value) (hp : ∀ x, a = some x → x.block ≠ p.block) : Sl k (w.setCell p u) a n zs := by
  refine ⟨h.len, h.reach, h.wf, fun i hi => ?_⟩
  obtain ⟨b, off, rfl, hc⟩ := h.cell i hi
  exact ⟨b, off, rfl, by rw [World.cell?_of_block (Below.heap_setCell w p u b (hp _ rfl))]; exact hc⟩

theorem Mk.stored {k : IntKind} {E B : Nat} {w : World} {g n cap : Nat} {zs : List Int} (h : Mk k E B w (.slice (some ⟨g, 0, none⟩) n cap) n zs) (j : Nat) (u : Int) (hu : (Lit.int k u).wf = true) :
    Mk k E B (w.setCell ⟨g, j, none⟩ (.int k u)) (.slice (some ⟨g, 0, none⟩) n cap) n (zs.set j u) := by
  refine ⟨?_, h.reach, fun z hz => ?_⟩
  · have := (h.own.stored j (.int k u)).1
    rwa [← List.map_set] at this
  · rcases List.mem_or_eq_of_mem_set hz with hz | rfl
    · exact h.wf z hz
    · exact hu

theorem length_replicate_map (k : IntKind) (n : Nat) : (madeCells (Value.int k 0).cells (n * 1)).toList = (List.replicate n (0 : Int)).map (Value.int k) := by
  have := toList_madeCells_one (Value.int k 0) (n * 1)
  rw [List.map_replicate]
  simpa [Value.cells] using this

/-- 'make([]T, n)', T of integers -/
theorem wpList_make_mk {P : Program} {w : World} {ops : Array Oper} {rest : List Oper} {o : Oper} {a : Act} {Q : Exit → Act → World → Prop}
    (hg : o.guard = none) (l c : Operand) (t : TypeId) (hop : o.op = Op.makeSlice t l c)
    (k : IntKind) (E B : Nat) (bytes : Nat) (h1 : P.underlying t = some (.slice E)) (hinfo : (P.info? E).map (fun i => (i.zero, i.size, i.bytes)) = some (some (.int k 0), 1, bytes))
    (kl kc : IntKind) (L C : Int) (n : Nat) (hl : a.eval l = .int kl L) (hc : a.eval c = .int kc C) (hL : L = (n : Int)) (hC : C = (n : Int)) (hr : n ≤ 140737488355328) (b2 : bytes * n ≤ 281474976710656) (b4 : B ≤ w.heap.size) (hwf : (Lit.int k 0).wf = true)
    (hK : ∀ w', Mk k E B w' (.slice (some ⟨w.heap.size, 0, none⟩) n n) n (List.replicate n 0) → Below w.heap.size w w' → wpList P ops Q rest (a.put o.dst (.slice (some ⟨w.heap.size, 0, none⟩) n n)) w') :
    wpList P ops Q (o :: rest) a w := by
  obtain ⟨i, hi, hz0, hz1, hz2⟩ := info_parts hinfo
  refine wpList_make_full w hg l c t hop B E i (.int k 0) 1 h1 hi hz0 hz1 kl kc L C n hl hc hL hC (by rw [hz2]; exact b2) (by unfold maxLen; omega) b4 fun w' h2 h3 => hK w' ⟨by rw [length_replicate_map] at h2; exact h2, hr, fun z hz => ?_⟩ ?_
  · have := List.eq_of_mem_replicate hz; subst this; exact hwf
  · exact (Below.refl _ _).grown h3 (Nat.le_refl _) (fun _ h => by cases h)

/-- 'append(out, src...)', out nil or the call's own, src whatever that reads as numbers -/
theorem wpList_append_mk {P : Program} {w : World} {ops : Array Oper} {rest : List Oper} {o : Oper} {a : Act} {Q : Exit → Act → World → Prop}
    (hgd : o.guard = none) (s x : Operand) (t : TypeId) (ho : o.op = .call { callee := .builtin .append, args := #[s, x], argTypes := #[t, t] })
    (k : IntKind) (E B bytes : Nat) (ht : P.underlying t = some (.slice E)) (hinfo : (P.info? E).map (fun i => (i.zero, i.size, i.bytes)) = some (some (.int k 0), 1, bytes))
    (v : Value) (n : Nat) (xs : List Int) (hs : a.eval s = v) (hm : Mk k E B w v n xs)
    (src : Option Addr) (m c : Nat) (zs : List Int) (hx : a.eval x = .slice src m c) (hsl : Sl k w src m zs) (hc0 : src = none → c = 0)
    (hr : n + m ≤ 140737488355328) (hbytes : (n + m) * bytes ≤ 140737488355328) (hbase : B ≤ w.heap.size)
    (h : ∀ ao cap w', Mk k E B w' (.slice ao (n + m) cap) (n + m) (xs ++ zs) → Below B w w' → (ao = none → n + m = 0 ∧ cap = 0) → wpList P ops Q rest (a.put o.dst (.slice ao (n + m) cap)) w') :
    wpList P ops Q (o :: rest) a w := by
  obtain ⟨i, hi, hz0, hz1, hz2⟩ := info_parts hinfo
  have hwf : ∀ z ∈ xs ++ zs, (Lit.int k z).wf = true := fun z hz => by
    rcases List.mem_append.1 hz with hz | hz
    · exact hm.wf z hz
    · exact hsl.wf z hz
  have fin : ∀ v' w', w'.ownsRow B E 1 v' (n + m) ((xs ++ zs).map (Value.int k)) → w.grownBy w' v.ownBlock → wpList P ops Q rest (a.put o.dst v') w' := by
    intro v' w' h1 h2
    have hmk : Mk k E B w' v' (n + m) (xs ++ zs) := ⟨h1, hr, hwf⟩
    obtain ⟨ao, cap, rfl, hn⟩ := hmk.slice
    refine h ao cap w' hmk ((Below.refl _ _).grown h2 hbase fun g hg => ?_) hn
    rcases hm.shape with ⟨rfl, _⟩ | ⟨g', cap', rfl, hb, _⟩
    · simp [Value.ownBlock] at hg
    · simp [Value.ownBlock] at hg; omega
  cases src with
  | none =>
    have hm0 : m = 0 := by
      rcases Nat.eq_zero_or_pos m with h0 | h0
      · exact h0
      · obtain ⟨b, off, e⟩ := hsl.head h0; cases e
    subst hm0
    have hz : zs = [] := List.eq_nil_of_length_eq_zero hsl.len
    subst hz
    obtain rfl := hc0 rfl
    refine wpList_append_own_none hgd s x t ho B E i 1 ht hi v n _ hs hm.own hx ?_
    have := fin v w (by simpa using hm.own) (World.grownBy.refl _ _)
    simpa using this
  | some ad =>
    refine wpList_append_own w hgd s x t ho B E i (.int k 0) 1 bytes ht hi hz0 hz1 hz2 rfl (by decide) v n _ hs hm.own ad m c (zs.map (Value.int k)) hx (by rw [List.length_map, hsl.len, Nat.mul_one]) ?_ (ints_oneCell _ _) (by unfold maxLen; omega) hbytes hbase ?_
    · intro j u hj
      have hjl : j < m := by
        rcases Nat.lt_or_ge j m with h | h
        · exact h
        · rw [List.getElem?_eq_none (by rw [List.length_map, hsl.len]; exact h)] at hj; cases hj
      rw [getD_map_int k zs j (by rw [hsl.len]; exact hjl)] at hj
      simp only [Option.some.injEq] at hj
      subst hj
      obtain ⟨b, off, e, hc⟩ := hsl.cell j hjl
      simp only [Option.some.injEq] at e
      subst e
      have hplain : (⟨b, off, none⟩ : Addr).add j = ⟨b, off + j, none⟩ := by unfold Addr.add; split <;> simp_all
      rw [hplain]; exact hc
    · intro v' w' h1 h2 _
      rw [← List.map_append] at h1
      exact fin v' w' h1 h2

/-- the source of 'append(out, x)': one new cell -/
theorem Sl.one (k : IntKind) (w : World) (z : Int) (t : TypeId) (hz : (Lit.int k z).wf = true) : Sl k (w.alloc (.cells #[.int k z] t)) (some ⟨w.heap.size, 0, none⟩) 1 [z] := by
  refine ⟨rfl, by omega, by simpa using hz, fun i hi => ⟨_, _, rfl, ?_⟩⟩
  obtain rfl : i = 0 := by omega
  exact cell_one_new w (.int k z) t 0 (.int k z) rfl

/-- a slice that a literal has built -/
theorem Sl.lit (k : IntKind) (w : World) (zs : List Int) (t : TypeId) (n B : Nat) (hB : B = w.heap.size) (hn : zs.length = n) (hr : n ≤ 140737488355328) (hz : ∀ z ∈ zs, (Lit.int k z).wf = true) : Sl k (w.alloc (.cells (zs.map (Value.int k)).toArray t)) (some ⟨B, 0, none⟩) n zs := by
  refine ⟨hn, hr, hz, fun i hi => ⟨_, _, rfl, ?_⟩⟩
  have h := World.cell?_alloc_at (w := w) (zs.map (Value.int k)).toArray t B i hB
  have h2 : ((zs.map (Value.int k)).toArray)[i]? = some (.int k (zs.getD i 0)) := by
    have := getD_map_int k zs i (by omega)
    simpa using this
  rw [Nat.zero_add, h, h2]

/-- the bytes of a string -/
theorem run_string_of {P : Program} {w : World} {a : Option Addr} {n : Nat} {zs : List Int} (h : Sl .u8 w a n zs) (cap : Nat) (src e dst : TypeId) (hs : P.underlying src = some (.slice e)) (he : P.underlying e = some (.int .u8)) (hd : P.underlying dst = some .string) :
    (convert src dst (.slice a n cap)).run P w = .ok (.string (strOfNums zs)) w := by
  cases a with
  | none =>
    have hn : n = 0 := by
      rcases Nat.eq_zero_or_pos n with h0 | h0
      · exact h0
      · obtain ⟨b, off, e⟩ := h.head h0; cases e
    subst hn
    obtain rfl : zs = [] := List.eq_nil_of_length_eq_zero h.len
    have := run_convert_bytes_nil (P := P) (w := w) src e hs he 0 cap dst hd
    rw [this]; rfl
  | some x =>
    rcases Nat.eq_zero_or_pos n with h0 | h0
    · subst h0
      obtain rfl : zs = [] := List.eq_nil_of_length_eq_zero h.len
      have hl := run_loadCells_list (P := P) w x [] (fun j v hj => by simp at hj)
      rw [run_convert_bytes_string w src dst e _ 0 cap hs he hd, run_bytesToString w x 0 cap [] (by simpa using hl)]
      rfl
    · obtain ⟨b, off, e1⟩ := h.head h0
      obtain rfl := Option.some.inj e1
      exact run_convert_bytes_arg (P := P) w src e hs he b off n cap zs h.len (fun i hi => h.at hi) dst hd

/-- a literal's row is the call's own -/
theorem Mk.lit (k : IntKind) (E B : Nat) (w : World) (zs : List Int) (n : Nat) (hB : B ≤ w.heap.size) (hn : zs.length = n) (hr : n ≤ 140737488355328) (hz : ∀ z ∈ zs, (Lit.int k z).wf = true) : Mk k E B (w.alloc (.cells (zs.map (Value.int k)).toArray E)) (.slice (some ⟨w.heap.size, 0, none⟩) n n) n zs := by
  refine ⟨?_, hr, hz⟩
  have h := World.ownsRow_lit (base := B) (e := E) (size := 1) w (zs.map (Value.int k)).toArray n hB (by unfold maxLen; omega) (by simp [hn])
  simpa using h

theorem Mk.head0 {k : IntKind} {E B : Nat} {w : World} {a : Option Addr} {n cap : Nat} {zs : List Int} (h : Mk k E B w (.slice a n cap) n zs) (hn : 0 < n) : ∃ g, a = some ⟨g, 0, none⟩ := by
  rcases h.shape with ⟨e, _⟩ | ⟨g', cap', e, _⟩
  · simp at e; omega
  · simp at e; exact ⟨g', e.1⟩
theorem Mk.le_cap {k : IntKind} {E B : Nat} {w : World} {a : Option Addr} {n cap : Nat} {zs : List Int} (h : Mk k E B w (.slice a n cap) n zs) : n ≤ cap := by
  obtain ⟨_, ⟨e, _⟩ | ⟨g, c, cur, e, _, _, hc, _⟩⟩ := h.own
  · simp at e; omega
  · simp at e; omega
end Go.Proofs.Ytlpnpecohndpbaa
