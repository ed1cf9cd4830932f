/-
  append of whatever slice, none of its elements included, as a step of a region that draws its order.
-/
import Derived.Test.YtfeeifemfhhijaaPush
namespace Go.Proofs.Ytfeeifemfhhijaa
open Go Go.RowKit

theorem wp_slice_mk {P : Program} {w : World} {o : Oper} {a : Act} {K : Act → World → Prop} {Q : Exit → Act → World → Prop} (s x : Operand) (t : TypeId) (ho : o.op = .call { callee := .builtin .append, args := #[s, x], argTypes := #[t, t] })
    (k : IntKind) (E B bytes : Nat) (ht : P.underlying t = some (.slice E)) (hinfo : (P.info? E).map (fun i => (i.zero, i.size, i.bytes)) = some (some (.int k 0), 1, bytes))
    (v : Value) (n : Nat) (xs : List Int) (hs : a.eval s = v) (hm : Mk k E B w v n xs)
    (ad : Option Addr) (m c : Nat) (zs : List Int) (had : ∃ b off, ad = some ⟨b, off, none⟩) (hx : a.eval x = .slice ad m c) (hsl : Sl k w ad m zs)
    (hr : n + m ≤ 140737488355328) (hbytes : (n + m) * bytes ≤ 140737488355328) (hbase : B ≤ w.heap.size)
    (h : ∀ ao cap w', Mk k E B w' (.slice ao (n + m) cap) (n + m) (xs ++ zs) → w.grownBy w' v.ownBlock → (∀ g, (Value.slice ao (n + m) cap).ownBlock = some g → v.ownBlock = some g ∨ w.heap.size ≤ g) → (ao = none → n + m = 0 ∧ cap = 0) → K (a.put o.dst (.slice ao (n + m) cap)) w') :
    Oper.wp P o a w K Q := by
  obtain ⟨b, off, rfl⟩ := had
  obtain ⟨i, hi, hz0, hz1, hz2⟩ := info_parts hinfo
  have hwf : ∀ z ∈ xs ++ zs, (Lit.int k z).wf = true := fun z hz => by
    rcases List.mem_append.1 hz with hz | hz
    · exact hm.wf z hz
    · exact hsl.wf z hz
  have fin : ∀ v' w', w'.ownsRow B E 1 v' (n + m) ((xs ++ zs).map (Value.int k)) → w.grownBy w' v.ownBlock → (v'.ownBlock = v.ownBlock ∨ v'.ownBlock = some w.heap.size) → K (a.put o.dst v') w' := by
    intro v' w' h1 h2 h3
    have hmk : Mk k E B w' v' (n + m) (xs ++ zs) := ⟨h1, hr, hwf⟩
    obtain ⟨ao, cap, rfl, hn⟩ := hmk.slice
    refine h ao cap w' hmk h2 (fun g hg => ?_) hn
    rcases h3 with h3 | h3
    · exact .inl (by rw [← h3]; exact hg)
    · rw [h3] at hg; cases hg; exact .inr (Nat.le_refl _)
  have hnews : ∀ j u, (zs.map (Value.int k))[j]? = some u → w.cell? ((⟨b, off, none⟩ : Addr).add j) = some u := by
    intro j u hj
    have hjl : j < m := by
      rcases Nat.lt_or_ge j m with h | h
      · exact h
      · rw [List.getElem?_eq_none (by rw [List.length_map, hsl.len]; exact h)] at hj; cases hj
    rw [getD_map_int k zs j (by rw [hsl.len]; exact hjl)] at hj
    simp only [Option.some.injEq] at hj
    subst hj
    have hplain : (⟨b, off, none⟩ : Addr).add j = ⟨b, off + j, none⟩ := by unfold Addr.add; split <;> simp_all
    rw [hplain]; exact hsl.at hjl
  obtain ⟨v', w', hrun, h2, h3, _, h5⟩ := run_append_own_at (P := P) w B t o.type E i (.int k 0) 1 bytes ht hi hz0 hz1 hz2 rfl (by decide) v n _ hm.own ⟨b, off, none⟩ m c (zs.map (Value.int k)) (by rw [List.length_map, hsl.len, Nat.mul_one]) hnews (ints_oneCell _ _) (by unfold maxLen; omega) hbytes hbase
  rw [← List.map_append] at h2
  unfold Oper.wp execOp
  simp only [ho, resolve, invoke, builtin, Sem.run_bind, Sem.run_pure, Result.andThen_ok, List.map_toArray, List.map_cons, List.map_nil, hs, hx, hrun]
  exact fin v' w' h2 h3 h5

theorem step_slice_mk {P : Program} {w : World} {ops : Array Oper} {o : Oper} {a : Act} {K : Act → World → Prop} {Q : Exit → Act → World → Prop} {F : Prop} (hgd : o.guard = none) (s x : Operand) (t : TypeId) (ho : o.op = .call { callee := .builtin .append, args := #[s, x], argTypes := #[t, t] })
    (k : IntKind) (E B bytes : Nat) (ht : P.underlying t = some (.slice E)) (hinfo : (P.info? E).map (fun i => (i.zero, i.size, i.bytes)) = some (some (.int k 0), 1, bytes))
    (v : Value) (n : Nat) (xs : List Int) (hs : a.eval s = v) (hm : Mk k E B w v n xs)
    (ad : Option Addr) (m c : Nat) (zs : List Int) (had : ∃ b off, ad = some ⟨b, off, none⟩) (hx : a.eval x = .slice ad m c) (hsl : Sl k w ad m zs)
    (hr : n + m ≤ 140737488355328) (hbytes : (n + m) * bytes ≤ 140737488355328) (hbase : B ≤ w.heap.size)
    (h : ∀ ao cap w', Mk k E B w' (.slice ao (n + m) cap) (n + m) (xs ++ zs) → w.grownBy w' v.ownBlock → (∀ g, (Value.slice ao (n + m) cap).ownBlock = some g → v.ownBlock = some g ∨ w.heap.size ≤ g) → (ao = none → n + m = 0 ∧ cap = 0) → K (a.put o.dst (.slice ao (n + m) cap)) w') :
    if Region.wanted o (yielded ops a.tmps) = true then Oper.wp P o a w K Q else F := by
  have hw : Region.wanted o (yielded ops a.tmps) = true := by simp [Region.wanted, hgd]
  rw [if_pos hw]
  exact wp_slice_mk s x t ho k E B bytes ht hinfo v n xs hs hm ad m c zs had hx hsl hr hbytes hbase h
end Go.Proofs.Ytfeeifemfhhijaa
