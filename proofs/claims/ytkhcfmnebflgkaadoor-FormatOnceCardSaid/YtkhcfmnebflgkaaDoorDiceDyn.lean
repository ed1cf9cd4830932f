/-
  Dynamic of the statements' own helpers: dynamic parameters.
-/
import Derived.Test.YtkhcfmnebflgkaaDoorJDice
import Derived.Test.YtkhcfmnebflgkaaDoorDiceHeader
import Derived.Deep.DeepCutAuto
import Derived.Deep.RegionLaw
namespace Go.Proofs.YtkhcfmnebflgkaaDoor
open Go Go.RowKit

/-- valid dynamic parameters, and zero ones unless the kind has them -/
structure DynS (k s f : Int) : Prop where
  s0 : 0 ≤ s
  s1 : s ≤ 65535
  fol : f = 0 ∨ f = 1
  udp : k ≠ 2 → s = 0 ∧ f = 0
def strides : List Int := [0, 1, 160, 65535, 3000]
theorem strides_bd (i : Nat) : 0 ≤ strides.getD i 0 ∧ strides.getD i 0 ≤ 65535 := by
  by_cases hi : i < strides.length
  · have : ∀ z ∈ strides, 0 ≤ z ∧ z ≤ 65535 := by decide
    exact this _ (getD_mem hi)
  · rw [List.getD_eq_getElem?_getD, List.getElem?_eq_none (by omega)]; decide
theorem strides_at (i : Nat) (hi : i < 5) : (#[.int .i64 0, .int .i64 1, .int .i64 160, .int .i64 65535, .int .i64 3000] : Array Value)[i]? = some (.int .i64 (strides.getD i 0)) := by
  obtain rfl | rfl | rfl | rfl | rfl : i = 0 ∨ i = 1 ∨ i = 2 ∨ i = 3 ∨ i = 4 := by omega
  all_goals rfl

theorem strides_get (i : Nat) (hi : i < 5) : ∀ h : i < ([.int .i64 0, .int .i64 1, .int .i64 160, .int .i64 65535, .int .i64 3000] : List Value).length, ([.int .i64 0, .int .i64 1, .int .i64 160, .int .i64 65535, .int .i64 3000] : List Value)[i]'h = .int .i64 (strides.getD i 0) := by
  intro h
  obtain rfl | rfl | rfl | rfl | rfl : i = 0 ∨ i = 1 ∨ i = 2 ∨ i = 3 ∨ i = 4 := by omega
  all_goals rfl
/-- where a walk through Dynamic stands -/
structure DSt (w : World) (g : Nat) (W : World) : Prop where
  z : ∃ s f : Int, W.heap[w.heap.size]? = some (.cells #[.int .i64 s, .int .i64 f] 25 (0, 0))
  d : DiceIn W g
  g : w.grownBy W (some g)
theorem DSt.alloc {w W : World} {g : Nat} (p : DSt w g W) (o : Obj) : DSt w g (W.alloc o) := by
  obtain ⟨⟨s, f, k⟩, d, q⟩ := p
  exact ⟨⟨s, f, (heap_alloc_old _ _ (lt_of_block k)).trans k⟩, d.alloc o, q.trans (World.grownBy_alloc W o (some g))⟩
theorem DSt.drew {w W : World} {g : Nat} (p : DSt w g W) : DSt w g W.drew := ⟨p.z, p.d.drew, ⟨p.g.os, p.g.tape, p.g.output, p.g.size, p.g.block⟩⟩
theorem DSt.next {w W W' : World} {g : Nat} (p : DSt w g W) (hlt : g < w.heap.size) (hd : DiceIn W' g) (hg : W.grownBy W' (some g)) : DSt w g W' := by
  obtain ⟨⟨s, f, k⟩, d, q⟩ := p
  exact ⟨⟨s, f, (hg.block _ (lt_of_block k) (by simp; omega)).trans k⟩, hd, q.trans hg⟩
theorem DSt.put {w W : World} {g : Nat} (p : DSt w g W) (hlt : g < w.heap.size) (u v : Int) : DSt w g ((W.setCell ⟨w.heap.size, 0, none⟩ (.int .i64 u)).setCell ⟨w.heap.size, 1, none⟩ (.int .i64 v)) := by
  obtain ⟨⟨s, f, k⟩, d, q⟩ := p
  have r := blk_set (blk_set k 0 (.int .i64 u)) 1 (.int .i64 v)
  simp only [List.setIfInBounds_toArray, List.set_cons_succ, List.set_cons_zero] at r
  exact ⟨⟨u, v, r⟩, (d.set hlt 0 _).set hlt 1 _, grown_set (grown_set q (Nat.le_refl _) 0 _) (Nat.le_refl _) 1 _⟩
theorem DSt.blk {w W : World} {g : Nat} (p : DSt w g W) (u v : Int) : ((W.setCell ⟨w.heap.size, 0, none⟩ (.int .i64 u)).setCell ⟨w.heap.size, 1, none⟩ (.int .i64 v)).heap[w.heap.size]? = some (.cells #[.int .i64 u, .int .i64 v] 25 (0, 0)) := by
  obtain ⟨⟨s, f, k⟩, d, q⟩ := p
  have r := blk_set (blk_set k 0 (.int .i64 u)) 1 (.int .i64 v)
  simpa only [List.setIfInBounds_toArray, List.set_cons_succ, List.set_cons_zero] using r
theorem DSt.ne {w W : World} {g : Nat} (p : DSt w g W) : some W.heap.size ≠ some g := fun e => by
  have := p.d.lt
  cases e; omega
/-- the row of strides in a new block -/
theorem row_at (W : World) (i : Nat) (hi : i < 5) : (W.alloc (.cells #[.int .i64 0, .int .i64 1, .int .i64 160, .int .i64 65535, .int .i64 3000] 3)).cell? ⟨W.heap.size, i, none⟩ = some (.int .i64 (strides.getD i 0)) :=
  (cells_of (heap_alloc_new W (.cells #[.int .i64 0, .int .i64 1, .int .i64 160, .int .i64 65535, .int .i64 3000] 3)) i).trans (strides_at i hi)

set_option maxRecDepth 100000 in
set_option maxHeartbeats 6400000 in
theorem dynamic_in (g : Nat) (k : Int) (w : World) (hd : DiceIn w g) :
    Calls Tryd.prog 48 #[.pointer (some ⟨g, 0, none⟩), .int .i64 k] w fun e w' => ∃ s f : Int, e = .returned (.agg #[.int .i64 s, .int .i64 f]) ∧ DynS k s f ∧ DiceIn w' g ∧ w.grownBy w' (some g) := by
  have hlt := hd.lt
  have D0 := Lib.hid (hd.alloc (.cells #[.int .i64 0, .int .i64 0] 25))
  have G0 := Lib.hid (World.grownBy_alloc w (.cells #[.int .i64 0, .int .i64 0] 25) (some g))
  have K0 := heap_alloc_new w (.cells #[.int .i64 0, .int .i64 0] 25)
  clear hd
  by_cases hk : k = 2
  · have KK : (k != 2) = false := by rw [hk]; rfl
    have Q := Lib.hid hk
    clear hk
    go_enter Tryd.func48, Tryd.ntmps48
    go_wp2_with fail
    have s0 : DSt w g (w.alloc (.cells #[.int .i64 0, .int .i64 0] 25)) := ⟨⟨0, 0, K0⟩, D0.out, G0.out⟩
    generalize w.alloc (.cells #[.int .i64 0, .int .i64 0] 25) = w0 at s0 ⊢
    clear D0 G0 K0
    replace s0 := Lib.hid s0
    go_region_law (first
      | (go_simp; go_at_call 26; ((with_reducible refine (next_in g 5 ((w0.alloc (.cells #[.int .i64 0, .int .i64 1, .int .i64 160, .int .i64 65535, .int .i64 3000] 3)).drew) (s0.out.alloc _).drew.d (by omega) (by omega)).mono ?_); rintro e w5 ⟨q, rfl, q0, q1, hd, hg⟩; obtain ⟨i, rfl⟩ := Int.eq_ofNat_of_zero_le q0; have hi : i < 5 := (by omega); have hI : (i : Int) < 5 := (by omega); have s5 := Lib.hid ((s0.out.alloc (.cells #[.int .i64 0, .int .i64 1, .int .i64 160, .int .i64 65535, .int .i64 3000] 3)).drew.next hlt hd hg); have c5 := hg.cell (show ((w0.alloc (.cells #[.int .i64 0, .int .i64 1, .int .i64 160, .int .i64 65535, .int .i64 3000] 3)).drew).cell? ⟨w0.heap.size, i, none⟩ = _ from row_at w0 i hi) s0.out.ne; have v5 := strides_bd i; clear hd hg; have fz := frozen_of s5.out.z.choose_spec.choose_spec; have cz := cells_of s5.out.z.choose_spec.choose_spec; generalize strides.getD i 0 = v at c5 v5))
      | (go_simp; go_at_call 26; ((with_reducible refine (next_in g 5 w0.drew s0.out.drew.d (by omega) (by omega)).mono ?_); rintro e w5 ⟨q, rfl, q0, q1, hd, hg⟩; obtain ⟨i, rfl⟩ := Int.eq_ofNat_of_zero_le q0; have hi : i < 5 := (by omega); have hI : (i : Int) < 5 := (by omega); have s5 := Lib.hid (s0.out.drew.next hlt hd hg); have r5 := Lib.hid (fun W => row_at W i hi); have t5 := strides_get i hi; have v5 := strides_bd i; clear hd hg; generalize strides.getD i 0 = v at r5 v5 t5))
      | (go_simp; go_at_call 26; ((with_reducible refine (next_in g 2 w5 s5.out.d (by omega) (by omega)).mono ?_); rintro e w6 ⟨p, rfl, p0, p1, hd, hg⟩; have s6 := Lib.hid (s5.out.next hlt hd hg); have c6 := hg.cell c5 s0.out.ne; clear hd hg c5 fz cz; have fz := frozen_of s6.out.z.choose_spec.choose_spec; have cz := cells_of s6.out.z.choose_spec.choose_spec; have hn6 := lt_of_block s6.out.z.choose_spec.choose_spec))
      | (go_simp; go_at_call 26; ((with_reducible refine (next_in g 2 (w5.alloc (.cells #[.int .i64 0, .int .i64 1, .int .i64 160, .int .i64 65535, .int .i64 3000] 3)) (s5.out.alloc _).d (by omega) (by omega)).mono ?_); rintro e w6 ⟨p, rfl, p0, p1, hd, hg⟩; have s6 := Lib.hid ((s5.out.alloc (.cells #[.int .i64 0, .int .i64 1, .int .i64 160, .int .i64 65535, .int .i64 3000] 3)).next hlt hd hg); have c6 := hg.cell (r5.out w5) s5.out.ne; clear hd hg; have fz := frozen_of s6.out.z.choose_spec.choose_spec; have cz := cells_of s6.out.z.choose_spec.choose_spec; have hn6 := lt_of_block s6.out.z.choose_spec.choose_spec))
      | (go_simp; go_at_call 26; ((with_reducible refine (next_in g 2 w5 s5.out.d (by omega) (by omega)).mono ?_); rintro e w6 ⟨p, rfl, p0, p1, hd, hg⟩; have s6 := Lib.hid (s5.out.next hlt hd hg); clear hd hg; have fz := frozen_of s6.out.z.choose_spec.choose_spec; have cz := cells_of s6.out.z.choose_spec.choose_spec; have hn6 := lt_of_block s6.out.z.choose_spec.choose_spec))
      | fail)
    all_goals go_wp2
    all_goals
      have K7 := s6.out.blk v p
      have s7 := Lib.hid (s6.out.put hlt v p)
      clear fz cz
      generalize (w6.setCell ⟨w.heap.size, 0, none⟩ (.int .i64 v)).setCell ⟨w.heap.size, 1, none⟩ (.int .i64 p) = w7 at K7 s7 ⊢
      have hc := cells_of K7
      have hl := lt_of_block K7
      refine bodyPost_ret (v := .agg #[.int .i64 v, .int .i64 p]) (by simp [results, Tryd.results48, go_sem, hc, hl]) rfl ?_
      first
        | exact ⟨v, p, rfl, ⟨v5.1, v5.2, by omega, fun h => absurd Q.out h⟩, s7.out.d, s7.out.g⟩
        | exact ⟨v, p, rfl, ⟨v5.1, v5.2, by omega, fun h => absurd Q.out h⟩, (s7.out.alloc _).d, (s7.out.alloc _).g⟩
  · have KK : (k != 2) = true := by simpa using hk
    have Q := Lib.hid hk
    clear hk
    go_enter Tryd.func48, Tryd.ntmps48
    go_wp2
    have hc := cells_of K0
    refine bodyPost_ret (v := .agg #[.int .i64 0, .int .i64 0]) (by simp [results, Tryd.results48, go_sem, hc]) rfl ?_
    exact ⟨0, 0, rfl, ⟨by omega, by omega, .inl rfl, fun _ => ⟨rfl, rfl⟩⟩, D0.out, G0.out⟩

end Go.Proofs.YtkhcfmnebflgkaaDoor
