/-
  The dice of the statements: Roll, Light and Next.
-/
import Derived.Test.YtphekpkkeiaccaaMod
import Derived.Test.YtphekpkkeiaccaaPush
import Derived.Deep.QuietTactic
import Derived.BigQuiet
import Derived.Deep.RegionHeld3
namespace Go.Proofs.Ytphekpkkeiaccaa
open Go Go.RowKit

theorem light_any (a : Option Addr) (n cap : Nat) (w : World) (hr : n ≤ 140737488355328) :
    Calls Try.prog 21 #[.slice a n cap] w fun e w' => e = .returned (.bool (decide (n ≤ 400))) ∧ w = w' := by
  go_enter Try.func21, Try.ntmps21
  go_wp2
  go_ret
  exact ⟨ret_bool (by simp; omega), rfl⟩

/-- The dice lie in block g: the list t, of which c numbers were asked for. -/
structure DiceAt (w : World) (g : Nat) (a : Option Addr) (n cap : Nat) (t : List Int) (c : Nat) : Prop where
  blk : w.heap[g]? = some (.cells #[.slice a n cap, .int .i64 (min c n : Nat)] 55 (0, 0))
  sl : Sl .i64 w a n t
  apart : ∀ x, a = some x → 0 < n → x.block ≠ g

theorem DiceAt.lt {w : World} {g : Nat} {a : Option Addr} {n cap : Nat} {t : List Int} {c : Nat} (h : DiceAt w g a n cap t c) : g < w.heap.size := lt_of_block h.blk

/-- what a later world, in which this block has not turned, and nothing older, leaves of them -/
theorem DiceAt.keep {w w' : World} {g : Nat} {a : Option Addr} {n cap : Nat} {t : List Int} {c : Nat} (h : DiceAt w g a n cap t c) (hb : Below w.heap.size w w') : DiceAt w' g a n cap t c :=
  ⟨(hb.block g h.lt).trans h.blk, h.sl.keep hb, h.apart⟩

theorem DiceAt.keepRow {w w' : World} {g : Nat} {a : Option Addr} {n cap : Nat} {t : List Int} {c : Nat} {row : Option Nat} (h : DiceAt w g a n cap t c) (hb : w.grownBy w' row) (hg : some g ≠ row) (ha : ∀ x, a = some x → 0 < n → some x.block ≠ row) : DiceAt w' g a n cap t c :=
  ⟨(hb.block g h.lt hg).trans h.blk, h.sl.keepRow hb ha, h.apart⟩

theorem Sl.keepBut {k : IntKind} {w w' : World} {a : Option Addr} {n : Nat} {zs : List Int} {g : Nat} (h : Sl k w a n zs) (hb : w.grownBy w' (some g)) (ha : ∀ x, a = some x → 0 < n → x.block ≠ g) : Sl k w' a n zs := by
  refine ⟨h.len, h.reach, h.wf, fun i hi => ?_⟩
  obtain ⟨b, off, rfl, hc⟩ := h.cell i hi
  exact ⟨b, off, rfl, hb.cell hc (by have := ha _ rfl (by omega); simpa using this)⟩
theorem Mk.keepBut {k : IntKind} {E B : Nat} {w w' : World} {v : Value} {n : Nat} {zs : List Int} {g : Nat} (h : Mk k E B w v n zs) (hb : w.grownBy w' (some g)) (hg : g < B) : Mk k E B w' v n zs := by
  refine ⟨h.own.kept hb ?_, h.reach, h.wf⟩
  rcases h.shape with ⟨rfl, _⟩ | ⟨g', cap, rfl, h1, _⟩
  · exact .inl rfl
  · refine .inr ?_
    simp only [Value.ownBlock, ne_eq, Option.some.injEq]; omega
theorem Below.of_but {w w' : World} {g B : Nat} (hb : w.grownBy w' (some g)) (hB : B ≤ g) (hs : B ≤ w.heap.size) : Below B w w' := (Below.refl _ _).grown hb hs (fun k h => by cases h; exact hB)

theorem roll_any (a : Option Addr) (n cap : Nat) (t : List Int) (w : World) (hs : Sl .i64 w a n t) :
    Calls Try.prog 22 #[.slice a n cap] w fun e w' => e = .returned (.pointer (some ⟨w.heap.size, 0, none⟩)) ∧ DiceAt w' w.heap.size a n cap t 0 ∧ Below w.heap.size w w' ∧ w'.heap.size = w.heap.size + 1 := by
  have Hs := Lib.hid hs
  clear hs
  go_enter Try.func22, Try.ntmps22
  go_wp2
  go_ret
  refine ⟨rfl, ⟨?_, Hs.out.alloc _, fun x hx hn => ?_⟩, (Below.refl _ _).alloc (Nat.le_refl _) _, by simp⟩
  · rw [heap_alloc_new, Nat.zero_min]; rfl
  · obtain ⟨b, off, e⟩ := Hs.out.head hn
    rw [e] at hx
    cases hx
    have := Hs.out.cell 0 hn
    rw [e] at this
    obtain ⟨b', off', e', hc⟩ := this
    cases e'
    have := World.block_lt_of_cell? w _ hc
    simp at this ⊢; omega

theorem dice_set {w : World} {g : Nat} {v x : Value} {t : TypeId} (h : w.heap[g]? = some (.cells #[v, x] t (0, 0))) (u : Value) : (w.setCell ⟨g, 1, none⟩ u).heap[g]? = some (.cells #[v, u] t (0, 0)) := by
  have hlt := lt_of_block h
  have h' : w.heap[g] = .cells #[v, x] t (0, 0) := by simpa [Array.getElem?_eq_getElem hlt] using h
  show (w.heap.modify g _)[g]? = _
  rw [Array.getElem?_eq_getElem (by simpa using hlt), Array.getElem_modify_self, h']
  rfl
theorem grown_drewN {w w' : World} {r : Option Nat} (h : w.grownBy w' r) (n : Nat) : w.grownBy (w'.drewN n) r := ⟨h.os, h.tape, h.output, h.size, h.block⟩
theorem grown_trans {a b c : World} {g : Nat} (h : a.grownBy b (some g)) (k : b.grownBy c (some g)) : a.grownBy c (some g) :=
  ⟨k.os.trans h.os, k.tape.trans h.tape, k.output.trans h.output, Nat.le_trans h.size k.size, fun i hi hn => (k.block i (Nat.lt_of_lt_of_le hi h.size) hn).trans (h.block i hi hn)⟩
theorem grown_pre {w w' : World} {r : Option Nat} (n : Nat) (h : (w.drewN n).grownBy w' r) : w.grownBy w' r := ⟨h.os, h.tape, h.output, h.size, h.block⟩

set_option maxHeartbeats 800000 in
theorem next_any (g : Nat) (a : Option Addr) (n cap c : Nat) (t : List Int) (m : Int) (w : World) (hd : DiceAt w g a n cap t c) (hm : 1 ≤ m) (hm2 : m ≤ 9223372036854775807) :
    Calls Try.prog 24 #[.pointer (some ⟨g, 0, none⟩), .int .i64 m] w fun e w' => e = .returned (.int .i64 (t.getD c 0 % m)) ∧ DiceAt w' g a n cap t (c + 1) ∧ w.grownBy w' (some g) ∧ w'.heap.size = w.heap.size := by
  have hlen := hd.sl.len
  have hr := hd.sl.reach
  have c0 : w.cell? ⟨g, 0, none⟩ = some (.slice a n cap) := by simp [World.cell?, hd.blk]
  have Hd := Lib.hid hd
  by_cases hk : c < n
  · have c1 : w.cell? ⟨g, 1, none⟩ = some (.int .i64 (c : Int)) := by
      have := hd.blk
      rw [Nat.min_eq_left (by omega)] at this
      simp [World.cell?, this]
    have f1 : w.frozen? ⟨g, 1, none⟩ = false := by simp [World.frozen?, hd.blk]
    obtain ⟨b, off, rfl⟩ := hd.sl.head (by omega)
    have hne : b ≠ g := hd.apart _ rfl (by omega)
    have hc := hd.sl.at hk
    have hx := hd.sl.i64 c
    have hblk : (w.setCell ⟨g, 1, none⟩ (.int .i64 ((c : Int) + 1))).heap[g]? = some (.cells #[.slice (some ⟨b, off, none⟩) n cap, .int .i64 (min (c + 1) n : Nat)] 55 (0, 0)) := by
      rw [dice_set hd.blk, Nat.min_eq_left (by omega)]; rfl
    have hwW : IntKind.i64.wrap (c : Int) = (c : Int) := IntWalk.i64_in _ ⟨by omega, by omega⟩
    have Hblk := Lib.hid hblk
    have Hfin : Hid (∀ nq, Sl .i64 ((w.setCell ⟨g, 1, none⟩ (.int .i64 ((c : Int) + 1))).drewN nq) (some ⟨b, off, none⟩) n t) := fun nq =>
      hd.sl.keepBut (grown_drewN (setCell_but w g 1 _) nq) (fun x hx _ => by cases hx; exact hne)
    have hci : (0 : Int) ≤ (c : Int) := by omega
    have hcn : (c : Int) < (n : Int) := by omega
    clear hd hblk
    generalize t.getD c 0 = x at hx hc
    go_enter Try.func24, Try.ntmps24
    go_wp2_with fail
    go_quiet (fail)
    go_wp2_with fail
    go_quiet ((go_at_call 29; exact Calls.quiet_of_same ((mod_any x m _ hm hm2 hx.1 hx.2).mono (fun e w' h => ⟨h.1, h.2.symm⟩))))
    go_wp2
    go_ret
    have hG : ∀ n1 n2, w.grownBy (((w.drewN n1).setCell ⟨g, 1, none⟩ (.int .i64 ((c : Int) + 1))).drewN n2) (some g) := fun n1 n2 => grown_pre n1 (grown_drewN (setCell_but (w.drewN n1) g 1 _) n2)
    exact ⟨rfl, ⟨Hblk.out, Hd.out.sl.keepBut (hG _ _) (fun x hx _ => by cases hx; exact hne), fun x hx _ => by cases hx; exact hne⟩, hG _ _, by simp⟩
  · have c1 : w.cell? ⟨g, 1, none⟩ = some (.int .i64 (n : Int)) := by
      have := hd.blk
      rw [Nat.min_eq_right (by omega)] at this
      simp [World.cell?, this]
    have hz : t.getD c 0 % m = 0 := by
      rw [List.getD_eq_getElem?_getD, List.getElem?_eq_none (by omega)]; simp
    have hd2 : ∀ nq, DiceAt (w.drewN nq) g a n cap t (c + 1) := fun nq =>
      ⟨by have := hd.blk; rw [Nat.min_eq_right (by omega)] at this ⊢; exact this, hd.sl.keep (below_drewN (Below.refl _ _) _), hd.apart⟩
    have Hd2 := Lib.hid hd2
    rw [hz]
    clear hd hz hd2
    go_enter Try.func24, Try.ntmps24
    go_wp2_with fail
    go_quiet (fail)
    go_wp2
    go_ret
    exact ⟨rfl, Hd2.out _, grown_drewN (World.grownBy.refl _ _) _, rfl⟩
end Go.Proofs.Ytphekpkkeiaccaa
