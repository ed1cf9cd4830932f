/-
  Joined: Dice Dice2 DiceBytes.
-/
import Derived.Test.YtkhcfmnebflgkaaDoorJBase
import Derived.Deep.QuietTactic
import Derived.BigQuiet
import Derived.Deep.RegionHeld3
/-
  The dice of the statements: Roll, Light and Next.
-/
namespace Go.Proofs.YtkhcfmnebflgkaaDoor
open Go Go.RowKit

theorem light_any (a : Option Addr) (n cap : Nat) (w : World) (hr : n ≤ 140737488355328) :
    Calls Tryd.prog 16 #[.slice a n cap] w fun e w' => e = .returned (.bool (decide (n ≤ 400))) ∧ w = w' := by
  go_enter Tryd.func16, Tryd.ntmps16
  go_wp2
  go_ret
  exact ⟨ret_bool (by simp; omega), rfl⟩

/-- The dice lie in block g: the list t, of which c numbers were asked for. -/
structure DiceAt (w : World) (g : Nat) (a : Option Addr) (n cap : Nat) (t : List Int) (c : Nat) : Prop where
  blk : w.heap[g]? = some (.cells #[.slice a n cap, .int .i64 (min c n : Nat)] 75 (0, 0))
  sl : Sl .i64 w a n t
  apart : ∀ x, a = some x → 0 < n → x.block ≠ g

theorem DiceAt.lt {w : World} {g : Nat} {a : Option Addr} {n cap : Nat} {t : List Int} {c : Nat} (h : DiceAt w g a n cap t c) : g < w.heap.size := lt_of_block h.blk

/-- what a later world, in which this block has not turned, and nothing older, leaves of them -/
theorem DiceAt.keep {w w' : World} {g : Nat} {a : Option Addr} {n cap : Nat} {t : List Int} {c : Nat} (h : DiceAt w g a n cap t c) (hb : Below w.heap.size w w') : DiceAt w' g a n cap t c :=
  ⟨(hb.block g h.lt).trans h.blk, h.sl.keep hb, h.apart⟩

theorem DiceAt.keepRow {w w' : World} {g : Nat} {a : Option Addr} {n cap : Nat} {t : List Int} {c : Nat} {row : Option Nat} (h : DiceAt w g a n cap t c) (hb : w.grownBy w' row) (hg : some g ≠ row) (ha : ∀ x, a = some x → 0 < n → some x.block ≠ row) : DiceAt w' g a n cap t c :=
  ⟨(hb.block g h.lt hg).trans h.blk, h.sl.keepRow hb ha, h.apart⟩

theorem Sl.keepBut {k : IntKind} {w w' : World} {a : Option Addr} {n : Nat} {zs : List Int} {g : Nat} (h : Sl k w a n zs) (hb : w.grownBy w' (some g)) (ha : ∀ x, a = some x → 0 < n → x.block ≠ g) : Sl k w' a n zs := by
  refine ⟨h.len, h.reach, h.wf, fun i hi => ?_⟩
  obtain ⟨b, off, rfl, hc⟩ := h.cell i hi
  exact ⟨b, off, rfl, hb.cell hc (by have := ha _ rfl (by omega); simpa using this)⟩
theorem Mk.keepBut {k : IntKind} {E B : Nat} {w w' : World} {v : Value} {n : Nat} {zs : List Int} {g : Nat} (h : Mk k E B w v n zs) (hb : w.grownBy w' (some g)) (hg : g < B) : Mk k E B w' v n zs := by
  refine ⟨h.own.kept hb ?_, h.reach, h.wf⟩
  rcases h.shape with ⟨rfl, _⟩ | ⟨g', cap, rfl, h1, _⟩
  · exact .inl rfl
  · refine .inr ?_
    simp only [Value.ownBlock, ne_eq, Option.some.injEq]; omega
theorem Below.of_but {w w' : World} {g B : Nat} (hb : w.grownBy w' (some g)) (hB : B ≤ g) (hs : B ≤ w.heap.size) : Below B w w' := (Below.refl _ _).grown hb hs (fun k h => by cases h; exact hB)

theorem roll_any (a : Option Addr) (n cap : Nat) (t : List Int) (w : World) (hs : Sl .i64 w a n t) :
    Calls Tryd.prog 17 #[.slice a n cap] w fun e w' => e = .returned (.pointer (some ⟨w.heap.size, 0, none⟩)) ∧ DiceAt w' w.heap.size a n cap t 0 ∧ Below w.heap.size w w' ∧ w'.heap.size = w.heap.size + 1 := by
  have Hs := Lib.hid hs
  clear hs
  go_enter Tryd.func17, Tryd.ntmps17
  go_wp2
  go_ret
  refine ⟨rfl, ⟨?_, Hs.out.alloc _, fun x hx hn => ?_⟩, (Below.refl _ _).alloc (Nat.le_refl _) _, by simp⟩
  · rw [heap_alloc_new, Nat.zero_min]; rfl
  · obtain ⟨b, off, e⟩ := Hs.out.head hn
    rw [e] at hx
    cases hx
    have := Hs.out.cell 0 hn
    rw [e] at this
    obtain ⟨b', off', e', hc⟩ := this
    cases e'
    have := World.block_lt_of_cell? w _ hc
    simp at this ⊢; omega

theorem dice_set {w : World} {g : Nat} {v x : Value} {t : TypeId} (h : w.heap[g]? = some (.cells #[v, x] t (0, 0))) (u : Value) : (w.setCell ⟨g, 1, none⟩ u).heap[g]? = some (.cells #[v, u] t (0, 0)) := by
  have hlt := lt_of_block h
  have h' : w.heap[g] = .cells #[v, x] t (0, 0) := by simpa [Array.getElem?_eq_getElem hlt] using h
  show (w.heap.modify g _)[g]? = _
  rw [Array.getElem?_eq_getElem (by simpa using hlt), Array.getElem_modify_self, h']
  rfl
theorem grown_drewN {w w' : World} {r : Option Nat} (h : w.grownBy w' r) (n : Nat) : w.grownBy (w'.drewN n) r := ⟨h.os, h.tape, h.output, h.size, h.block⟩
theorem grown_trans {a b c : World} {g : Nat} (h : a.grownBy b (some g)) (k : b.grownBy c (some g)) : a.grownBy c (some g) :=
  ⟨k.os.trans h.os, k.tape.trans h.tape, k.output.trans h.output, Nat.le_trans h.size k.size, fun i hi hn => (k.block i (Nat.lt_of_lt_of_le hi h.size) hn).trans (h.block i hi hn)⟩
theorem grown_pre {w w' : World} {r : Option Nat} (n : Nat) (h : (w.drewN n).grownBy w' r) : w.grownBy w' r := ⟨h.os, h.tape, h.output, h.size, h.block⟩

set_option maxHeartbeats 800000 in
theorem next_any (g : Nat) (a : Option Addr) (n cap c : Nat) (t : List Int) (m : Int) (w : World) (hd : DiceAt w g a n cap t c) (hm : 1 ≤ m) (hm2 : m ≤ 9223372036854775807) :
    Calls Tryd.prog 26 #[.pointer (some ⟨g, 0, none⟩), .int .i64 m] w fun e w' => e = .returned (.int .i64 (t.getD c 0 % m)) ∧ DiceAt w' g a n cap t (c + 1) ∧ w.grownBy w' (some g) ∧ w'.heap.size = w.heap.size := by
  have hlen := hd.sl.len
  have hr := hd.sl.reach
  have c0 : w.cell? ⟨g, 0, none⟩ = some (.slice a n cap) := by simp [World.cell?, hd.blk]
  have Hd := Lib.hid hd
  by_cases hk : c < n
  · have c1 : w.cell? ⟨g, 1, none⟩ = some (.int .i64 (c : Int)) := by
      have := hd.blk
      rw [Nat.min_eq_left (by omega)] at this
      simp [World.cell?, this]
    have f1 : w.frozen? ⟨g, 1, none⟩ = false := by simp [World.frozen?, hd.blk]
    obtain ⟨b, off, rfl⟩ := hd.sl.head (by omega)
    have hne : b ≠ g := hd.apart _ rfl (by omega)
    have hc := hd.sl.at hk
    have hx := hd.sl.i64 c
    have hblk : (w.setCell ⟨g, 1, none⟩ (.int .i64 ((c : Int) + 1))).heap[g]? = some (.cells #[.slice (some ⟨b, off, none⟩) n cap, .int .i64 (min (c + 1) n : Nat)] 75 (0, 0)) := by
      rw [dice_set hd.blk, Nat.min_eq_left (by omega)]; rfl
    have hwW : IntKind.i64.wrap (c : Int) = (c : Int) := IntWalk.i64_in _ ⟨by omega, by omega⟩
    have Hblk := Lib.hid hblk
    have Hfin : Hid (∀ nq, Sl .i64 ((w.setCell ⟨g, 1, none⟩ (.int .i64 ((c : Int) + 1))).drewN nq) (some ⟨b, off, none⟩) n t) := fun nq =>
      hd.sl.keepBut (grown_drewN (setCell_but w g 1 _) nq) (fun x hx _ => by cases hx; exact hne)
    have hci : (0 : Int) ≤ (c : Int) := by omega
    have hcn : (c : Int) < (n : Int) := by omega
    clear hd hblk
    generalize t.getD c 0 = x at hx hc
    go_enter Tryd.func26, Tryd.ntmps26
    go_wp2_with fail
    go_quiet (fail)
    go_wp2_with fail
    go_quiet ((go_at_call 57; exact Calls.quiet_of_same ((mod_any x m _ hm hm2 hx.1 hx.2).mono (fun e w' h => ⟨h.1, h.2.symm⟩))))
    go_wp2
    go_ret
    have hG : ∀ n1 n2, w.grownBy (((w.drewN n1).setCell ⟨g, 1, none⟩ (.int .i64 ((c : Int) + 1))).drewN n2) (some g) := fun n1 n2 => grown_pre n1 (grown_drewN (setCell_but (w.drewN n1) g 1 _) n2)
    exact ⟨rfl, ⟨Hblk.out, Hd.out.sl.keepBut (hG _ _) (fun x hx _ => by cases hx; exact hne), fun x hx _ => by cases hx; exact hne⟩, hG _ _, by simp⟩
  · have c1 : w.cell? ⟨g, 1, none⟩ = some (.int .i64 (n : Int)) := by
      have := hd.blk
      rw [Nat.min_eq_right (by omega)] at this
      simp [World.cell?, this]
    have hz : t.getD c 0 % m = 0 := by
      rw [List.getD_eq_getElem?_getD, List.getElem?_eq_none (by omega)]; simp
    have hd2 : ∀ nq, DiceAt (w.drewN nq) g a n cap t (c + 1) := fun nq =>
      ⟨by have := hd.blk; rw [Nat.min_eq_right (by omega)] at this ⊢; exact this, hd.sl.keep (below_drewN (Below.refl _ _) _), hd.apart⟩
    have Hd2 := Lib.hid hd2
    rw [hz]
    clear hd hz hd2
    go_enter Tryd.func26, Tryd.ntmps26
    go_wp2_with fail
    go_quiet (fail)
    go_wp2
    go_ret
    exact ⟨rfl, Hd2.out _, grown_drewN (World.grownBy.refl _ _) _, rfl⟩
end Go.Proofs.YtkhcfmnebflgkaaDoor
/-
  The dice of the statements, where only that they are dice matters: Roll, Next, One, word, Bytes.
-/
namespace Go.Proofs.YtkhcfmnebflgkaaDoor
open Go Go.RowKit

/-- In block g lie dice, whose numbers lie in an older block. -/
def DiceIn (w : World) (g : Nat) : Prop := ∃ a n cap t c, DiceAt w g a n cap t c ∧ ∀ x, a = some x → 0 < n → x.block < g
theorem DiceIn.lt {w : World} {g : Nat} (h : DiceIn w g) : g < w.heap.size := by
  obtain ⟨a, n, cap, t, c, h, _⟩ := h; exact h.lt
theorem DiceIn.keep {w w' : World} {g : Nat} (h : DiceIn w g) (hb : Below w.heap.size w w') : DiceIn w' g := by
  obtain ⟨a, n, cap, t, c, h, ha⟩ := h; exact ⟨a, n, cap, t, c, h.keep hb, ha⟩
theorem DiceIn.alloc {w : World} {g : Nat} (h : DiceIn w g) (o : Obj) : DiceIn (w.alloc o) g := h.keep ((Below.refl _ _).alloc (Nat.le_refl _) o)
theorem DiceIn.drew {w : World} {g : Nat} (h : DiceIn w g) : DiceIn w.drew g := h.keep (Below.refl _ _).drew
/-- .. where a row has turned that is younger than they are -/
theorem DiceIn.keepRow {w w' : World} {g : Nat} {row : Option Nat} (h : DiceIn w g) (hb : w.grownBy w' row) (hr : ∀ b, row = some b → g < b) : DiceIn w' g := by
  obtain ⟨a, n, cap, t, c, h, ha⟩ := h
  exact ⟨a, n, cap, t, c, h.keepRow hb (fun e => by have := hr g e.symm; omega) (fun x hx hn e => by have := hr _ e.symm; have := ha x hx hn; omega), ha⟩

theorem roll_in (a : Option Addr) (n cap : Nat) (t : List Int) (w : World) (hs : Sl .i64 w a n t) :
    Calls Tryd.prog 17 #[.slice a n cap] w fun e w' => e = .returned (.pointer (some ⟨w.heap.size, 0, none⟩)) ∧ DiceIn w' w.heap.size ∧ Below w.heap.size w w' ∧ w'.heap.size = w.heap.size + 1 :=
  (roll_any a n cap t w hs).mono fun _ _ ⟨he, hd, hb, hz⟩ => ⟨he, ⟨a, n, cap, t, 0, hd, fun x hx hn => by
    obtain ⟨b, off, e⟩ := hs.head hn
    rw [e] at hx hs
    cases hx
    exact hs.block hn⟩, hb, hz⟩

theorem next_in (g : Nat) (m : Int) (w : World) (hd : DiceIn w g) (hm : 1 ≤ m) (hm2 : m ≤ 9223372036854775807) :
    Calls Tryd.prog 26 #[.pointer (some ⟨g, 0, none⟩), .int .i64 m] w fun e w' => ∃ r, e = .returned (.int .i64 r) ∧ 0 ≤ r ∧ r < m ∧ DiceIn w' g ∧ w.grownBy w' (some g) := by
  obtain ⟨a, n, cap, t, c, h, ha⟩ := hd
  exact (next_any g a n cap c t m w h hm hm2).mono fun _ _ ⟨he, hd, hg, _⟩ => ⟨_, he, Int.emod_nonneg _ (by omega), Int.emod_lt_of_pos _ (by omega), ⟨a, n, cap, t, c + 1, hd, ha⟩, hg⟩

theorem one_in (g : Nat) (m : Int) (w : World) (hd : DiceIn w g) (hm : 1 ≤ m) (hm2 : m ≤ 9223372036854775807) :
    Calls Tryd.prog 19 #[.pointer (some ⟨g, 0, none⟩), .int .i64 m] w fun e w' => ∃ b, e = .returned (.bool b) ∧ DiceIn w' g ∧ w.grownBy w' (some g) := by
  have C := Lib.hid (next_in g m w hd hm hm2)
  go_enter Tryd.func19, Tryd.ntmps19
  go_wp2_with (go_at_call 26; refine C.out.mono ?_; rintro e w1 ⟨r, rfl, h0, h1, hd1, hg⟩; have D1 := Lib.hid hd1; have G1 := Lib.hid hg; clear hd1 hg)
  go_ret
  exact ⟨_, rfl, D1.out, G1.out⟩

theorem word_in (g : Nat) (m : Int) (w : World) (hd : DiceIn w g) (hm : 2 ≤ m) (hm2 : m ≤ 4611686018427387904) :
    Calls Tryd.prog 49 #[.pointer (some ⟨g, 0, none⟩), .int .i64 m] w fun e w' => ∃ r, e = .returned (.int .i64 r) ∧ 0 ≤ r ∧ r ≤ m ∧ DiceIn w' g ∧ w.grownBy w' (some g) := by
  have C := Lib.hid (next_in g 4 w hd (by omega) (by omega))
  go_enter Tryd.func49, Tryd.ntmps49
  go_wp2_with (first
    | (go_at_call 26; ((with_reducible refine C.out.mono ?_); rintro e w1 ⟨r, rfl, h0, h1, hd1, hg⟩; have D1 := Lib.hid hd1; have G1 := Lib.hid hg; clear hd1 hg; clear C))
    | (go_at_call 26; refine (next_in g _ _ D1.out (by omega) (by omega)).mono ?_; rintro e w2 ⟨q, rfl, h2, h3, hd1, hg⟩; have D2 := Lib.hid hd1; have G2 := Lib.hid (grown_trans G1.out hg); clear hd1 hg)
    | fail)
  all_goals go_ret
  all_goals exact ⟨_, rfl, by omega, by omega, D2.out, G2.out⟩
end Go.Proofs.YtkhcfmnebflgkaaDoor
/-
  Bytes that the statements make: Bytes.
-/
namespace Go.Proofs.YtkhcfmnebflgkaaDoor
open Go Go.RowKit

theorem info_u8d : (Tryd.prog.info? 5).map (fun i => (i.zero, i.size, i.bytes)) = some (some (.int .u8 0), 1, 1) := by kernel_rfl
theorem wf_u8_mod (x : Int) : (Lit.int .u8 (x % 256)).wf = true := byte_wf (Int.emod_nonneg _ (by decide)) (by have := Int.emod_lt_of_pos x (show (0 : Int) < 256 by decide); omega)

set_option maxRecDepth 100000 in
set_option maxHeartbeats 1600000 in
theorem bytes_in (g : Nat) (M : Nat) (w : World) (hd : DiceIn w g) (hM : M ≤ 1048576) :
    Calls Tryd.prog 46 #[.pointer (some ⟨g, 0, none⟩), .int .i64 M] w fun e w' => ∃ (o : Option Addr) (n cp : Nat) (zs : List Int), e = .returned (.slice o n cp) ∧ n ≤ M ∧ Mk .u8 5 w.heap.size w' (.slice o n cp) n zs ∧ (o = none → cp = 0) ∧ DiceIn w' g ∧ w.grownBy w' (some g) := by
  have C := Lib.hid (next_in g ((M : Int) + 1) w hd (by omega) (by omega))
  have hgw := hd.lt
  clear hd
  go_enter Tryd.func46, Tryd.ntmps46
  go_wp2_with (first
    | (go_at_call 26; ((with_reducible refine C.out.mono ?_); rintro e w1 ⟨r, rfl, h0, h1, hd1, hg⟩; have D1 := Lib.hid hd1; have G1 := Lib.hid hg; clear hd1 hg; clear C))
    | fail)
  obtain ⟨N, rfl⟩ := Int.eq_ofNat_of_zero_le h0
  have hNM : N ≤ M := by omega
  go_loopw [5, 6] (fun v i wr => ∃ (k : Nat) (o : Option Addr) (p : Nat) (zs : List Int), k ≤ N ∧ i = .int .i64 ((N : Int) - k) ∧ v = .slice o k p ∧ (o = none → p = 0) ∧ Mk .u8 5 w.heap.size wr (.slice o k p) k zs ∧ DiceIn wr g ∧ w.grownBy wr (some g)) (fun _ i _ => (intOf i).toNat)
  case atStart => exact ⟨0, none, 0, [], by omega, by simp, rfl, fun _ => rfl, Mk.nil _ _ _ _, D1.out, G1.out⟩
  case round =>
    obtain ⟨k, o, p, zs, hk, rfl, rfl, ho, hm, hd, hg⟩ := hrel
    have Hm := Lib.hid hm
    have Hd := Lib.hid hd
    have Hg := Lib.hid hg
    have Ho := Lib.hid ho
    have hsz := hg.size
    clear hm hd hg ho
    by_cases hlt : k < N
    · have hpos : (0 : Int) < (N : Int) - k := by omega
      go_wp2_with (first
        | (go_at_call 26; refine (next_in g _ _ Hd.out (by omega) (by omega)).mono ?_; rintro e w2 ⟨q, rfl, h2, h3, hd1, hg⟩; have D2 := Lib.hid hd1; have G2 := Lib.hid (grown_trans Hg.out hg); have M2 := Lib.hid (Hm.out.keepBut hg hgw); have hs2 := G2.out.size; have W2 : Hid ((Lit.int .u8 q).wf = true) := Lib.hid (byte_wf h2 (by omega)); clear hd1 hg)
        | (at_builtin; refine wpList_push_at rfl (.tmp 15) (.tmp 19) 26 rfl .u8 5 w.heap.size 1 Tryd.underlying26 info_u8d (.slice o k p) k zs rfl (M2.out.alloc _) q w2.heap.size 0 1 (Sl.one .u8 w2 _ 5 W2.out) rfl (by omega) (by omega) (by simp; omega) ?_; intro g1 c1 w5 hm hg hf; have M5 := Lib.hid hm; have D5 := Lib.hid ((D2.out.alloc _).keepRow hg (fun b hb => Nat.lt_of_lt_of_le hgw (M2.out.own_ge b hb).1)); have G5 := Lib.hid (grown_then (grown_then G2.out (World.grownBy_alloc w2 _ none) (fun _ h => by cases h)) hg (fun j hj => .inr (M2.out.own_ge j hj).1)); clear hm hg hf)
        | fail)
      go_roundw
      case rel => exact ⟨k + 1, some ⟨g1, 0, none⟩, c1, zs ++ [q], by omega, by go_num, rfl, (fun h => by cases h), M5.out, D5.out, G5.out⟩
      case measure => simp [intOf] <;> omega
    · obtain rfl : k = N := by omega
      go_wp2
      go_ret
      exact ⟨o, k, p, zs, rfl, hNM, Hm.out, Ho.out, Hd.out, Hg.out⟩

end Go.Proofs.YtkhcfmnebflgkaaDoor
