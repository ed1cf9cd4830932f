/-
  The dice of the statements, where only that they are dice matters: Roll, Next, One, word, Bytes.
-/
import Derived.Test.YtphekpkkeiaccaaDice
namespace Go.Proofs.Ytphekpkkeiaccaa
open Go Go.RowKit

/-- In block g lie dice, whose numbers lie in an older block. -/
def DiceIn (w : World) (g : Nat) : Prop := ∃ a n cap t c, DiceAt w g a n cap t c ∧ ∀ x, a = some x → 0 < n → x.block < g
theorem DiceIn.lt {w : World} {g : Nat} (h : DiceIn w g) : g < w.heap.size := by
  obtain ⟨a, n, cap, t, c, h, _⟩ := h; exact h.lt
theorem DiceIn.keep {w w' : World} {g : Nat} (h : DiceIn w g) (hb : Below w.heap.size w w') : DiceIn w' g := by
  obtain ⟨a, n, cap, t, c, h, ha⟩ := h; exact ⟨a, n, cap, t, c, h.keep hb, ha⟩
theorem DiceIn.alloc {w : World} {g : Nat} (h : DiceIn w g) (o : Obj) : DiceIn (w.alloc o) g := h.keep ((Below.refl _ _).alloc (Nat.le_refl _) o)
theorem DiceIn.drew {w : World} {g : Nat} (h : DiceIn w g) : DiceIn w.drew g := h.keep (Below.refl _ _).drew
/-- .. where a row has turned that is younger than they are -/
theorem DiceIn.keepRow {w w' : World} {g : Nat} {row : Option Nat} (h : DiceIn w g) (hb : w.grownBy w' row) (hr : ∀ b, row = some b → g < b) : DiceIn w' g := by
  obtain ⟨a, n, cap, t, c, h, ha⟩ := h
  exact ⟨a, n, cap, t, c, h.keepRow hb (fun e => by have := hr g e.symm; omega) (fun x hx hn e => by have := hr _ e.symm; have := ha x hx hn; omega), ha⟩

theorem roll_in (a : Option Addr) (n cap : Nat) (t : List Int) (w : World) (hs : Sl .i64 w a n t) :
    Calls Try.prog 22 #[.slice a n cap] w fun e w' => e = .returned (.pointer (some ⟨w.heap.size, 0, none⟩)) ∧ DiceIn w' w.heap.size ∧ Below w.heap.size w w' ∧ w'.heap.size = w.heap.size + 1 :=
  (roll_any a n cap t w hs).mono fun _ _ ⟨he, hd, hb, hz⟩ => ⟨he, ⟨a, n, cap, t, 0, hd, fun x hx hn => by
    obtain ⟨b, off, e⟩ := hs.head hn
    rw [e] at hx hs
    cases hx
    exact hs.block hn⟩, hb, hz⟩

theorem next_in (g : Nat) (m : Int) (w : World) (hd : DiceIn w g) (hm : 1 ≤ m) (hm2 : m ≤ 9223372036854775807) :
    Calls Try.prog 24 #[.pointer (some ⟨g, 0, none⟩), .int .i64 m] w fun e w' => ∃ r, e = .returned (.int .i64 r) ∧ 0 ≤ r ∧ r < m ∧ DiceIn w' g ∧ w.grownBy w' (some g) := by
  obtain ⟨a, n, cap, t, c, h, ha⟩ := hd
  exact (next_any g a n cap c t m w h hm hm2).mono fun _ _ ⟨he, hd, hg, _⟩ => ⟨_, he, Int.emod_nonneg _ (by omega), Int.emod_lt_of_pos _ (by omega), ⟨a, n, cap, t, c + 1, hd, ha⟩, hg⟩

theorem one_in (g : Nat) (m : Int) (w : World) (hd : DiceIn w g) (hm : 1 ≤ m) (hm2 : m ≤ 9223372036854775807) :
    Calls Try.prog 26 #[.pointer (some ⟨g, 0, none⟩), .int .i64 m] w fun e w' => ∃ b, e = .returned (.bool b) ∧ DiceIn w' g ∧ w.grownBy w' (some g) := by
  have C := Lib.hid (next_in g m w hd hm hm2)
  go_enter Try.func26, Try.ntmps26
  go_wp2_with (go_at_call 24; refine C.out.mono ?_; rintro e w1 ⟨r, rfl, h0, h1, hd1, hg⟩; have D1 := Lib.hid hd1; have G1 := Lib.hid hg; clear hd1 hg)
  go_ret
  exact ⟨_, rfl, D1.out, G1.out⟩

theorem word_in (g : Nat) (m : Int) (w : World) (hd : DiceIn w g) (hm : 2 ≤ m) (hm2 : m ≤ 4611686018427387904) :
    Calls Try.prog 41 #[.pointer (some ⟨g, 0, none⟩), .int .i64 m] w fun e w' => ∃ r, e = .returned (.int .i64 r) ∧ 0 ≤ r ∧ r ≤ m ∧ DiceIn w' g ∧ w.grownBy w' (some g) := by
  have C := Lib.hid (next_in g 4 w hd (by omega) (by omega))
  go_enter Try.func41, Try.ntmps41
  go_wp2_with (first
    | (go_at_call 24; ((with_reducible refine C.out.mono ?_); rintro e w1 ⟨r, rfl, h0, h1, hd1, hg⟩; have D1 := Lib.hid hd1; have G1 := Lib.hid hg; clear hd1 hg; clear C))
    | (go_at_call 24; refine (next_in g _ _ D1.out (by omega) (by omega)).mono ?_; rintro e w2 ⟨q, rfl, h2, h3, hd1, hg⟩; have D2 := Lib.hid hd1; have G2 := Lib.hid (grown_trans G1.out hg); clear hd1 hg)
    | fail)
  all_goals go_ret
  all_goals exact ⟨_, rfl, by omega, by omega, D2.out, G2.out⟩
end Go.Proofs.Ytphekpkkeiaccaa
