/-
  Joined: Base Pow Region Step Mk Mod Hd Push Blk Push2 HdEq HdBox Sm SmBox SmStep SerPlain Put Get Same BitsPlain Lift HdOpen HdArr SmOpen Laid.
-/
import Derived.WalkKit
import Derived.WalkSpells
import Derived.WalkLawsBesides
import Derived.Lib.Hide
import Derived.Deep.Light
import Derived.Handy
import Derived.Deep.RegionHeld3
import Derived.Deep.MidRow
import Derived.Laws.AppendOwnNone
import Derived.Test.YtkhcfmnebflgkaaDoorProg
import Derived.Maps.AppendAt
import Derived.Deep.AppendLies
import Derived.Laws.StructEq
import Derived.ProofKit
import Derived.OpenShut
import Derived.ShutString
import Derived.ChangeOld
import Derived.SizedLaws
import Derived.Lib.SmallJoins
import Derived.LaidMore
import Derived.MakeChecks
import Derived.Stop.Joined
import Derived.ChangeArms
/-
  General facts, of no one layer: bit operations on int as natural numbers; what a slice that came in, or that the call made, reads as.
-/
namespace Go.Proofs.YtkhcfmnebflgkaaDoor
open Go Go.RowKit

/-! ### bit operations on int -/
theorem ofInt_i64 (a : Nat) (ha : a < 9223372036854775808) : (BitVec.ofInt 64 (a : Int)).toNat = a := by
  rw [BitVec.ofInt_natCast, BitVec.toNat_ofNat]; exact Nat.mod_eq_of_lt (by omega)
theorem i64_and_nat (a b : Nat) (ha : a < 9223372036854775808) (hb : b < 9223372036854775808) : bits .and .i64 (a : Int) (b : Int) = ((a &&& b : Nat) : Int) := by
  have hx : a &&& b < 2 ^ 63 := Nat.and_lt_two_pow _ (by omega)
  show IntKind.i64.wrap ((BitVec.ofInt 64 (a : Int) &&& BitVec.ofInt 64 (b : Int)).toNat : Int) = _
  rw [BitVec.toNat_and, ofInt_i64 a ha, ofInt_i64 b hb, IntKind.wrap_i64]
  omega
theorem i64_or_nat (a b : Nat) (ha : a < 9223372036854775808) (hb : b < 9223372036854775808) : bits .or .i64 (a : Int) (b : Int) = ((a ||| b : Nat) : Int) := by
  have hx : a ||| b < 2 ^ 63 := Nat.or_lt_two_pow (by omega) (by omega)
  show IntKind.i64.wrap ((BitVec.ofInt 64 (a : Int) ||| BitVec.ofInt 64 (b : Int)).toNat : Int) = _
  rw [BitVec.toNat_or, ofInt_i64 a ha, ofInt_i64 b hb, IntKind.wrap_i64]
  omega
theorem i64_xor_nat (a b : Nat) (ha : a < 9223372036854775808) (hb : b < 9223372036854775808) : bits .xor .i64 (a : Int) (b : Int) = ((a ^^^ b : Nat) : Int) := by
  have hx : a ^^^ b < 2 ^ 63 := Nat.xor_lt_two_pow (by omega) (by omega)
  show IntKind.i64.wrap ((BitVec.ofInt 64 (a : Int) ^^^ BitVec.ofInt 64 (b : Int)).toNat : Int) = _
  rw [BitVec.toNat_xor, ofInt_i64 a ha, ofInt_i64 b hb, IntKind.wrap_i64]
  omega
theorem i64_and_one (a : Int) (h0 : 0 ≤ a) (h1 : a ≤ 9223372036854775807) : bits .and .i64 a 1 = a % 2 := by
  obtain ⟨n, rfl⟩ := Int.eq_ofNat_of_zero_le h0
  rw [show (1 : Int) = ((1 : Nat) : Int) from rfl, i64_and_nat n 1 (by omega) (by omega), nat_mask1]; omega
/-- twice a number, and a bit -/
theorem i64_or_bit (a d : Int) (h0 : 0 ≤ a) (h1 : a ≤ 4611686018427387903) (d0 : 0 ≤ d) (d1 : d ≤ 1) : bits .or .i64 (a * 2) d = a * 2 + d := by
  obtain ⟨n, rfl⟩ := Int.eq_ofNat_of_zero_le h0
  obtain ⟨m, rfl⟩ := Int.eq_ofNat_of_zero_le d0
  have := i64_or_nat (n * 2) m (by omega) (by omega)
  rw [nat_join 1 (n * 2) m (by omega) (by omega)] at this
  simpa using this

/-- '%' of Go, brought from 0 on -/
theorem mod_neg (n m : Int) (hm : 1 ≤ m) (h : n.tmod m < 0) : n.tmod m + m = n % m := by
  have h2 : -m < n.tmod m := Int.lt_tmod_of_pos _ (by omega)
  have e := Int.tmod_add_mul_tdiv n m
  have e2 : (n.tmod m + m + m * (n.tdiv m - 1)) = n := by rw [Int.mul_sub]; omega
  have : (n.tmod m + m + m * (n.tdiv m - 1)) % m = n.tmod m + m := by
    rw [Int.add_mul_emod_self_left]; exact Int.emod_eq_of_lt (by omega) (by omega)
  rw [e2] at this; exact this.symm
theorem mod_pos (n m : Int) (hm : 1 ≤ m) (h : 0 ≤ n.tmod m) : n.tmod m = n % m := by
  have h2 : n.tmod m < m := Int.tmod_lt_of_pos _ (by omega)
  have e := Int.tmod_add_mul_tdiv n m
  have : (n.tmod m + m * (n.tdiv m)) % m = n.tmod m := by
    rw [Int.add_mul_emod_self_left]; exact Int.emod_eq_of_lt (by omega) (by omega)
  rw [e] at this; exact this.symm

theorem ret_int {k : IntKind} {a b : Int} (h : a = b) : Ending.returned (.int k a) = .returned (.int k b) := by rw [h]
theorem int_eq {k : IntKind} {a b : Int} (h : a = b) : Value.int k a = .int k b := by rw [h]
theorem ret_bool {a b : Bool} (h : a = b) : Ending.returned (.bool a) = .returned (.bool b) := by rw [h]

/-! ### what a slice reads as -/
/-- The slice with the head 'a' and 'n' elements reads, in the world w, as the numbers zs of the kind k. -/
structure Sl (k : IntKind) (w : World) (a : Option Addr) (n : Nat) (zs : List Int) : Prop where
  len : zs.length = n
  reach : n ≤ 140737488355328
  wf : ∀ z ∈ zs, (Lit.int k z).wf = true
  cell : ∀ i, i < n → ∃ b off, a = some ⟨b, off, none⟩ ∧ w.cell? ⟨b, off + i, none⟩ = some (.int k (zs.getD i 0))

theorem getD_mem {zs : List Int} {i : Nat} (h : i < zs.length) : zs.getD i 0 ∈ zs := by
  rw [List.getD_eq_getElem?_getD, List.getElem?_eq_getElem h]; simp

theorem Sl.at {k : IntKind} {w : World} {b off n : Nat} {zs : List Int} (h : Sl k w (some ⟨b, off, none⟩) n zs) {i : Nat} (hi : i < n) : w.cell? ⟨b, off + i, none⟩ = some (.int k (zs.getD i 0)) := by
  obtain ⟨b', off', e, hc⟩ := h.cell i hi
  simp only [Option.some.injEq, Addr.mk.injEq, and_true] at e
  obtain ⟨rfl, rfl⟩ := e
  exact hc

/-- a slice that has an element has a head -/
theorem Sl.head {k : IntKind} {w : World} {a : Option Addr} {n : Nat} {zs : List Int} (h : Sl k w a n zs) (hn : 0 < n) : ∃ b off, a = some ⟨b, off, none⟩ := by
  obtain ⟨b, off, e, _⟩ := h.cell 0 hn; exact ⟨b, off, e⟩

theorem Sl.block {k : IntKind} {w : World} {b off n : Nat} {zs : List Int} (h : Sl k w (some ⟨b, off, none⟩) n zs) {i : Nat} (hi : i < n) : b < w.heap.size := World.block_lt_of_cell? w _ (h.at hi)

theorem Sl.u8 {w : World} {a : Option Addr} {n : Nat} {zs : List Int} (h : Sl .u8 w a n zs) (i : Nat) : 0 ≤ zs.getD i 0 ∧ zs.getD i 0 ≤ 255 := by
  by_cases hi : i < zs.length
  · have := h.wf _ (getD_mem hi)
    simpa [Lit.wf, IntKind.min, IntKind.max, IntKind.signed, IntKind.bits] using this
  · rw [List.getD_eq_getElem?_getD, List.getElem?_eq_none (by omega)]; simp
theorem Sl.i64 {w : World} {a : Option Addr} {n : Nat} {zs : List Int} (h : Sl .i64 w a n zs) (i : Nat) : -9223372036854775808 ≤ zs.getD i 0 ∧ zs.getD i 0 ≤ 9223372036854775807 := by
  by_cases hi : i < zs.length
  · have := h.wf _ (getD_mem hi)
    simpa [Lit.wf, IntKind.min, IntKind.max, IntKind.signed, IntKind.bits] using this
  · rw [List.getD_eq_getElem?_getD, List.getElem?_eq_none (by omega)]; simp

/-- what a later world, in which nothing that was there has turned, leaves of it -/
theorem Sl.keep {k : IntKind} {w w' : World} {a : Option Addr} {n : Nat} {zs : List Int} (h : Sl k w a n zs) (hb : Below w.heap.size w w') : Sl k w' a n zs := by
  refine ⟨h.len, h.reach, h.wf, fun i hi => ?_⟩
  obtain ⟨b, off, e, hc⟩ := h.cell i hi
  exact ⟨b, off, e, by rw [hb.cell (World.block_lt_of_cell? w _ hc)]; exact hc⟩

/-- A slice of the call's own (from block B on), which may be written. -/
structure Own (k : IntKind) (B : Nat) (w : World) (a : Option Addr) (n cap : Nat) (zs : List Int) : Prop where
  sl : Sl k w a n zs
  fresh : ∀ x, a = some x → B ≤ x.block ∧ x.block < w.heap.size
  free : ∀ b off, a = some ⟨b, off, none⟩ → ∀ i, i < n → w.frozen? ⟨b, off + i, none⟩ = false

/-- 'w' is w but for the one block b (and new ones): 'a store into a row of one's own'. -/
theorem Below.of_setCell (w : World) (p : Addr) (u : Value) : Below p.block w (w.setCell p u) := (Below.refl _ _).setCell (Nat.le_refl _) u

end Go.Proofs.YtkhcfmnebflgkaaDoor
/-
  Powers of two as numbers of int: their size, a mask as '%', what wraps around.
-/
namespace Go.Proofs.YtkhcfmnebflgkaaDoor
open Go Go.RowKit

theorem ipow_nat (n : Nat) : ((2 : Int) ^ n) = ((2 ^ n : Nat) : Int) := by simp
theorem ipow_pos (n : Nat) : (1 : Int) ≤ 2 ^ n := by have := Nat.two_pow_pos n; rw [ipow_nat]; omega
theorem ipow_le (n m : Nat) (h : n ≤ m) : (2 : Int) ^ n ≤ 2 ^ m := by have := Nat.pow_le_pow_right (n := 2) (by decide) h; rw [ipow_nat, ipow_nat]; omega
theorem ipow_le32 (n : Nat) (h : n ≤ 32) : (2 : Int) ^ n ≤ 4294967296 := ipow_le n 32 h
theorem ipow_le31 (n : Nat) (h : n ≤ 31) : (2 : Int) ^ n ≤ 2147483648 := ipow_le n 31 h
theorem ipow_half (n : Nat) (h : 1 ≤ n) : (2 : Int) ^ n = 2 * 2 ^ (n - 1) := by
  obtain ⟨m, rfl⟩ : ∃ m, n = m + 1 := ⟨n - 1, by omega⟩
  rw [Int.pow_succ, Nat.add_sub_cancel]; omega
theorem ipow_dvd64 (n : Nat) (h : n ≤ 64) : (2 : Int) ^ n ∣ 18446744073709551616 := by
  have := Nat.pow_dvd_pow 2 h
  rw [ipow_nat]; exact Int.ofNat_dvd.2 this

theorem wrap_ipow (n : Nat) (h : n ≤ 32) : wrap64 (2 ^ n) = 2 ^ n := by
  have h1 := ipow_pos n
  have h2 := ipow_le32 n h
  generalize (2 : Int) ^ n = t at h1 h2
  exact IntWalk.wrap64_in _ ⟨by omega, by omega⟩
theorem wrap_imask (n : Nat) (h : n ≤ 32) : wrap64 (wrap64 (2 ^ n) - 1) = 2 ^ n - 1 := by
  rw [wrap_ipow n h]
  have h1 := ipow_pos n
  have h2 := ipow_le32 n h
  generalize (2 : Int) ^ n = t at h1 h2
  exact IntWalk.wrap64_in _ ⟨by omega, by omega⟩

/-- a mask cuts a number, also a negative one -/
theorem i64_mask (x : Int) (n : Nat) (hn : n ≤ 62) : bits .and .i64 x (2 ^ n - 1) = x % 2 ^ n := by
  have hp := Nat.two_pow_pos n
  have hq : (2 : Nat) ^ n ≤ 4611686018427387904 := Nat.pow_le_pow_right (n := 2) (by decide) hn
  have e : ((2 : Int) ^ n - 1) = ((2 ^ n - 1 : Nat) : Int) := by rw [ipow_nat]; omega
  have hd : ((2 ^ n : Nat) : Int) ∣ ((2 ^ 64 : Nat) : Int) := Int.ofNat_dvd.2 (Nat.pow_dvd_pow 2 (by omega))
  rw [e]
  show IntKind.i64.wrap ((BitVec.ofInt 64 x &&& BitVec.ofInt 64 ((2 ^ n - 1 : Nat) : Int)).toNat : Int) = _
  rw [BitVec.toNat_and, ofInt_i64 (2 ^ n - 1) (by omega), Nat.and_two_pow_sub_one_eq_mod, BitVec.toNat_ofInt]
  have e2 : (((x % ((2 ^ 64 : Nat) : Int)).toNat % 2 ^ n : Nat) : Int) = x % ((2 ^ n : Nat) : Int) := by
    have h0 : 0 ≤ x % ((2 ^ 64 : Nat) : Int) := Int.emod_nonneg _ (by decide)
    rw [Int.natCast_emod, Int.toNat_of_nonneg h0, Int.emod_emod_of_dvd _ hd]
  rw [e2, ipow_nat]
  have h1 : 0 ≤ x % ((2 ^ n : Nat) : Int) := Int.emod_nonneg _ (by omega)
  have h2 : x % ((2 ^ n : Nat) : Int) < ((2 ^ n : Nat) : Int) := Int.emod_lt_of_pos _ (by omega)
  generalize x % ((2 ^ n : Nat) : Int) = y at h1 h2
  rw [IntKind.wrap_i64]; omega

/-- a number that wraps around is the same one modulo a power of two -/
theorem wrap_mod (x : Int) (n : Nat) (hn : n ≤ 64) : wrap64 x % 2 ^ n = x % 2 ^ n := by
  have hd := ipow_dvd64 n hn
  have e : ∃ k, wrap64 x = x + 18446744073709551616 * k := by
    refine ⟨(wrap64 x - x) / 18446744073709551616, ?_⟩
    unfold wrap64; omega
  obtain ⟨k, e⟩ := e
  obtain ⟨q, hq⟩ := hd
  rw [e, hq, Int.mul_assoc, Int.add_mul_emod_self_left]
end Go.Proofs.YtkhcfmnebflgkaaDoor
/-
  Steps of a walk through a drawn region, with the slots' numbers written out (wip/region.py writes such walks).
-/
namespace Go.Proofs.YtkhcfmnebflgkaaDoor
open Go

section
variable {P : Program} {ops : Array Oper} {Q : Exit → Act → World → Prop} {md : Region.Mode} {S : World → Prop}
/-- operation i is taken first; d: the slot that it writes -/
theorem take_lit {i : Nat} {oi : Oper} {v : Value} {fuel : Nat} {listed : Array Bool} {a : Act} {w : World} (d : Nat) (hi : ops[i]? = some oi) (hd : oi.dst = some d)
    (hs : Region.noSelect ops = true) (hf : Region.free md ops listed i = true) (hr : (Region.ready md ops listed).contains i = true)
    (hQ : ∀ c a w, Q (.panic c) (a.put (some d) v) w → Q (.panic c) a w) (hy : YieldsIf P ops S oi v a) (hS : S w)
    (h : wpAnyH P md ops Q S fuel (listed.setIfInBounds i true) (a.put (some d) v) w) : wpAnyH P md ops Q S (fuel + 1) listed a w := by
  rw [← hd] at h hQ
  exact wpAnyH_take hi hs hf hr hQ hy hS h
end
end Go.Proofs.YtkhcfmnebflgkaaDoor
/-
  Steps of a walk through a drawn region whose operation is ready, without a simp over the whole goal.
-/
namespace Go.Proofs.YtkhcfmnebflgkaaDoor
open Go

section
variable {P : Program} {ops : Array Oper} {Q : Exit → Act → World → Prop}
/-- an operation of a drawn region whose guard is open -/
theorem step_any {o : Oper} {a : Act} {w : World} {K : Act → World → Prop} {E : Prop} (hw : Region.wanted o (yielded ops a.tmps) = true) (H : Oper.wp P o a w K Q) : if Region.wanted o (yielded ops a.tmps) = true then Oper.wp P o a w K Q else E := by
  rw [if_pos hw]; exact H
/-- .. by its run, which the kernel may reckon -/
theorem step_run {o : Oper} {a : Act} {w : World} {K : Act → World → Prop} {E : Prop} (v : Value) (w' : World) (hw : Region.wanted o (yielded ops a.tmps) = true) (h : (execOp a.eval o).run P w = .ok (.value v) w') (H : K (a.put o.dst v) w') : if Region.wanted o (yielded ops a.tmps) = true then Oper.wp P o a w K Q else E := by
  rw [if_pos hw]
  unfold Oper.wp
  rw [h]
  exact H
end
end Go.Proofs.YtkhcfmnebflgkaaDoor
/-
  Slices that the call itself makes: what they read as; append, make, a store, copies and strings of them, as laws for the walk.
-/
namespace Go.Proofs.YtkhcfmnebflgkaaDoor
open Go Go.RowKit

/-- The slice value v, of n elements of the type E (one cell each), was made by the call (in a block from B on) and reads as the numbers zs of the kind k. -/
structure Mk (k : IntKind) (E B : Nat) (w : World) (v : Value) (n : Nat) (zs : List Int) : Prop where
  own : w.ownsRow B E 1 v n (zs.map (Value.int k))
  reach : n ≤ 140737488355328
  wf : ∀ z ∈ zs, (Lit.int k z).wf = true

theorem Mk.len {k : IntKind} {E B : Nat} {w : World} {v : Value} {n : Nat} {zs : List Int} (h : Mk k E B w v n zs) : zs.length = n := by
  have := h.own.1; simpa using this

theorem Mk.shape {k : IntKind} {E B : Nat} {w : World} {v : Value} {n : Nat} {zs : List Int} (h : Mk k E B w v n zs) :
    (v = .slice none 0 0 ∧ n = 0) ∨ ∃ g cap, v = .slice (some ⟨g, 0, none⟩) n cap ∧ B ≤ g ∧ g < w.heap.size := by
  rcases h.own.2 with h0 | ⟨g, cap, cur, hv, hb, hg, _⟩
  · exact .inl h0
  · exact .inr ⟨g, cap, hv, hb, (Array.getElem?_eq_some_iff.1 hg).1⟩

theorem Mk.slice {k : IntKind} {E B : Nat} {w : World} {v : Value} {n : Nat} {zs : List Int} (h : Mk k E B w v n zs) : ∃ a cap, v = .slice a n cap ∧ (a = none → n = 0 ∧ cap = 0) := by
  rcases h.shape with ⟨rfl, rfl⟩ | ⟨g, cap, rfl, _⟩
  · exact ⟨_, _, rfl, fun _ => ⟨rfl, rfl⟩⟩
  · exact ⟨_, _, rfl, fun h => by cases h⟩

theorem getD_map_int (k : IntKind) (zs : List Int) (i : Nat) (h : i < zs.length) : (zs.map (Value.int k))[i]? = some (.int k (zs.getD i 0)) := by
  rw [List.getElem?_map, List.getElem?_eq_getElem h, List.getD_eq_getElem?_getD, List.getElem?_eq_getElem h]; rfl

theorem Mk.at {k : IntKind} {E B : Nat} {w : World} {g n cap : Nat} {zs : List Int} (h : Mk k E B w (.slice (some ⟨g, 0, none⟩) n cap) n zs) {j : Nat} (hj : j < n) : w.cell? ⟨g, j, none⟩ = some (.int k (zs.getD j 0)) := by
  rw [h.own.cellAt j (by omega)]; exact getD_map_int k zs j (by rw [h.len]; exact hj)

theorem Mk.free {k : IntKind} {E B : Nat} {w : World} {g n cap : Nat} {zs : List Int} (h : Mk k E B w (.slice (some ⟨g, 0, none⟩) n cap) n zs) (j : Nat) : w.frozen? ⟨g, j, none⟩ = false := h.own.frozenAt j

theorem Mk.block {k : IntKind} {E B : Nat} {w : World} {g n cap : Nat} {zs : List Int} (h : Mk k E B w (.slice (some ⟨g, 0, none⟩) n cap) n zs) : B ≤ g ∧ g < w.heap.size := by
  rcases h.shape with ⟨e, _⟩ | ⟨g', cap', e, r⟩
  · simp at e
  · simp at e; obtain ⟨rfl, _⟩ := e; exact r

theorem Mk.sl {k : IntKind} {E B : Nat} {w : World} {a : Option Addr} {n cap : Nat} {zs : List Int} (h : Mk k E B w (.slice a n cap) n zs) : Sl k w a n zs := by
  refine ⟨h.len, h.reach, h.wf, fun i hi => ?_⟩
  rcases h.shape with ⟨_, h0⟩ | ⟨g, cap', e, r⟩
  · omega
  · simp only [Value.slice.injEq] at e
    obtain ⟨rfl, _, _⟩ := e
    exact ⟨g, 0, rfl, by rw [Nat.zero_add]; exact h.at hi⟩

theorem Mk.nil (k : IntKind) (E B : Nat) (w : World) : Mk k E B w (.slice none 0 0) 0 [] := ⟨World.ownsRow_nil _ _ _ _, by omega, by simp⟩

theorem Mk.mono {k : IntKind} {E B B' : Nat} {w : World} {v : Value} {n : Nat} {zs : List Int} (h : Mk k E B w v n zs) (hB : B' ≤ B) : Mk k E B' w v n zs := by
  refine ⟨⟨h.own.1, ?_⟩, h.reach, h.wf⟩
  rcases h.own.2 with h0 | ⟨g, cap, cur, hv, hb, r⟩
  · exact .inl h0
  · exact .inr ⟨g, cap, cur, hv, by omega, r⟩

/-- what a later world, in which this block has not turned, leaves of it -/
theorem Mk.keepB {k : IntKind} {E B C : Nat} {w w' : World} {v : Value} {n : Nat} {zs : List Int} (h : Mk k E B w v n zs) (hb : Below C w w') (hC : ∀ g, v.ownBlock = some g → g < C) : Mk k E B w' v n zs := by
  refine ⟨⟨h.own.1, ?_⟩, h.reach, h.wf⟩
  rcases h.own.2 with h0 | ⟨g, cap, cur, hv, hbg, hg, r⟩
  · exact .inl h0
  · refine .inr ⟨g, cap, cur, hv, hbg, ?_, r⟩
    rw [hb.block g (hC g (by rw [hv]; rfl))]; exact hg
theorem Mk.keep {k : IntKind} {E B : Nat} {w w' : World} {v : Value} {n : Nat} {zs : List Int} (h : Mk k E B w v n zs) (hb : Below w.heap.size w w') : Mk k E B w' v n zs := by
  refine h.keepB hb fun g hg => ?_
  rcases h.shape with ⟨rfl, _⟩ | ⟨g', cap, rfl, _, r⟩
  · simp [Value.ownBlock] at hg
  · simp [Value.ownBlock] at hg; omega
theorem Mk.alloc {k : IntKind} {E B : Nat} {w : World} {v : Value} {n : Nat} {zs : List Int} (h : Mk k E B w v n zs) (o : Obj) : Mk k E B (w.alloc o) v n zs := ⟨h.own.alloc o, h.reach, h.wf⟩
theorem Mk.drew {k : IntKind} {E B : Nat} {w : World} {v : Value} {n : Nat} {zs : List Int} (h : Mk k E B w v n zs) : Mk k E B w.drew v n zs := ⟨h.own.drew, h.reach, h.wf⟩
theorem Sl.alloc {k : IntKind} {w : World} {a : Option Addr} {n : Nat} {zs : List Int} (h : Sl k w a n zs) (o : Obj) : Sl k (w.alloc o) a n zs := h.keep ((Below.refl _ _).alloc (Nat.le_refl _) o)
theorem Sl.drew {k : IntKind} {w : World} {a : Option Addr} {n : Nat} {zs : List Int} (h : Sl k w a n zs) : Sl k w.drew a n zs := h.keep (Below.refl _ _).drew
/-- a store into a block of the call's own -/
theorem Sl.set {k : IntKind} {w : World} {a : Option Addr} {n : Nat} {zs : List Int} (h : Sl k w a n zs) (p : Addr) (u : Value) (hp : ∀ x, a = some x → x.block ≠ p.block) : Sl k (w.setCell p u) a n zs := by
  refine ⟨h.len, h.reach, h.wf, fun i hi => ?_⟩
  obtain ⟨b, off, rfl, hc⟩ := h.cell i hi
  exact ⟨b, off, rfl, by rw [World.cell?_of_block (Below.heap_setCell w p u b (hp _ rfl))]; exact hc⟩

theorem Mk.stored {k : IntKind} {E B : Nat} {w : World} {g n cap : Nat} {zs : List Int} (h : Mk k E B w (.slice (some ⟨g, 0, none⟩) n cap) n zs) (j : Nat) (u : Int) (hu : (Lit.int k u).wf = true) :
    Mk k E B (w.setCell ⟨g, j, none⟩ (.int k u)) (.slice (some ⟨g, 0, none⟩) n cap) n (zs.set j u) := by
  refine ⟨?_, h.reach, fun z hz => ?_⟩
  · have := (h.own.stored j (.int k u)).1
    rwa [← List.map_set] at this
  · rcases List.mem_or_eq_of_mem_set hz with hz | rfl
    · exact h.wf z hz
    · exact hu

theorem length_replicate_map (k : IntKind) (n : Nat) : (madeCells (Value.int k 0).cells (n * 1)).toList = (List.replicate n (0 : Int)).map (Value.int k) := by
  have := toList_madeCells_one (Value.int k 0) (n * 1)
  rw [List.map_replicate]
  simpa [Value.cells] using this

/-- 'make([]T, n)', T of integers -/
theorem wpList_make_mk {P : Program} {w : World} {ops : Array Oper} {rest : List Oper} {o : Oper} {a : Act} {Q : Exit → Act → World → Prop}
    (hg : o.guard = none) (l c : Operand) (t : TypeId) (hop : o.op = Op.makeSlice t l c)
    (k : IntKind) (E B : Nat) (bytes : Nat) (h1 : P.underlying t = some (.slice E)) (hinfo : (P.info? E).map (fun i => (i.zero, i.size, i.bytes)) = some (some (.int k 0), 1, bytes))
    (kl kc : IntKind) (L C : Int) (n : Nat) (hl : a.eval l = .int kl L) (hc : a.eval c = .int kc C) (hL : L = (n : Int)) (hC : C = (n : Int)) (hr : n ≤ 140737488355328) (b2 : bytes * n ≤ 281474976710656) (b4 : B ≤ w.heap.size) (hwf : (Lit.int k 0).wf = true)
    (hK : ∀ w', Mk k E B w' (.slice (some ⟨w.heap.size, 0, none⟩) n n) n (List.replicate n 0) → Below w.heap.size w w' → wpList P ops Q rest (a.put o.dst (.slice (some ⟨w.heap.size, 0, none⟩) n n)) w') :
    wpList P ops Q (o :: rest) a w := by
  obtain ⟨i, hi, hz0, hz1, hz2⟩ := info_parts hinfo
  refine wpList_make_full w hg l c t hop B E i (.int k 0) 1 h1 hi hz0 hz1 kl kc L C n hl hc hL hC (by rw [hz2]; exact b2) (by unfold maxLen; omega) b4 fun w' h2 h3 => hK w' ⟨by rw [length_replicate_map] at h2; exact h2, hr, fun z hz => ?_⟩ ?_
  · have := List.eq_of_mem_replicate hz; subst this; exact hwf
  · exact (Below.refl _ _).grown h3 (Nat.le_refl _) (fun _ h => by cases h)

/-- 'append(out, src...)', out nil or the call's own, src whatever that reads as numbers -/
theorem wpList_append_mk {P : Program} {w : World} {ops : Array Oper} {rest : List Oper} {o : Oper} {a : Act} {Q : Exit → Act → World → Prop}
    (hgd : o.guard = none) (s x : Operand) (t : TypeId) (ho : o.op = .call { callee := .builtin .append, args := #[s, x], argTypes := #[t, t] })
    (k : IntKind) (E B bytes : Nat) (ht : P.underlying t = some (.slice E)) (hinfo : (P.info? E).map (fun i => (i.zero, i.size, i.bytes)) = some (some (.int k 0), 1, bytes))
    (v : Value) (n : Nat) (xs : List Int) (hs : a.eval s = v) (hm : Mk k E B w v n xs)
    (src : Option Addr) (m c : Nat) (zs : List Int) (hx : a.eval x = .slice src m c) (hsl : Sl k w src m zs) (hc0 : src = none → c = 0)
    (hr : n + m ≤ 140737488355328) (hbytes : (n + m) * bytes ≤ 140737488355328) (hbase : B ≤ w.heap.size)
    (h : ∀ ao cap w', Mk k E B w' (.slice ao (n + m) cap) (n + m) (xs ++ zs) → Below B w w' → (ao = none → n + m = 0 ∧ cap = 0) → wpList P ops Q rest (a.put o.dst (.slice ao (n + m) cap)) w') :
    wpList P ops Q (o :: rest) a w := by
  obtain ⟨i, hi, hz0, hz1, hz2⟩ := info_parts hinfo
  have hwf : ∀ z ∈ xs ++ zs, (Lit.int k z).wf = true := fun z hz => by
    rcases List.mem_append.1 hz with hz | hz
    · exact hm.wf z hz
    · exact hsl.wf z hz
  have fin : ∀ v' w', w'.ownsRow B E 1 v' (n + m) ((xs ++ zs).map (Value.int k)) → w.grownBy w' v.ownBlock → wpList P ops Q rest (a.put o.dst v') w' := by
    intro v' w' h1 h2
    have hmk : Mk k E B w' v' (n + m) (xs ++ zs) := ⟨h1, hr, hwf⟩
    obtain ⟨ao, cap, rfl, hn⟩ := hmk.slice
    refine h ao cap w' hmk ((Below.refl _ _).grown h2 hbase fun g hg => ?_) hn
    rcases hm.shape with ⟨rfl, _⟩ | ⟨g', cap', rfl, hb, _⟩
    · simp [Value.ownBlock] at hg
    · simp [Value.ownBlock] at hg; omega
  cases src with
  | none =>
    have hm0 : m = 0 := by
      rcases Nat.eq_zero_or_pos m with h0 | h0
      · exact h0
      · obtain ⟨b, off, e⟩ := hsl.head h0; cases e
    subst hm0
    have hz : zs = [] := List.eq_nil_of_length_eq_zero hsl.len
    subst hz
    obtain rfl := hc0 rfl
    refine wpList_append_own_none hgd s x t ho B E i 1 ht hi v n _ hs hm.own hx ?_
    have := fin v w (by simpa using hm.own) (World.grownBy.refl _ _)
    simpa using this
  | some ad =>
    refine wpList_append_own w hgd s x t ho B E i (.int k 0) 1 bytes ht hi hz0 hz1 hz2 rfl (by decide) v n _ hs hm.own ad m c (zs.map (Value.int k)) hx (by rw [List.length_map, hsl.len, Nat.mul_one]) ?_ (ints_oneCell _ _) (by unfold maxLen; omega) hbytes hbase ?_
    · intro j u hj
      have hjl : j < m := by
        rcases Nat.lt_or_ge j m with h | h
        · exact h
        · rw [List.getElem?_eq_none (by rw [List.length_map, hsl.len]; exact h)] at hj; cases hj
      rw [getD_map_int k zs j (by rw [hsl.len]; exact hjl)] at hj
      simp only [Option.some.injEq] at hj
      subst hj
      obtain ⟨b, off, e, hc⟩ := hsl.cell j hjl
      simp only [Option.some.injEq] at e
      subst e
      have hplain : (⟨b, off, none⟩ : Addr).add j = ⟨b, off + j, none⟩ := by unfold Addr.add; split <;> simp_all
      rw [hplain]; exact hc
    · intro v' w' h1 h2 _
      rw [← List.map_append] at h1
      exact fin v' w' h1 h2

/-- the source of 'append(out, x)': one new cell -/
theorem Sl.one (k : IntKind) (w : World) (z : Int) (t : TypeId) (hz : (Lit.int k z).wf = true) : Sl k (w.alloc (.cells #[.int k z] t)) (some ⟨w.heap.size, 0, none⟩) 1 [z] := by
  refine ⟨rfl, by omega, by simpa using hz, fun i hi => ⟨_, _, rfl, ?_⟩⟩
  obtain rfl : i = 0 := by omega
  exact cell_one_new w (.int k z) t 0 (.int k z) rfl

/-- a slice that a literal has built -/
theorem Sl.lit (k : IntKind) (w : World) (zs : List Int) (t : TypeId) (n B : Nat) (hB : B = w.heap.size) (hn : zs.length = n) (hr : n ≤ 140737488355328) (hz : ∀ z ∈ zs, (Lit.int k z).wf = true) : Sl k (w.alloc (.cells (zs.map (Value.int k)).toArray t)) (some ⟨B, 0, none⟩) n zs := by
  refine ⟨hn, hr, hz, fun i hi => ⟨_, _, rfl, ?_⟩⟩
  have h := World.cell?_alloc_at (w := w) (zs.map (Value.int k)).toArray t B i hB
  have h2 : ((zs.map (Value.int k)).toArray)[i]? = some (.int k (zs.getD i 0)) := by
    have := getD_map_int k zs i (by omega)
    simpa using this
  rw [Nat.zero_add, h, h2]

/-- the bytes of a string -/
theorem run_string_of {P : Program} {w : World} {a : Option Addr} {n : Nat} {zs : List Int} (h : Sl .u8 w a n zs) (cap : Nat) (src e dst : TypeId) (hs : P.underlying src = some (.slice e)) (he : P.underlying e = some (.int .u8)) (hd : P.underlying dst = some .string) :
    (convert src dst (.slice a n cap)).run P w = .ok (.string (strOfNums zs)) w := by
  cases a with
  | none =>
    have hn : n = 0 := by
      rcases Nat.eq_zero_or_pos n with h0 | h0
      · exact h0
      · obtain ⟨b, off, e⟩ := h.head h0; cases e
    subst hn
    obtain rfl : zs = [] := List.eq_nil_of_length_eq_zero h.len
    have := run_convert_bytes_nil (P := P) (w := w) src e hs he 0 cap dst hd
    rw [this]; rfl
  | some x =>
    rcases Nat.eq_zero_or_pos n with h0 | h0
    · subst h0
      obtain rfl : zs = [] := List.eq_nil_of_length_eq_zero h.len
      have hl := run_loadCells_list (P := P) w x [] (fun j v hj => by simp at hj)
      rw [run_convert_bytes_string w src dst e _ 0 cap hs he hd, run_bytesToString w x 0 cap [] (by simpa using hl)]
      rfl
    · obtain ⟨b, off, e1⟩ := h.head h0
      obtain rfl := Option.some.inj e1
      exact run_convert_bytes_arg (P := P) w src e hs he b off n cap zs h.len (fun i hi => h.at hi) dst hd

/-- a literal's row is the call's own -/
theorem Mk.lit (k : IntKind) (E B : Nat) (w : World) (zs : List Int) (n : Nat) (hB : B ≤ w.heap.size) (hn : zs.length = n) (hr : n ≤ 140737488355328) (hz : ∀ z ∈ zs, (Lit.int k z).wf = true) : Mk k E B (w.alloc (.cells (zs.map (Value.int k)).toArray E)) (.slice (some ⟨w.heap.size, 0, none⟩) n n) n zs := by
  refine ⟨?_, hr, hz⟩
  have h := World.ownsRow_lit (base := B) (e := E) (size := 1) w (zs.map (Value.int k)).toArray n hB (by unfold maxLen; omega) (by simp [hn])
  simpa using h

theorem Mk.head0 {k : IntKind} {E B : Nat} {w : World} {a : Option Addr} {n cap : Nat} {zs : List Int} (h : Mk k E B w (.slice a n cap) n zs) (hn : 0 < n) : ∃ g, a = some ⟨g, 0, none⟩ := by
  rcases h.shape with ⟨e, _⟩ | ⟨g', cap', e, _⟩
  · simp at e; omega
  · simp at e; exact ⟨g', e.1⟩
theorem Mk.le_cap {k : IntKind} {E B : Nat} {w : World} {a : Option Addr} {n cap : Nat} {zs : List Int} (h : Mk k E B w (.slice a n cap) n zs) : n ≤ cap := by
  obtain ⟨_, ⟨e, _⟩ | ⟨g, c, cur, e, _, _, hc, _⟩⟩ := h.own
  · simp at e; omega
  · simp at e; omega
end Go.Proofs.YtkhcfmnebflgkaaDoor
/-
  What Mod of the statements' own helpers returns.
-/
namespace Go.Proofs.YtkhcfmnebflgkaaDoor
open Go Go.RowKit

set_option maxHeartbeats 400000 in
theorem mod_any (n m : Int) (w : World) (hm : 1 ≤ m) (hm2 : m ≤ 9223372036854775807) (_hn1 : -9223372036854775808 ≤ n) (_hn2 : n ≤ 9223372036854775807) :
    Calls Tryd.prog 57 #[.int .i64 n, .int .i64 m] w fun e w' => e = .returned (.int .i64 (n % m)) ∧ w = w' := by
  have t1 : -m < n.tmod m := Int.lt_tmod_of_pos _ (by omega)
  have t2 : n.tmod m < m := Int.tmod_lt_of_pos _ (by omega)
  go_enter Tryd.func57, Tryd.ntmps57
  go_wp2
  · go_ret
    exact ⟨ret_int (mod_neg n m hm (by assumption)), rfl⟩
  · go_ret
    exact ⟨ret_int (mod_pos n m hm (by assumption)), rfl⟩
end Go.Proofs.YtkhcfmnebflgkaaDoor
/-
  A header of layer 5 as fifteen numbers; when it is valid.
-/
namespace Go.Proofs.YtkhcfmnebflgkaaDoor
open Go Go.RowKit

structure Hd where
  kind : Int
  tos : Int
  id : Int
  fixed : Int
  ttl : Int
  frm : Int
  to : Int
  fromPort : Int
  toPort : Int
  check : Int
  marker : Int
  type : Int
  seq : Int
  time : Int
  source : Int

/-- each number is one of int's -/
structure Hd.Fits (h : Hd) : Prop where
  kind : -9223372036854775808 ≤ h.kind ∧ h.kind ≤ 9223372036854775807
  tos : -9223372036854775808 ≤ h.tos ∧ h.tos ≤ 9223372036854775807
  id : -9223372036854775808 ≤ h.id ∧ h.id ≤ 9223372036854775807
  fixed : -9223372036854775808 ≤ h.fixed ∧ h.fixed ≤ 9223372036854775807
  ttl : -9223372036854775808 ≤ h.ttl ∧ h.ttl ≤ 9223372036854775807
  frm : -9223372036854775808 ≤ h.frm ∧ h.frm ≤ 9223372036854775807
  to : -9223372036854775808 ≤ h.to ∧ h.to ≤ 9223372036854775807
  fromPort : -9223372036854775808 ≤ h.fromPort ∧ h.fromPort ≤ 9223372036854775807
  toPort : -9223372036854775808 ≤ h.toPort ∧ h.toPort ≤ 9223372036854775807
  check : -9223372036854775808 ≤ h.check ∧ h.check ≤ 9223372036854775807
  marker : -9223372036854775808 ≤ h.marker ∧ h.marker ≤ 9223372036854775807
  type : -9223372036854775808 ≤ h.type ∧ h.type ≤ 9223372036854775807
  seq : -9223372036854775808 ≤ h.seq ∧ h.seq ≤ 9223372036854775807
  time : -9223372036854775808 ≤ h.time ∧ h.time ≤ 9223372036854775807
  source : -9223372036854775808 ≤ h.source ∧ h.source ≤ 9223372036854775807

/-- the fields that both kinds have -/
structure Hd.Ip (h : Hd) : Prop where
  tos0 : 0 ≤ h.tos
  tos1 : h.tos ≤ 255
  ttl0 : 0 ≤ h.ttl
  ttl1 : h.ttl ≤ 255
  id0 : 0 ≤ h.id
  id1 : h.id ≤ 65535
  fromPort0 : 0 ≤ h.fromPort
  fromPort1 : h.fromPort ≤ 65535
  toPort0 : 0 ≤ h.toPort
  toPort1 : h.toPort ≤ 65535
  check0 : 0 ≤ h.check
  check1 : h.check ≤ 65535
  fixed0 : 0 ≤ h.fixed
  fixed1 : h.fixed ≤ 1
  frm0 : 0 ≤ h.frm
  frm1 : h.frm ≤ 4294967295
  to0 : 0 ≤ h.to
  to1 : h.to ≤ 4294967295
structure Hd.Plain (h : Hd) : Prop where
  marker : h.marker = 0
  type : h.type = 0
  seq : h.seq = 0
  time : h.time = 0
  source : h.source = 0
structure Hd.Rtp (h : Hd) : Prop where
  marker0 : 0 ≤ h.marker
  marker1 : h.marker ≤ 1
  type0 : 0 ≤ h.type
  type1 : h.type ≤ 127
  seq0 : 0 ≤ h.seq
  seq1 : h.seq ≤ 65535
  time0 : 0 ≤ h.time
  time1 : h.time ≤ 4294967295
  source0 : 0 ≤ h.source
  source1 : h.source ≤ 4294967295
def Hd.Valid (h : Hd) : Prop := h.Ip ∧ (h.kind = 1 ∧ h.Plain ∨ h.kind = 2 ∧ h.Rtp)
def validB (h : Hd) : Bool :=
  decide ((0 ≤ h.tos ∧ h.tos ≤ 255 ∧ 0 ≤ h.ttl ∧ h.ttl ≤ 255 ∧ 0 ≤ h.id ∧ h.id ≤ 65535 ∧ 0 ≤ h.fromPort ∧ h.fromPort ≤ 65535 ∧ 0 ≤ h.toPort ∧ h.toPort ≤ 65535 ∧ 0 ≤ h.check ∧ h.check ≤ 65535 ∧
      0 ≤ h.fixed ∧ h.fixed ≤ 1 ∧ 0 ≤ h.frm ∧ h.frm ≤ 4294967295 ∧ 0 ≤ h.to ∧ h.to ≤ 4294967295) ∧
    (h.kind = 1 ∧ (h.marker = 0 ∧ h.type = 0 ∧ h.seq = 0 ∧ h.time = 0 ∧ h.source = 0) ∨
      h.kind = 2 ∧ (0 ≤ h.marker ∧ h.marker ≤ 1 ∧ 0 ≤ h.type ∧ h.type ≤ 127 ∧ 0 ≤ h.seq ∧ h.seq ≤ 65535 ∧ 0 ≤ h.time ∧ h.time ≤ 4294967295 ∧ 0 ≤ h.source ∧ h.source ≤ 4294967295)))
theorem validB_iff (h : Hd) : validB h = true ↔ h.Valid := by
  unfold validB Hd.Valid
  rw [decide_eq_true_iff]
  constructor
  · rintro ⟨⟨a1, a2, a3, a4, a5, a6, a7, a8, a9, a10, a11, a12, a13, a14, a15, a16, a17, a18⟩, ⟨k, p1, p2, p3, p4, p5⟩ | ⟨k, r1, r2, r3, r4, r5, r6, r7, r8, r9, r10⟩⟩
    · exact ⟨⟨a1, a2, a3, a4, a5, a6, a7, a8, a9, a10, a11, a12, a13, a14, a15, a16, a17, a18⟩, .inl ⟨k, ⟨p1, p2, p3, p4, p5⟩⟩⟩
    · exact ⟨⟨a1, a2, a3, a4, a5, a6, a7, a8, a9, a10, a11, a12, a13, a14, a15, a16, a17, a18⟩, .inr ⟨k, ⟨r1, r2, r3, r4, r5, r6, r7, r8, r9, r10⟩⟩⟩
  · rintro ⟨⟨a1, a2, a3, a4, a5, a6, a7, a8, a9, a10, a11, a12, a13, a14, a15, a16, a17, a18⟩, ⟨k, ⟨p1, p2, p3, p4, p5⟩⟩ | ⟨k, ⟨r1, r2, r3, r4, r5, r6, r7, r8, r9, r10⟩⟩⟩
    · exact ⟨⟨a1, a2, a3, a4, a5, a6, a7, a8, a9, a10, a11, a12, a13, a14, a15, a16, a17, a18⟩, .inl ⟨k, p1, p2, p3, p4, p5⟩⟩
    · exact ⟨⟨a1, a2, a3, a4, a5, a6, a7, a8, a9, a10, a11, a12, a13, a14, a15, a16, a17, a18⟩, .inr ⟨k, r1, r2, r3, r4, r5, r6, r7, r8, r9, r10⟩⟩
theorem validB_true {h : Hd} (v : h.Valid) : validB h = true := (validB_iff h).2 v
theorem validB_false {h : Hd} (v : ¬ h.Valid) : validB h = false := by
  cases e : validB h with
  | false => rfl
  | true => exact absurd ((validB_iff h).1 e) v
theorem validB_of {h : Hd} (v : validB h = true) : h.Valid := (validB_iff h).1 v
theorem Hd.Valid.fits {h : Hd} (v : h.Valid) : h.Fits := by
  obtain ⟨i, ⟨hk, p⟩ | ⟨hk, r⟩⟩ := v
  · cases i; cases p; constructor <;> constructor <;> omega
  · cases i; cases r; constructor <;> constructor <;> omega
end Go.Proofs.YtkhcfmnebflgkaaDoor
/-
  One number put behind a slice of the call's own, and what else stays as it was.
-/
namespace Go.Proofs.YtkhcfmnebflgkaaDoor
open Go Go.RowKit

theorem Mk.keepRow {k : IntKind} {E B : Nat} {w w' : World} {v : Value} {n : Nat} {zs : List Int} {row : Option Nat} (h : Mk k E B w v n zs) (hb : w.grownBy w' row) (hg : v.ownBlock = none ∨ v.ownBlock ≠ row) : Mk k E B w' v n zs :=
  ⟨h.own.kept hb hg, h.reach, h.wf⟩
theorem Sl.keepRow {k : IntKind} {w w' : World} {a : Option Addr} {n : Nat} {zs : List Int} {row : Option Nat} (h : Sl k w a n zs) (hb : w.grownBy w' row) (ha : ∀ x, a = some x → 0 < n → some x.block ≠ row) : Sl k w' a n zs := by
  refine ⟨h.len, h.reach, h.wf, fun i hi => ?_⟩
  obtain ⟨b, off, rfl, hc⟩ := h.cell i hi
  exact ⟨b, off, rfl, hb.cell hc (ha ⟨b, off, none⟩ rfl (by omega))⟩
theorem Below.of_row {w w' : World} {row : Option Nat} {B : Nat} (hb : w.grownBy w' row) (hB : ∀ g, row = some g → B ≤ g) (hs : B ≤ w.heap.size) : Below B w w' := (Below.refl _ _).grown hb hs hB
theorem Mk.own_ge {k : IntKind} {E B : Nat} {w : World} {v : Value} {n : Nat} {zs : List Int} (h : Mk k E B w v n zs) : ∀ g, v.ownBlock = some g → B ≤ g ∧ g < w.heap.size := fun g hg => by
  rcases h.shape with ⟨rfl, _⟩ | ⟨g', cap, rfl, hb, hl⟩
  · simp [Value.ownBlock] at hg
  · simp [Value.ownBlock] at hg; omega

/-- 'append(out, x)', one number behind a slice that is nil or the call's own: the new block is the old one, or a new one -/
theorem wpList_push_mk {P : Program} {w0 : World} {ops : Array Oper} {rest : List Oper} {o : Oper} {a : Act} {Q : Exit → Act → World → Prop}
    (hgd : o.guard = none) (s x : Operand) (t : TypeId) (ho : o.op = .call { callee := .builtin .append, args := #[s, x], argTypes := #[t, t] })
    (k : IntKind) (E B bytes : Nat) (ht : P.underlying t = some (.slice E)) (hinfo : (P.info? E).map (fun i => (i.zero, i.size, i.bytes)) = some (some (.int k 0), 1, bytes))
    (v : Value) (n : Nat) (xs : List Int) (hs : a.eval s = v) (hm : Mk k E B w0 v n xs) (z : Int) (T : TypeId) (hz : (Lit.int k z).wf = true) (H : Nat) (hH : H = w0.heap.size)
    (hx : a.eval x = .slice (some ⟨H, 0, none⟩) 1 1) (hr : n + 1 ≤ 140737488355328) (hbytes : (n + 1) * bytes ≤ 140737488355328) (hbase : B ≤ w0.heap.size)
    (h : ∀ g cap w', Mk k E B w' (.slice (some ⟨g, 0, none⟩) (n + 1) cap) (n + 1) (xs ++ [z]) → w0.grownBy w' v.ownBlock → (v.ownBlock = some g ∨ g = w0.heap.size + 1) → wpList P ops Q rest (a.put o.dst (.slice (some ⟨g, 0, none⟩) (n + 1) cap)) w') :
    wpList P ops Q (o :: rest) a (w0.alloc (.cells #[.int k z] T)) := by
  obtain ⟨i, hi, hz0, hz1, hz2⟩ := info_parts hinfo
  subst hH
  refine wpList_append_own_at _ hgd s x t ho B E i (.int k 0) 1 bytes ht hi hz0 hz1 hz2 rfl (by decide) v n _ hs (hm.own.alloc _) ⟨w0.heap.size, 0, none⟩ 1 1 [.int k z] hx rfl ?_ (ints_oneCell k [z]) (by unfold maxLen; omega) hbytes (by simp; omega) ?_
  · exact cell_one_new w0 (.int k z) T
  · intro v' w' h1 h2 _ h4
    have hmk : Mk k E B w' v' (n + 1) (xs ++ [z]) := ⟨by rw [List.map_append]; exact h1, hr, fun y hy => by
      rcases List.mem_append.1 hy with hy | hy
      · exact hm.wf y hy
      · rw [List.mem_singleton.1 hy]; exact hz⟩
    rcases hmk.shape with ⟨_, e⟩ | ⟨g, cap, rfl, _, _⟩
    · omega
    · refine h g cap w' hmk ?_ ?_
      · exact ⟨h2.os, h2.tape, h2.output, Nat.le_trans (by simp) h2.size, fun j hj hn => (h2.block j (by simp; omega) hn).trans (heap_alloc_old w0 _ hj)⟩
      · rcases h4 with h4 | h4
        · exact .inl h4.symm
        · right; simpa [Value.ownBlock] using h4

/-- 'append(out, x)' at any world: what 'x' reads as is one number -/
theorem wp_push_mk {P : Program} {w1 : World} {o : Oper} {a : Act} {K : Act → World → Prop} {Q : Exit → Act → World → Prop} (s x : Operand) (t : TypeId) (ho : o.op = .call { callee := .builtin .append, args := #[s, x], argTypes := #[t, t] })
    (k : IntKind) (E B bytes : Nat) (ht : P.underlying t = some (.slice E)) (hinfo : (P.info? E).map (fun i => (i.zero, i.size, i.bytes)) = some (some (.int k 0), 1, bytes))
    (v : Value) (n : Nat) (xs : List Int) (hs : a.eval s = v) (hm : Mk k E B w1 v n xs) (z : Int) (b off c : Nat) (hsl : Sl k w1 (some ⟨b, off, none⟩) 1 [z])
    (hx : a.eval x = .slice (some ⟨b, off, none⟩) 1 c) (hr : n + 1 ≤ 140737488355328) (hbytes : (n + 1) * bytes ≤ 140737488355328) (hbase : B ≤ w1.heap.size)
    (h : ∀ g cap w', Mk k E B w' (.slice (some ⟨g, 0, none⟩) (n + 1) cap) (n + 1) (xs ++ [z]) → w1.grownBy w' v.ownBlock → (v.ownBlock = some g ∨ g = w1.heap.size) → K (a.put o.dst (.slice (some ⟨g, 0, none⟩) (n + 1) cap)) w') :
    Oper.wp P o a w1 K Q := by
  obtain ⟨i, hi, hz0, hz1, hz2⟩ := info_parts hinfo
  refine wp_append_lies w1 s x t ho B E i (.int k 0) 1 bytes ht hi hz0 hz1 hz2 rfl (by decide) v n _ hs hm.own ⟨b, off, none⟩ 1 c [.int k z] hx rfl ?_ (ints_oneCell k [z]) (by omega) (by unfold maxLen; omega) hbytes hbase w1.heap.size rfl ?_
  · intro j u hj
    obtain rfl : j = 0 := by
      rcases Nat.eq_zero_or_pos j with h0 | h0
      · exact h0
      · rw [List.getElem?_eq_none (by simpa using (show 1 ≤ j by omega))] at hj; cases hj
    have hu : u = .int k z := by simpa using hj.symm
    have hc := hsl.at (i := 0) (by omega)
    have hplain : (⟨b, off, none⟩ : Addr).add 0 = ⟨b, off + 0, none⟩ := by unfold Addr.add; split <;> simp_all
    rw [hplain, hu]; exact hc
  · intro g cap w' h1 h2 h3 _
    refine h g cap w' ⟨by rw [List.map_append]; exact h1, hr, fun y hy => ?_⟩ h2 h3
    rcases List.mem_append.1 hy with hy | hy
    · exact hm.wf y hy
    · rw [List.mem_singleton.1 hy]; exact hsl.wf z (by simp)
theorem wpList_push_at {P : Program} {w1 : World} {ops : Array Oper} {rest : List Oper} {o : Oper} {a : Act} {Q : Exit → Act → World → Prop} (hgd : o.guard = none) (s x : Operand) (t : TypeId) (ho : o.op = .call { callee := .builtin .append, args := #[s, x], argTypes := #[t, t] })
    (k : IntKind) (E B bytes : Nat) (ht : P.underlying t = some (.slice E)) (hinfo : (P.info? E).map (fun i => (i.zero, i.size, i.bytes)) = some (some (.int k 0), 1, bytes))
    (v : Value) (n : Nat) (xs : List Int) (hs : a.eval s = v) (hm : Mk k E B w1 v n xs) (z : Int) (b off c : Nat) (hsl : Sl k w1 (some ⟨b, off, none⟩) 1 [z])
    (hx : a.eval x = .slice (some ⟨b, off, none⟩) 1 c) (hr : n + 1 ≤ 140737488355328) (hbytes : (n + 1) * bytes ≤ 140737488355328) (hbase : B ≤ w1.heap.size)
    (h : ∀ g cap w', Mk k E B w' (.slice (some ⟨g, 0, none⟩) (n + 1) cap) (n + 1) (xs ++ [z]) → w1.grownBy w' v.ownBlock → (v.ownBlock = some g ∨ g = w1.heap.size) → wpList P ops Q rest (a.put o.dst (.slice (some ⟨g, 0, none⟩) (n + 1) cap)) w') :
    wpList P ops Q (o :: rest) a w1 :=
  wpList_plain hgd fun _ hK => wp_push_mk s x t ho k E B bytes ht hinfo v n xs hs hm z b off c hsl hx hr hbytes hbase fun g cap w' h1 h2 h3 => hK _ _ (h g cap w' h1 h2 h3)
/-- .. at a step of a region that draws its order -/
theorem step_push_mk {P : Program} {w1 : World} {ops : Array Oper} {o : Oper} {a : Act} {K : Act → World → Prop} {Q : Exit → Act → World → Prop} {F : Prop} (hgd : o.guard = none) (s x : Operand) (t : TypeId) (ho : o.op = .call { callee := .builtin .append, args := #[s, x], argTypes := #[t, t] })
    (k : IntKind) (E B bytes : Nat) (ht : P.underlying t = some (.slice E)) (hinfo : (P.info? E).map (fun i => (i.zero, i.size, i.bytes)) = some (some (.int k 0), 1, bytes))
    (v : Value) (n : Nat) (xs : List Int) (hs : a.eval s = v) (hm : Mk k E B w1 v n xs) (z : Int) (b off c : Nat) (hsl : Sl k w1 (some ⟨b, off, none⟩) 1 [z])
    (hx : a.eval x = .slice (some ⟨b, off, none⟩) 1 c) (hr : n + 1 ≤ 140737488355328) (hbytes : (n + 1) * bytes ≤ 140737488355328) (hbase : B ≤ w1.heap.size)
    (h : ∀ g cap w', Mk k E B w' (.slice (some ⟨g, 0, none⟩) (n + 1) cap) (n + 1) (xs ++ [z]) → w1.grownBy w' v.ownBlock → (v.ownBlock = some g ∨ g = w1.heap.size) → K (a.put o.dst (.slice (some ⟨g, 0, none⟩) (n + 1) cap)) w') :
    if Region.wanted o (yielded ops a.tmps) = true then Oper.wp P o a w1 K Q else F := by
  have hw : Region.wanted o (yielded ops a.tmps) = true := by simp [Region.wanted, hgd]
  rw [if_pos hw]
  exact wp_push_mk s x t ho k E B bytes ht hinfo v n xs hs hm z b off c hsl hx hr hbytes hbase h

/-- a beginning of a slice -/
theorem Sl.take {k : IntKind} {w : World} {a : Option Addr} {n m : Nat} {zs : List Int} (h : Sl k w a n zs) (hm : m ≤ n) : Sl k w a m (zs.take m) := by
  have hl := h.len
  have hr := h.reach
  refine ⟨by rw [List.length_take]; omega, by omega, fun z hz => h.wf z (List.mem_of_mem_take hz), fun i hi => ?_⟩
  obtain ⟨b, off, e, hc⟩ := h.cell i (by omega)
  refine ⟨b, off, e, ?_⟩
  rw [hc, List.getD_eq_getElem?_getD, List.getD_eq_getElem?_getD, List.getElem?_take, if_pos hi]
/-- 'append(out, src...)' as wpList_append_mk has it, and where the new slice lies -/
theorem wpList_append_at {P : Program} {w : World} {ops : Array Oper} {rest : List Oper} {o : Oper} {a : Act} {Q : Exit → Act → World → Prop}
    (hgd : o.guard = none) (s x : Operand) (t : TypeId) (ho : o.op = .call { callee := .builtin .append, args := #[s, x], argTypes := #[t, t] })
    (k : IntKind) (E B bytes : Nat) (ht : P.underlying t = some (.slice E)) (hinfo : (P.info? E).map (fun i => (i.zero, i.size, i.bytes)) = some (some (.int k 0), 1, bytes))
    (v : Value) (n : Nat) (xs : List Int) (hs : a.eval s = v) (hm : Mk k E B w v n xs)
    (src : Option Addr) (m c : Nat) (zs : List Int) (hx : a.eval x = .slice src m c) (hsl : Sl k w src m zs) (hc0 : src = none → c = 0)
    (hr : n + m ≤ 140737488355328) (hbytes : (n + m) * bytes ≤ 140737488355328) (hbase : B ≤ w.heap.size)
    (h : ∀ ao cap w', Mk k E B w' (.slice ao (n + m) cap) (n + m) (xs ++ zs) → w.grownBy w' v.ownBlock → (∀ g, (Value.slice ao (n + m) cap).ownBlock = some g → v.ownBlock = some g ∨ w.heap.size ≤ g) → (ao = none → n + m = 0 ∧ cap = 0) → wpList P ops Q rest (a.put o.dst (.slice ao (n + m) cap)) w') :
    wpList P ops Q (o :: rest) a w := by
  obtain ⟨i, hi, hz0, hz1, hz2⟩ := info_parts hinfo
  have hwf : ∀ z ∈ xs ++ zs, (Lit.int k z).wf = true := fun z hz => by
    rcases List.mem_append.1 hz with hz | hz
    · exact hm.wf z hz
    · exact hsl.wf z hz
  have fin : ∀ v' w', w'.ownsRow B E 1 v' (n + m) ((xs ++ zs).map (Value.int k)) → w.grownBy w' v.ownBlock → (v'.ownBlock = v.ownBlock ∨ v'.ownBlock = some w.heap.size) → wpList P ops Q rest (a.put o.dst v') w' := by
    intro v' w' h1 h2 h3
    have hmk : Mk k E B w' v' (n + m) (xs ++ zs) := ⟨h1, hr, hwf⟩
    obtain ⟨ao, cap, rfl, hn⟩ := hmk.slice
    refine h ao cap w' hmk h2 (fun g hg => ?_) hn
    rcases h3 with h3 | h3
    · exact .inl (by rw [← h3]; exact hg)
    · rw [h3] at hg; cases hg; exact .inr (Nat.le_refl _)
  cases src with
  | none =>
    have hm0 : m = 0 := by
      rcases Nat.eq_zero_or_pos m with h0 | h0
      · exact h0
      · obtain ⟨b, off, e⟩ := hsl.head h0; cases e
    subst hm0
    have hz : zs = [] := List.eq_nil_of_length_eq_zero hsl.len
    subst hz
    obtain rfl := hc0 rfl
    refine wpList_append_own_none hgd s x t ho B E i 1 ht hi v n _ hs hm.own hx ?_
    have := fin v w (by simpa using hm.own) (World.grownBy.refl _ _) (.inl rfl)
    simpa using this
  | some ad =>
    refine wpList_append_own_at w hgd s x t ho B E i (.int k 0) 1 bytes ht hi hz0 hz1 hz2 rfl (by decide) v n _ hs hm.own ad m c (zs.map (Value.int k)) hx (by rw [List.length_map, hsl.len, Nat.mul_one]) ?_ (ints_oneCell _ _) (by unfold maxLen; omega) hbytes hbase ?_
    · intro j u hj
      have hjl : j < m := by
        rcases Nat.lt_or_ge j m with h | h
        · exact h
        · rw [List.getElem?_eq_none (by rw [List.length_map, hsl.len]; exact h)] at hj; cases hj
      rw [getD_map_int k zs j (by rw [hsl.len]; exact hjl)] at hj
      simp only [Option.some.injEq] at hj
      subst hj
      obtain ⟨b, off, e, hc⟩ := hsl.cell j hjl
      simp only [Option.some.injEq] at e
      subst e
      have hplain : (⟨b, off, none⟩ : Addr).add j = ⟨b, off + j, none⟩ := by unfold Addr.add; split <;> simp_all
      rw [hplain]; exact hc
    · intro v' w' h1 h2 _ h4
      rw [← List.map_append] at h1
      exact fin v' w' h1 h2 h4

/-- Two slices of the call's own, in different blocks. -/
structure Two (k1 k2 : IntKind) (E1 E2 B : Nat) (w : World) (v1 : Value) (n1 : Nat) (xs : List Int) (v2 : Value) (n2 : Nat) (ys : List Int) : Prop where
  m1 : Mk k1 E1 B w v1 n1 xs
  m2 : Mk k2 E2 B w v2 n2 ys
  ap : ∀ g, v1.ownBlock = some g → v2.ownBlock ≠ some g
theorem Two.swap {k1 k2 : IntKind} {E1 E2 B : Nat} {w : World} {v1 v2 : Value} {n1 n2 : Nat} {xs ys : List Int} (h : Two k1 k2 E1 E2 B w v1 n1 xs v2 n2 ys) : Two k2 k1 E2 E1 B w v2 n2 ys v1 n1 xs :=
  ⟨h.m2, h.m1, fun g e1 e2 => h.ap g e2 e1⟩
theorem Two.push1 {k1 k2 : IntKind} {E1 E2 B : Nat} {w w1 : World} {v1 v2 v : Value} {n1 n2 n : Nat} {xs ys zs : List Int} (h : Two k1 k2 E1 E2 B w v1 n1 xs v2 n2 ys) (hm : Mk k1 E1 B w1 v n zs) (hg : w.grownBy w1 v1.ownBlock) (hf : ∀ g, v.ownBlock = some g → v1.ownBlock = some g ∨ w.heap.size ≤ g) :
    Two k1 k2 E1 E2 B w1 v n zs v2 n2 ys := by
  refine ⟨hm, h.m2.keepRow hg ?_, fun g e1 e2 => ?_⟩
  · cases hv : v2.ownBlock with
    | none => exact .inl rfl
    | some y => exact .inr fun e => h.ap y e.symm hv
  · rcases hf g e1 with h1 | h1
    · exact h.ap g h1 e2
    · have := (h.m2.own_ge g e2).2; omega
theorem Two.push2 {k1 k2 : IntKind} {E1 E2 B : Nat} {w w1 : World} {v1 v2 v : Value} {n1 n2 n : Nat} {xs ys zs : List Int} (h : Two k1 k2 E1 E2 B w v1 n1 xs v2 n2 ys) (hm : Mk k2 E2 B w1 v n zs) (hg : w.grownBy w1 v2.ownBlock) (hf : ∀ g, v.ownBlock = some g → v2.ownBlock = some g ∨ w.heap.size ≤ g) :
    Two k1 k2 E1 E2 B w1 v1 n1 xs v n zs := (h.swap.push1 hm hg hf).swap
theorem Two.alloc {k1 k2 : IntKind} {E1 E2 B : Nat} {w : World} {v1 v2 : Value} {n1 n2 : Nat} {xs ys : List Int} (h : Two k1 k2 E1 E2 B w v1 n1 xs v2 n2 ys) (o : Obj) : Two k1 k2 E1 E2 B (w.alloc o) v1 n1 xs v2 n2 ys := ⟨h.m1.alloc o, h.m2.alloc o, h.ap⟩
theorem Two.keep {k1 k2 : IntKind} {E1 E2 B : Nat} {w w1 : World} {v1 v2 : Value} {n1 n2 : Nat} {xs ys : List Int} (h : Two k1 k2 E1 E2 B w v1 n1 xs v2 n2 ys) (hb : Below w.heap.size w w1) : Two k1 k2 E1 E2 B w1 v1 n1 xs v2 n2 ys := ⟨h.m1.keep hb, h.m2.keep hb, h.ap⟩

theorem getD_take_lt {zs : List Int} {m i : Nat} (h : i < m) : (zs.take m).getD i 0 = zs.getD i 0 := by
  rw [List.getD_eq_getElem?_getD, List.getD_eq_getElem?_getD, List.getElem?_take, if_pos h]
theorem byte_wf {z : Int} (h0 : 0 ≤ z) (h1 : z ≤ 255) : (Lit.int .u8 z).wf = true := by
  simpa [Lit.wf, IntKind.min, IntKind.max, IntKind.signed, IntKind.bits] using And.intro h0 h1
theorem setCell_but (w : World) (g i : Nat) (u : Value) : w.grownBy (w.setCell ⟨g, i, none⟩ u) (some g) :=
  ⟨rfl, rfl, rfl, by simp, fun k _ hk => Below.heap_setCell w ⟨g, i, none⟩ u k (by simpa using hk)⟩
theorem grown_then {a b c : World} {row row' : Option Nat} (h : a.grownBy b row) (k : b.grownBy c row') (hr : ∀ j, row' = some j → row = some j ∨ a.heap.size ≤ j) : a.grownBy c row :=
  ⟨k.os.trans h.os, k.tape.trans h.tape, k.output.trans h.output, Nat.le_trans h.size k.size, fun i hi hn => (k.block i (Nat.lt_of_lt_of_le hi h.size) (fun e => by
    rcases hr i e.symm with e' | e'
    · exact hn e'.symm
    · omega)).trans (h.block i hi hn)⟩

/-- a slice of the call's own has grown to another: where that lies and what the world keeps -/
structure Grew (k : IntKind) (E B : Nat) (w w' : World) (v v' : Value) (n : Nat) (zs : List Int) : Prop where
  row : Mk k E B w' v' n zs
  grown : w.grownBy w' v.ownBlock
  lies : ∀ g, v'.ownBlock = some g → v.ownBlock = some g ∨ w.heap.size ≤ g
theorem Grew.refl {k : IntKind} {E B : Nat} {w : World} {v : Value} {n : Nat} {zs : List Int} (h : Mk k E B w v n zs) : Grew k E B w w v v n zs := ⟨h, World.grownBy.refl _ _, fun _ hg => .inl hg⟩
theorem Grew.trans {k : IntKind} {E B : Nat} {w w' w2 : World} {v v' v2 : Value} {n n' : Nat} {zs zs' : List Int} (h : Grew k E B w w' v v' n zs) (q : Grew k E B w' w2 v' v2 n' zs') : Grew k E B w w2 v v2 n' zs' :=
  ⟨q.row, grown_then h.grown q.grown h.lies, fun g hg => by
    rcases q.lies g hg with e | e
    · exact h.lies g e
    · exact .inr (Nat.le_trans h.grown.size e)⟩
theorem Grew.below {k : IntKind} {E B : Nat} {w w' : World} {v v' : Value} {n n0 : Nat} {zs zs0 : List Int} (h : Grew k E B w w' v v' n zs) (hm : Mk k E B w v n0 zs0) (hB : B ≤ w.heap.size) : Below B w w' :=
  Below.of_row h.grown (fun g hg => (hm.own_ge g hg).1) hB


/-- a guarded operation that is wanted walks as one with no guard: ahead of wpList_append_at and its like -/
theorem wpList_unguard {P : Program} {ops : Array Oper} {rest : List Oper} {o : Oper} {a : Act} {w : World} {Q : Exit → Act → World → Prop} (hw : Region.wanted o (yielded ops a.tmps) = true) (h : wpList P ops Q ({ o with guard := none } :: rest) a w) : wpList P ops Q (o :: rest) a w := by
  unfold wpList at h ⊢
  rw [if_pos hw]
  rw [if_pos (by simp [Region.wanted])] at h
  exact h

/-- 'append(out, src...)' at any world, src with an element at least: as a step of a region that draws its order -/
theorem wp_some_mk {P : Program} {w1 : World} {o : Oper} {a : Act} {K : Act → World → Prop} {Q : Exit → Act → World → Prop} (s x : Operand) (t : TypeId) (ho : o.op = .call { callee := .builtin .append, args := #[s, x], argTypes := #[t, t] })
    (k : IntKind) (E B bytes : Nat) (ht : P.underlying t = some (.slice E)) (hinfo : (P.info? E).map (fun i => (i.zero, i.size, i.bytes)) = some (some (.int k 0), 1, bytes))
    (v : Value) (n : Nat) (xs : List Int) (hs : a.eval s = v) (hm : Mk k E B w1 v n xs) (b off m c : Nat) (zs : List Int) (hsl : Sl k w1 (some ⟨b, off, none⟩) m zs) (hm0 : 0 < m)
    (hx : a.eval x = .slice (some ⟨b, off, none⟩) m c) (hr : n + m ≤ 140737488355328) (hbytes : (n + m) * bytes ≤ 140737488355328) (hbase : B ≤ w1.heap.size)
    (h : ∀ g cap w', Mk k E B w' (.slice (some ⟨g, 0, none⟩) (n + m) cap) (n + m) (xs ++ zs) → w1.grownBy w' v.ownBlock → (v.ownBlock = some g ∨ g = w1.heap.size) → K (a.put o.dst (.slice (some ⟨g, 0, none⟩) (n + m) cap)) w') :
    Oper.wp P o a w1 K Q := by
  obtain ⟨i, hi, hz0, hz1, hz2⟩ := info_parts hinfo
  have hlen := hsl.len
  refine wp_append_lies w1 s x t ho B E i (.int k 0) 1 bytes ht hi hz0 hz1 hz2 rfl (by decide) v n _ hs hm.own ⟨b, off, none⟩ m c (zs.map (Value.int k)) hx (by simp [hlen]) ?_ (ints_oneCell k zs) hm0 (by unfold maxLen; omega) hbytes hbase w1.heap.size rfl ?_
  · intro j u hj
    have hj2 : j < zs.length := by
      rcases Nat.lt_or_ge j zs.length with h0 | h0
      · exact h0
      · rw [List.getElem?_eq_none (by simpa using h0)] at hj; cases hj
    rw [getD_map_int k zs j hj2] at hj
    have hu : u = .int k (zs.getD j 0) := by simpa using hj.symm
    have hc := hsl.at (i := j) (by omega)
    have hplain : (⟨b, off, none⟩ : Addr).add j = ⟨b, off + j, none⟩ := by unfold Addr.add; split <;> simp_all
    rw [hplain, hu]; exact hc
  · intro g cap w' h1 h2 h3 _
    refine h g cap w' ⟨by rw [List.map_append]; exact h1, hr, fun y hy => ?_⟩ h2 h3
    rcases List.mem_append.1 hy with hy | hy
    · exact hm.wf y hy
    · exact hsl.wf y hy
theorem step_some_mk {P : Program} {w1 : World} {ops : Array Oper} {o : Oper} {a : Act} {K : Act → World → Prop} {Q : Exit → Act → World → Prop} {F : Prop} (hgd : o.guard = none) (s x : Operand) (t : TypeId) (ho : o.op = .call { callee := .builtin .append, args := #[s, x], argTypes := #[t, t] })
    (k : IntKind) (E B bytes : Nat) (ht : P.underlying t = some (.slice E)) (hinfo : (P.info? E).map (fun i => (i.zero, i.size, i.bytes)) = some (some (.int k 0), 1, bytes))
    (v : Value) (n : Nat) (xs : List Int) (hs : a.eval s = v) (hm : Mk k E B w1 v n xs) (b off m c : Nat) (zs : List Int) (hsl : Sl k w1 (some ⟨b, off, none⟩) m zs) (hm0 : 0 < m)
    (hx : a.eval x = .slice (some ⟨b, off, none⟩) m c) (hr : n + m ≤ 140737488355328) (hbytes : (n + m) * bytes ≤ 140737488355328) (hbase : B ≤ w1.heap.size)
    (h : ∀ g cap w', Mk k E B w' (.slice (some ⟨g, 0, none⟩) (n + m) cap) (n + m) (xs ++ zs) → w1.grownBy w' v.ownBlock → (v.ownBlock = some g ∨ g = w1.heap.size) → K (a.put o.dst (.slice (some ⟨g, 0, none⟩) (n + m) cap)) w') :
    if Region.wanted o (yielded ops a.tmps) = true then Oper.wp P o a w1 K Q else F := by
  have hw : Region.wanted o (yielded ops a.tmps) = true := by simp [Region.wanted, hgd]
  rw [if_pos hw]
  exact wp_some_mk s x t ho k E B bytes ht hinfo v n xs hs hm b off m c zs hsl hm0 hx hr hbytes hbase h

/-- a part of a slice -/
theorem Sl.sub {k : IntKind} {w : World} {b off n : Nat} {zs : List Int} (h : Sl k w (some ⟨b, off, none⟩) n zs) (lo m : Nat) (hm : lo + m ≤ n) : Sl k w (some ⟨b, off + lo, none⟩) m ((zs.drop lo).take m) := by
  have hl := h.len
  have hr := h.reach
  refine ⟨by rw [List.length_take, List.length_drop]; omega, by omega, fun z hz => h.wf z (List.mem_of_mem_drop (List.mem_of_mem_take hz)), fun i hi => ?_⟩
  refine ⟨b, off + lo, rfl, ?_⟩
  have hc := h.at (i := lo + i) (by omega)
  rw [show off + lo + i = off + (lo + i) by omega, hc, List.getD_eq_getElem?_getD, List.getD_eq_getElem?_getD, List.getElem?_take, if_pos hi, List.getElem?_drop]
end Go.Proofs.YtkhcfmnebflgkaaDoor
/-
  A block of the call's own: its cells and marks; stores into it.
-/
namespace Go.Proofs.YtkhcfmnebflgkaaDoor
open Go Go.RowKit

theorem cells_of {w : World} {b : Nat} {cs : Array Value} {t : TypeId} {fz : Nat × Nat} (h : w.heap[b]? = some (.cells cs t fz)) (i : Nat) : w.cell? ⟨b, i, none⟩ = cs[i]? := by simp [World.cell?, h]
theorem frozen_of {w : World} {b : Nat} {cs : Array Value} {t : TypeId} (h : w.heap[b]? = some (.cells cs t (0, 0))) (i : Nat) : w.frozen? ⟨b, i, none⟩ = false := by simp [World.frozen?, h]
theorem grown_set {a w : World} {row : Option Nat} {b : Nat} (h : a.grownBy w row) (hb : a.heap.size ≤ b) (i : Nat) (u : Value) : a.grownBy (w.setCell ⟨b, i, none⟩ u) row := grown_then h (setCell_but w b i u) (fun k hk => by cases hk; exact .inr hb)
theorem grown_self {a w : World} {b : Nat} (h : a.grownBy w (some b)) (i : Nat) (u : Value) : a.grownBy (w.setCell ⟨b, i, none⟩ u) (some b) := grown_then h (setCell_but w b i u) (fun _ hk => .inl hk)
theorem blk_set {w : World} {b : Nat} {cs : Array Value} {t : TypeId} {fz : Nat × Nat} (h : w.heap[b]? = some (.cells cs t fz)) (i : Nat) (u : Value) : (w.setCell ⟨b, i, none⟩ u).heap[b]? = some (.cells (cs.setIfInBounds i u) t fz) := by
  have hlt := lt_of_block h
  have h' : w.heap[b] = .cells cs t fz := by simpa [Array.getElem?_eq_getElem hlt] using h
  show (w.heap.modify b _)[b]? = _
  rw [Array.getElem?_eq_getElem (by simpa using hlt), Array.getElem_modify_self, h']
  rfl
theorem blk_set_ne {w : World} {b k : Nat} {o : Obj} (h : w.heap[k]? = some o) (hk : k ≠ b) (i : Nat) (u : Value) : (w.setCell ⟨b, i, none⟩ u).heap[k]? = some o := (Below.heap_setCell w ⟨b, i, none⟩ u k hk).trans h
end Go.Proofs.YtkhcfmnebflgkaaDoor
/-
  append of whatever slice, none of its elements included, as a step of a region that draws its order.
-/
namespace Go.Proofs.YtkhcfmnebflgkaaDoor
open Go Go.RowKit

theorem wp_slice_mk {P : Program} {w : World} {o : Oper} {a : Act} {K : Act → World → Prop} {Q : Exit → Act → World → Prop} (s x : Operand) (t : TypeId) (ho : o.op = .call { callee := .builtin .append, args := #[s, x], argTypes := #[t, t] })
    (k : IntKind) (E B bytes : Nat) (ht : P.underlying t = some (.slice E)) (hinfo : (P.info? E).map (fun i => (i.zero, i.size, i.bytes)) = some (some (.int k 0), 1, bytes))
    (v : Value) (n : Nat) (xs : List Int) (hs : a.eval s = v) (hm : Mk k E B w v n xs)
    (ad : Option Addr) (m c : Nat) (zs : List Int) (had : ∃ b off, ad = some ⟨b, off, none⟩) (hx : a.eval x = .slice ad m c) (hsl : Sl k w ad m zs)
    (hr : n + m ≤ 140737488355328) (hbytes : (n + m) * bytes ≤ 140737488355328) (hbase : B ≤ w.heap.size)
    (h : ∀ ao cap w', Mk k E B w' (.slice ao (n + m) cap) (n + m) (xs ++ zs) → w.grownBy w' v.ownBlock → (∀ g, (Value.slice ao (n + m) cap).ownBlock = some g → v.ownBlock = some g ∨ w.heap.size ≤ g) → (ao = none → n + m = 0 ∧ cap = 0) → K (a.put o.dst (.slice ao (n + m) cap)) w') :
    Oper.wp P o a w K Q := by
  obtain ⟨b, off, rfl⟩ := had
  obtain ⟨i, hi, hz0, hz1, hz2⟩ := info_parts hinfo
  have hwf : ∀ z ∈ xs ++ zs, (Lit.int k z).wf = true := fun z hz => by
    rcases List.mem_append.1 hz with hz | hz
    · exact hm.wf z hz
    · exact hsl.wf z hz
  have fin : ∀ v' w', w'.ownsRow B E 1 v' (n + m) ((xs ++ zs).map (Value.int k)) → w.grownBy w' v.ownBlock → (v'.ownBlock = v.ownBlock ∨ v'.ownBlock = some w.heap.size) → K (a.put o.dst v') w' := by
    intro v' w' h1 h2 h3
    have hmk : Mk k E B w' v' (n + m) (xs ++ zs) := ⟨h1, hr, hwf⟩
    obtain ⟨ao, cap, rfl, hn⟩ := hmk.slice
    refine h ao cap w' hmk h2 (fun g hg => ?_) hn
    rcases h3 with h3 | h3
    · exact .inl (by rw [← h3]; exact hg)
    · rw [h3] at hg; cases hg; exact .inr (Nat.le_refl _)
  have hnews : ∀ j u, (zs.map (Value.int k))[j]? = some u → w.cell? ((⟨b, off, none⟩ : Addr).add j) = some u := by
    intro j u hj
    have hjl : j < m := by
      rcases Nat.lt_or_ge j m with h | h
      · exact h
      · rw [List.getElem?_eq_none (by rw [List.length_map, hsl.len]; exact h)] at hj; cases hj
    rw [getD_map_int k zs j (by rw [hsl.len]; exact hjl)] at hj
    simp only [Option.some.injEq] at hj
    subst hj
    have hplain : (⟨b, off, none⟩ : Addr).add j = ⟨b, off + j, none⟩ := by unfold Addr.add; split <;> simp_all
    rw [hplain]; exact hsl.at hjl
  obtain ⟨v', w', hrun, h2, h3, _, h5⟩ := run_append_own_at (P := P) w B t o.type E i (.int k 0) 1 bytes ht hi hz0 hz1 hz2 rfl (by decide) v n _ hm.own ⟨b, off, none⟩ m c (zs.map (Value.int k)) (by rw [List.length_map, hsl.len, Nat.mul_one]) hnews (ints_oneCell _ _) (by unfold maxLen; omega) hbytes hbase
  rw [← List.map_append] at h2
  unfold Oper.wp execOp
  simp only [ho, resolve, invoke, builtin, Sem.run_bind, Sem.run_pure, Result.andThen_ok, List.map_toArray, List.map_cons, List.map_nil, hs, hx, hrun]
  exact fin v' w' h2 h3 h5

theorem step_slice_mk {P : Program} {w : World} {ops : Array Oper} {o : Oper} {a : Act} {K : Act → World → Prop} {Q : Exit → Act → World → Prop} {F : Prop} (hgd : o.guard = none) (s x : Operand) (t : TypeId) (ho : o.op = .call { callee := .builtin .append, args := #[s, x], argTypes := #[t, t] })
    (k : IntKind) (E B bytes : Nat) (ht : P.underlying t = some (.slice E)) (hinfo : (P.info? E).map (fun i => (i.zero, i.size, i.bytes)) = some (some (.int k 0), 1, bytes))
    (v : Value) (n : Nat) (xs : List Int) (hs : a.eval s = v) (hm : Mk k E B w v n xs)
    (ad : Option Addr) (m c : Nat) (zs : List Int) (had : ∃ b off, ad = some ⟨b, off, none⟩) (hx : a.eval x = .slice ad m c) (hsl : Sl k w ad m zs)
    (hr : n + m ≤ 140737488355328) (hbytes : (n + m) * bytes ≤ 140737488355328) (hbase : B ≤ w.heap.size)
    (h : ∀ ao cap w', Mk k E B w' (.slice ao (n + m) cap) (n + m) (xs ++ zs) → w.grownBy w' v.ownBlock → (∀ g, (Value.slice ao (n + m) cap).ownBlock = some g → v.ownBlock = some g ∨ w.heap.size ≤ g) → (ao = none → n + m = 0 ∧ cap = 0) → K (a.put o.dst (.slice ao (n + m) cap)) w') :
    if Region.wanted o (yielded ops a.tmps) = true then Oper.wp P o a w K Q else F := by
  have hw : Region.wanted o (yielded ops a.tmps) = true := by simp [Region.wanted, hgd]
  rw [if_pos hw]
  exact wp_slice_mk s x t ho k E B bytes ht hinfo v n xs hs hm ad m c zs had hx hsl hr hbytes hbase h
end Go.Proofs.YtkhcfmnebflgkaaDoor
/-
  Two headers compared with ==.
-/
namespace Go.Proofs.YtkhcfmnebflgkaaDoor
open Go Go.RowKit

def eqB (a b : Hd) : Bool := decide (a.kind = b.kind ∧ a.tos = b.tos ∧ a.id = b.id ∧ a.fixed = b.fixed ∧ a.ttl = b.ttl ∧ a.frm = b.frm ∧ a.to = b.to ∧ a.fromPort = b.fromPort ∧ a.toPort = b.toPort ∧ a.check = b.check ∧ a.marker = b.marker ∧ a.type = b.type ∧ a.seq = b.seq ∧ a.time = b.time ∧ a.source = b.source)
theorem eqB_self (a : Hd) : eqB a a = true := by unfold eqB; simp
theorem eqB_iff (a b : Hd) : eqB a b = true ↔ a = b := by
  constructor
  · intro h
    have h := of_decide_eq_true h
    obtain ⟨h0, h1, h2, h3, h4, h5, h6, h7, h8, h9, h10, h11, h12, h13, h14⟩ := h
    cases a; cases b; simp only at *; subst h0; subst h1; subst h2; subst h3; subst h4; subst h5; subst h6; subst h7; subst h8; subst h9; subst h10; subst h11; subst h12; subst h13; subst h14; rfl
  · rintro rfl; exact eqB_self a
theorem eqB_comm (a b : Hd) : eqB a b = eqB b a := by
  apply Bool.eq_iff_iff.2; rw [eqB_iff, eqB_iff]; exact eq_comm

theorem if_and_ok (W : World) (p q : Prop) [Decidable p] [Decidable q] (x : Result Value) (hx : x = .ok (.bool (decide q)) W) : (if p then x else .ok (.bool false) W) = .ok (.bool (decide (p ∧ q))) W := by
  by_cases hp : p <;> simp [hp, hx]
theorem if_ok (W : World) (p : Prop) [Decidable p] : (if p then (.ok (.bool true) W : Result Value) else .ok (.bool false) W) = .ok (.bool (decide p)) W := by
  by_cases hp : p <;> simp [hp]

theorem eql_hd (a b : Hd) (W : World) : Sem.run Tryd.prog (binOp .eql 23 (.agg #[.int .i64 a.kind, .int .i64 a.tos, .int .i64 a.id, .int .i64 a.fixed, .int .i64 a.ttl, .int .i64 a.frm, .int .i64 a.to, .int .i64 a.fromPort, .int .i64 a.toPort, .int .i64 a.check, .int .i64 a.marker, .int .i64 a.type, .int .i64 a.seq, .int .i64 a.time, .int .i64 a.source]) (.agg #[.int .i64 b.kind, .int .i64 b.tos, .int .i64 b.id, .int .i64 b.fixed, .int .i64 b.ttl, .int .i64 b.frm, .int .i64 b.to, .int .i64 b.fromPort, .int .i64 b.toPort, .int .i64 b.check, .int .i64 b.marker, .int .i64 b.type, .int .i64 b.seq, .int .i64 b.time, .int .i64 b.source])) W = .ok (.bool (eqB a b)) W := by
  have u3 := Tryd.underlying3
  have a3 := Tryd.isAgg3
  have z3 := Tryd.sizeOf3
  have hS : Tryd.prog.underlying 23 = some (.struct (Tryd.prog.fieldsOf 23)) := by kernel_rfl
  have hp : Tryd.prog.stoodInHeld 23 = false := by kernel_rfl
  rw [run_eql_struct, show (10000 : Nat) = 9999 + 1 from rfl, run_equalIn_agg W 9999 23 _ _ hS hp]
  simp only [Program.fieldsOf, Tryd.underlying23]
  go_simp
  unfold eqB
  clear hS hp u3 a3 z3
  iterate 14 refine if_and_ok _ _ _ _ ?_
  exact if_ok _ _
end Go.Proofs.YtkhcfmnebflgkaaDoor
/-
  A header in a block of the call's own: its cells and marks at every later world; stores into such a block.
-/
namespace Go.Proofs.YtkhcfmnebflgkaaDoor
open Go Go.RowKit

/-- the block of a header that the call laid first, at every later world -/
theorem hbox_blk (h : Hd) (w wk : World) (hb : Below (w.heap.size + 1) (w.alloc (.cells #[.int .i64 h.kind, .int .i64 h.tos, .int .i64 h.id, .int .i64 h.fixed, .int .i64 h.ttl, .int .i64 h.frm, .int .i64 h.to, .int .i64 h.fromPort, .int .i64 h.toPort, .int .i64 h.check, .int .i64 h.marker, .int .i64 h.type, .int .i64 h.seq, .int .i64 h.time, .int .i64 h.source] 23)) wk) : wk.heap[w.heap.size]? = some (.cells #[.int .i64 h.kind, .int .i64 h.tos, .int .i64 h.id, .int .i64 h.fixed, .int .i64 h.ttl, .int .i64 h.frm, .int .i64 h.to, .int .i64 h.fromPort, .int .i64 h.toPort, .int .i64 h.check, .int .i64 h.marker, .int .i64 h.type, .int .i64 h.seq, .int .i64 h.time, .int .i64 h.source] 23 (0, 0)) := (hb.block w.heap.size (by omega)).trans (heap_alloc_new w _)
/-- a header stored whole over another one, at a world that is not written out -/
theorem at_put {Q : World → Prop} (h x : Hd) (w : World) (b : Nat) (K : w.heap[b]? = some (.cells #[.int .i64 x.kind, .int .i64 x.tos, .int .i64 x.id, .int .i64 x.fixed, .int .i64 x.ttl, .int .i64 x.frm, .int .i64 x.to, .int .i64 x.fromPort, .int .i64 x.toPort, .int .i64 x.check, .int .i64 x.marker, .int .i64 x.type, .int .i64 x.seq, .int .i64 x.time, .int .i64 x.source] 23 (0, 0))) (H : ∀ w6, w6.heap[b]? = some (.cells #[.int .i64 h.kind, .int .i64 h.tos, .int .i64 h.id, .int .i64 h.fixed, .int .i64 h.ttl, .int .i64 h.frm, .int .i64 h.to, .int .i64 h.fromPort, .int .i64 h.toPort, .int .i64 h.check, .int .i64 h.marker, .int .i64 h.type, .int .i64 h.seq, .int .i64 h.time, .int .i64 h.source] 23 (0, 0)) → w.grownBy w6 (some b) → Q w6) :
    Q (((((((((((((((w.setCell ⟨b, 0, none⟩ (.int .i64 h.kind)).setCell ⟨b, 1, none⟩ (.int .i64 h.tos)).setCell ⟨b, 2, none⟩ (.int .i64 h.id)).setCell ⟨b, 3, none⟩ (.int .i64 h.fixed)).setCell ⟨b, 4, none⟩ (.int .i64 h.ttl)).setCell ⟨b, 5, none⟩ (.int .i64 h.frm)).setCell ⟨b, 6, none⟩ (.int .i64 h.to)).setCell ⟨b, 7, none⟩ (.int .i64 h.fromPort)).setCell ⟨b, 8, none⟩ (.int .i64 h.toPort)).setCell ⟨b, 9, none⟩ (.int .i64 h.check)).setCell ⟨b, 10, none⟩ (.int .i64 h.marker)).setCell ⟨b, 11, none⟩ (.int .i64 h.type)).setCell ⟨b, 12, none⟩ (.int .i64 h.seq)).setCell ⟨b, 13, none⟩ (.int .i64 h.time)).setCell ⟨b, 14, none⟩ (.int .i64 h.source)) := by
  refine H _ ?_ ?_
  · have K1 := blk_set (blk_set (blk_set (blk_set (blk_set (blk_set (blk_set (blk_set (blk_set (blk_set (blk_set (blk_set (blk_set (blk_set (blk_set (K) 0 (.int .i64 h.kind)) 1 (.int .i64 h.tos)) 2 (.int .i64 h.id)) 3 (.int .i64 h.fixed)) 4 (.int .i64 h.ttl)) 5 (.int .i64 h.frm)) 6 (.int .i64 h.to)) 7 (.int .i64 h.fromPort)) 8 (.int .i64 h.toPort)) 9 (.int .i64 h.check)) 10 (.int .i64 h.marker)) 11 (.int .i64 h.type)) 12 (.int .i64 h.seq)) 13 (.int .i64 h.time)) 14 (.int .i64 h.source)
    simpa only [List.setIfInBounds_toArray, List.set_cons_succ, List.set_cons_zero] using K1
  · iterate 15 refine grown_self ?_ _ _
    exact World.grownBy.refl _ _
end Go.Proofs.YtkhcfmnebflgkaaDoor
/-
  A compressed packet in parts (layer 8) as numbers, a header, and a slice of bytes.
-/
namespace Go.Proofs.YtkhcfmnebflgkaaDoor
open Go Go.RowKit

structure Sm where
  ctx : Int
  fmt : Int
  num : Int
  time : Int
  mark : Int
  id : Int
  udp : Int
  h : Hd
  ds : Int
  df : Int
  chk : Int
  pa : Option Addr
  pn : Nat
  pc : Nat
  pz : List Int

/-- each number is one of int's -/
structure Sm.Fits (s : Sm) : Prop where
  ctx : -9223372036854775808 ≤ s.ctx ∧ s.ctx ≤ 9223372036854775807
  fmt : -9223372036854775808 ≤ s.fmt ∧ s.fmt ≤ 9223372036854775807
  num : -9223372036854775808 ≤ s.num ∧ s.num ≤ 9223372036854775807
  time : -9223372036854775808 ≤ s.time ∧ s.time ≤ 9223372036854775807
  mark : -9223372036854775808 ≤ s.mark ∧ s.mark ≤ 9223372036854775807
  id : -9223372036854775808 ≤ s.id ∧ s.id ≤ 9223372036854775807
  udp : -9223372036854775808 ≤ s.udp ∧ s.udp ≤ 9223372036854775807
  ds : -9223372036854775808 ≤ s.ds ∧ s.ds ≤ 9223372036854775807
  df : -9223372036854775808 ≤ s.df ∧ s.df ≤ 9223372036854775807
  chk : -9223372036854775808 ≤ s.chk ∧ s.chk ≤ 9223372036854775807
  h : s.h.Fits

/-- the payload in a world -/
structure Sm.In (s : Sm) (w : World) : Prop where
  sl : Sl .u8 w s.pa s.pn s.pz
  nil : s.pa = none → s.pc = 0
  cap : s.pn ≤ s.pc
theorem Sm.In.keep {s : Sm} {w w' : World} (h : s.In w) (hb : Below w.heap.size w w') : s.In w' := ⟨h.sl.keep hb, h.nil, h.cap⟩
end Go.Proofs.YtkhcfmnebflgkaaDoor
/-
  A packet in parts in a block: read whole (one step of a plain region), and its header.
-/
namespace Go.Proofs.YtkhcfmnebflgkaaDoor
open Go Go.RowKit

theorem info_sm : (Tryd.prog.info? 28).map (·.size) = some 26 := by kernel_rfl
theorem sm_range {W : World} {g : Nat} {s : Sm} (h : W.heap[g]? = some (.cells #[.int .i64 s.ctx, .int .i64 s.fmt, .int .i64 s.num, .int .i64 s.time, .int .i64 s.mark, .int .i64 s.id, .int .i64 s.udp, .int .i64 s.h.kind, .int .i64 s.h.tos, .int .i64 s.h.id, .int .i64 s.h.fixed, .int .i64 s.h.ttl, .int .i64 s.h.frm, .int .i64 s.h.to, .int .i64 s.h.fromPort, .int .i64 s.h.toPort, .int .i64 s.h.check, .int .i64 s.h.marker, .int .i64 s.h.type, .int .i64 s.h.seq, .int .i64 s.h.time, .int .i64 s.h.source, .int .i64 s.ds, .int .i64 s.df, .int .i64 s.chk, .slice s.pa s.pn s.pc] 28 (0, 0))) : W.rangeAt g 0 [.int .i64 s.ctx, .int .i64 s.fmt, .int .i64 s.num, .int .i64 s.time, .int .i64 s.mark, .int .i64 s.id, .int .i64 s.udp, .int .i64 s.h.kind, .int .i64 s.h.tos, .int .i64 s.h.id, .int .i64 s.h.fixed, .int .i64 s.h.ttl, .int .i64 s.h.frm, .int .i64 s.h.to, .int .i64 s.h.fromPort, .int .i64 s.h.toPort, .int .i64 s.h.check, .int .i64 s.h.marker, .int .i64 s.h.type, .int .i64 s.h.seq, .int .i64 s.h.time, .int .i64 s.h.source, .int .i64 s.ds, .int .i64 s.df, .int .i64 s.chk, .slice s.pa s.pn s.pc] := fun j v hv => by
  rw [Nat.zero_add, cells_of h, List.getElem?_toArray]; exact hv
/-- 'load' of the whole packet in a plain region: behind 'refine wp_region_lit ?_' -/
theorem wpList_load_sm {ops : Array Oper} {rest : List Oper} {op : Oper} {a : Act} {w : World} {Q : Exit → Act → World → Prop} {g : Nat} {s : Sm} (h : w.heap[g]? = some (.cells #[.int .i64 s.ctx, .int .i64 s.fmt, .int .i64 s.num, .int .i64 s.time, .int .i64 s.mark, .int .i64 s.id, .int .i64 s.udp, .int .i64 s.h.kind, .int .i64 s.h.tos, .int .i64 s.h.id, .int .i64 s.h.fixed, .int .i64 s.h.ttl, .int .i64 s.h.frm, .int .i64 s.h.to, .int .i64 s.h.fromPort, .int .i64 s.h.toPort, .int .i64 s.h.check, .int .i64 s.h.marker, .int .i64 s.h.type, .int .i64 s.h.seq, .int .i64 s.h.time, .int .i64 s.h.source, .int .i64 s.ds, .int .i64 s.df, .int .i64 s.chk, .slice s.pa s.pn s.pc] 28 (0, 0)))
    (hgd : op.guard = none) (x : Operand) (ho : op.op = .load 28 x) (hx : a.eval x = .pointer (some ⟨g, 0, none⟩)) (H : wpList Tryd.prog ops Q rest (a.put op.dst (.agg #[.int .i64 s.ctx, .int .i64 s.fmt, .int .i64 s.num, .int .i64 s.time, .int .i64 s.mark, .int .i64 s.id, .int .i64 s.udp, .int .i64 s.h.kind, .int .i64 s.h.tos, .int .i64 s.h.id, .int .i64 s.h.fixed, .int .i64 s.h.ttl, .int .i64 s.h.frm, .int .i64 s.h.to, .int .i64 s.h.fromPort, .int .i64 s.h.toPort, .int .i64 s.h.check, .int .i64 s.h.marker, .int .i64 s.h.type, .int .i64 s.h.seq, .int .i64 s.h.time, .int .i64 s.h.source, .int .i64 s.ds, .int .i64 s.df, .int .i64 s.chk, .slice s.pa s.pn s.pc])) w) : wpList Tryd.prog ops Q (op :: rest) a w :=
  wpList_load_mid hgd 28 x ho g 0 hx [.int .i64 s.ctx, .int .i64 s.fmt, .int .i64 s.num, .int .i64 s.time, .int .i64 s.mark, .int .i64 s.id, .int .i64 s.udp, .int .i64 s.h.kind, .int .i64 s.h.tos, .int .i64 s.h.id, .int .i64 s.h.fixed, .int .i64 s.h.ttl, .int .i64 s.h.frm, .int .i64 s.h.to, .int .i64 s.h.fromPort, .int .i64 s.h.toPort, .int .i64 s.h.check, .int .i64 s.h.marker, .int .i64 s.h.type, .int .i64 s.h.seq, .int .i64 s.h.time, .int .i64 s.h.source, .int .i64 s.ds, .int .i64 s.df, .int .i64 s.chk, .slice s.pa s.pn s.pc] _ (sm_range h) Tryd.underlying28 rfl info_sm H
/-- a packet in parts and its header in two blocks -/
structure VB (W : World) (g : Nat) (s : Sm) : Prop where
  sb : W.heap[g]? = some (.cells #[.int .i64 s.ctx, .int .i64 s.fmt, .int .i64 s.num, .int .i64 s.time, .int .i64 s.mark, .int .i64 s.id, .int .i64 s.udp, .int .i64 s.h.kind, .int .i64 s.h.tos, .int .i64 s.h.id, .int .i64 s.h.fixed, .int .i64 s.h.ttl, .int .i64 s.h.frm, .int .i64 s.h.to, .int .i64 s.h.fromPort, .int .i64 s.h.toPort, .int .i64 s.h.check, .int .i64 s.h.marker, .int .i64 s.h.type, .int .i64 s.h.seq, .int .i64 s.h.time, .int .i64 s.h.source, .int .i64 s.ds, .int .i64 s.df, .int .i64 s.chk, .slice s.pa s.pn s.pc] 28 (0, 0))
  hh : W.heap[g + 1]? = some (.cells #[.int .i64 s.h.kind, .int .i64 s.h.tos, .int .i64 s.h.id, .int .i64 s.h.fixed, .int .i64 s.h.ttl, .int .i64 s.h.frm, .int .i64 s.h.to, .int .i64 s.h.fromPort, .int .i64 s.h.toPort, .int .i64 s.h.check, .int .i64 s.h.marker, .int .i64 s.h.type, .int .i64 s.h.seq, .int .i64 s.h.time, .int .i64 s.h.source] 23 (0, 0))
theorem VB.below {w w' : World} {g : Nat} {s : Sm} (p : VB w g s) (hb : Below w.heap.size w w') : VB w' g s := ⟨(hb.block _ (lt_of_block p.sb)).trans p.sb, (hb.block _ (lt_of_block p.hh)).trans p.hh⟩
theorem VB.drew {w : World} {g : Nat} {s : Sm} (p : VB w g s) : VB w.drew g s := ⟨p.sb, p.hh⟩
theorem VB.laid (w : World) (s : Sm) : VB ((w.alloc (.cells #[.int .i64 s.ctx, .int .i64 s.fmt, .int .i64 s.num, .int .i64 s.time, .int .i64 s.mark, .int .i64 s.id, .int .i64 s.udp, .int .i64 s.h.kind, .int .i64 s.h.tos, .int .i64 s.h.id, .int .i64 s.h.fixed, .int .i64 s.h.ttl, .int .i64 s.h.frm, .int .i64 s.h.to, .int .i64 s.h.fromPort, .int .i64 s.h.toPort, .int .i64 s.h.check, .int .i64 s.h.marker, .int .i64 s.h.type, .int .i64 s.h.seq, .int .i64 s.h.time, .int .i64 s.h.source, .int .i64 s.ds, .int .i64 s.df, .int .i64 s.chk, .slice s.pa s.pn s.pc] 28)).alloc (.cells #[.int .i64 s.h.kind, .int .i64 s.h.tos, .int .i64 s.h.id, .int .i64 s.h.fixed, .int .i64 s.h.ttl, .int .i64 s.h.frm, .int .i64 s.h.to, .int .i64 s.h.fromPort, .int .i64 s.h.toPort, .int .i64 s.h.check, .int .i64 s.h.marker, .int .i64 s.h.type, .int .i64 s.h.seq, .int .i64 s.h.time, .int .i64 s.h.source] 23)) w.heap.size s := by
  refine ⟨(heap_alloc_old _ _ (by simp)).trans (heap_alloc_new w _), ?_⟩
  have q := heap_alloc_new (w.alloc (.cells #[.int .i64 s.ctx, .int .i64 s.fmt, .int .i64 s.num, .int .i64 s.time, .int .i64 s.mark, .int .i64 s.id, .int .i64 s.udp, .int .i64 s.h.kind, .int .i64 s.h.tos, .int .i64 s.h.id, .int .i64 s.h.fixed, .int .i64 s.h.ttl, .int .i64 s.h.frm, .int .i64 s.h.to, .int .i64 s.h.fromPort, .int .i64 s.h.toPort, .int .i64 s.h.check, .int .i64 s.h.marker, .int .i64 s.h.type, .int .i64 s.h.seq, .int .i64 s.h.time, .int .i64 s.h.source, .int .i64 s.ds, .int .i64 s.df, .int .i64 s.chk, .slice s.pa s.pn s.pc] 28)) (.cells #[.int .i64 s.h.kind, .int .i64 s.h.tos, .int .i64 s.h.id, .int .i64 s.h.fixed, .int .i64 s.h.ttl, .int .i64 s.h.frm, .int .i64 s.h.to, .int .i64 s.h.fromPort, .int .i64 s.h.toPort, .int .i64 s.h.check, .int .i64 s.h.marker, .int .i64 s.h.type, .int .i64 s.h.seq, .int .i64 s.h.time, .int .i64 s.h.source] 23)
  rw [show (w.alloc (.cells #[.int .i64 s.ctx, .int .i64 s.fmt, .int .i64 s.num, .int .i64 s.time, .int .i64 s.mark, .int .i64 s.id, .int .i64 s.udp, .int .i64 s.h.kind, .int .i64 s.h.tos, .int .i64 s.h.id, .int .i64 s.h.fixed, .int .i64 s.h.ttl, .int .i64 s.h.frm, .int .i64 s.h.to, .int .i64 s.h.fromPort, .int .i64 s.h.toPort, .int .i64 s.h.check, .int .i64 s.h.marker, .int .i64 s.h.type, .int .i64 s.h.seq, .int .i64 s.h.time, .int .i64 s.h.source, .int .i64 s.ds, .int .i64 s.df, .int .i64 s.chk, .slice s.pa s.pn s.pc] 28)).heap.size = w.heap.size + 1 by simp] at q
  exact q
theorem VB.rh {W : World} {g : Nat} {s : Sm} (p : VB W g s) : W.rangeAt (g + 1) 0 [.int .i64 s.h.kind, .int .i64 s.h.tos, .int .i64 s.h.id, .int .i64 s.h.fixed, .int .i64 s.h.ttl, .int .i64 s.h.frm, .int .i64 s.h.to, .int .i64 s.h.fromPort, .int .i64 s.h.toPort, .int .i64 s.h.check, .int .i64 s.h.marker, .int .i64 s.h.type, .int .i64 s.h.seq, .int .i64 s.h.time, .int .i64 s.h.source] := World.rangeAt_of_block p.hh 0 15
theorem info_hdv : (Tryd.prog.info? 23).map (·.size) = some 15 := by kernel_rfl
end Go.Proofs.YtkhcfmnebflgkaaDoor
/-
  A packet in parts, and a draft of it, stored whole: one step, whose world is not written out.
-/
namespace Go.Proofs.YtkhcfmnebflgkaaDoor
open Go Go.RowKit

/-- cells from a place on, replaced -/
def setFrom (xs : Array Value) (o : Nat) : List Value → Array Value
  | [] => xs
  | v :: r => setFrom (xs.setIfInBounds o v) (o + 1) r
theorem setCells_blk {b : Nat} {T : TypeId} {fz : Nat × Nat} : ∀ (vs : List Value) (o : Nat) (w : World) (xs : Array Value), w.heap[b]? = some (.cells xs T fz) → (w.setCells b o vs).heap[b]? = some (.cells (setFrom xs o vs) T fz) ∧ w.grownBy (w.setCells b o vs) (some b)
  | [], _, w, _, h => ⟨h, World.grownBy.refl _ _⟩
  | v :: r, o, w, xs, h => by
    have q := setCells_blk r (o + 1) (w.setCell ⟨b, o, none⟩ v) (xs.setIfInBounds o v) (blk_set h o v)
    exact ⟨q.1, grown_then (setCell_but w b o v) q.2 (fun j e => .inl e)⟩
theorem take_set {α : Type} (l : List α) (o : Nat) (v : α) (h : o < l.length) : (l.set o v).take (o + 1) = l.take o ++ [v] := by
  rw [List.take_succ_eq_append_getElem (by simpa using h), List.take_set_of_le (Nat.le_refl o)]
  simp
theorem setFrom_to : ∀ (vs : List Value) (o : Nat) (xs : Array Value), o + vs.length = xs.size → (setFrom xs o vs).toList = xs.toList.take o ++ vs
  | [], o, xs, h => by simp only [setFrom, List.append_nil]; rw [List.take_of_length_le (by simp at h ⊢; omega)]
  | v :: r, o, xs, h => by
    simp only [List.length_cons] at h
    simp only [setFrom]
    rw [setFrom_to r (o + 1) _ (by simp; omega), Array.toList_setIfInBounds, take_set _ _ _ (by simp; omega), List.append_assoc]; rfl
theorem setFrom_all {xs cs : Array Value} (h : xs.size = cs.size) : setFrom xs 0 cs.toList = cs := by
  apply Array.toList_inj.1
  rw [setFrom_to _ 0 xs (by simp [h])]; rfl
theorem there_blk {w : World} {b n : Nat} {xs : Array Value} {T : TypeId} (h : w.heap[b]? = some (.cells xs T (0, 0))) (hn : n ≤ xs.size) : w.there b 0 n := fun j hj => by
  rw [Nat.zero_add, cells_of h, frozen_of h]
  exact ⟨by rw [Array.getElem?_eq_getElem (by omega)]; rfl, rfl⟩
theorem info_draft : (Tryd.prog.info? 59).map (·.size) = some 29 := by kernel_rfl

/-- a block of cells known whole -/
def Blk (T : TypeId) (W : World) (g : Nat) (cs : Array Value) : Prop := W.heap[g]? = some (.cells cs T (0, 0))
theorem Blk.keep {T : TypeId} {w w' : World} {g : Nat} {cs : Array Value} (h : Blk T w g cs) (hb : Below w.heap.size w w') : Blk T w' g cs := (hb.block _ (lt_of_block h)).trans h
theorem Blk.keepRow {T : TypeId} {w w' : World} {g : Nat} {cs : Array Value} {row : Option Nat} (h : Blk T w g cs) (hb : w.grownBy w' row) (hr : row ≠ some g) : Blk T w' g cs := (hb.block _ (lt_of_block h) (fun e => hr e.symm)).trans h
theorem Blk.lt {T : TypeId} {w : World} {g : Nat} {cs : Array Value} (h : Blk T w g cs) : g < w.heap.size := lt_of_block h

/-- one operation of a plain region by its run, which the kernel may reckon -/
theorem wpList_run {P : Program} {ops : Array Oper} {rest : List Oper} {op : Oper} {a : Act} {w : World} {Q : Exit → Act → World → Prop} (v : Value) (w' : World) (hgd : op.guard = none) (h : (execOp a.eval op).run P w = .ok (.value v) w') (H : wpList P ops Q rest (a.put op.dst v) w') : wpList P ops Q (op :: rest) a w :=
  wpList_plain hgd fun K hK => by
    unfold Oper.wp
    rw [h]
    exact hK _ _ H
/-- results: a packet in parts that lies in a block, and an error -/
theorem results_sm {fn : Func} {x u : Tmp} (h : fn.results = #[.cell x 28, .tmp u]) (tmps : Array Value) (w : World) (g : Nat) (cs : Array Value) (hx : tmps.getD x undef = .pointer (some ⟨g, 0, none⟩)) (K : w.heap[g]? = some (.cells cs 28 (0, 0))) (hn : cs.size = 26) :
    (results fn tmps).run Tryd.prog w = .ok (.tuple #[.agg cs, tmps.getD u undef]) w := by
  have hc : w.rangeAt g 0 cs.toList := fun j v hv => by
    rw [Nat.zero_add, cells_of K]; simpa using hv
  have l := run_loadVar_mid (P := Tryd.prog) w g 0 28 cs.toList _ hc Tryd.underlying28 rfl (by rw [info_sm]; simp [hn])
  have hx2 : tmps[x]?.getD undef = .pointer (some ⟨g, 0, none⟩) := by simpa using hx
  rw [Array.toArray_toList] at l
  simp [results, h, hx2, asAddr, l]
/-- a whole store in a plain region -/
theorem wpList_store_blk {ops : Array Oper} {rest : List Oper} {op : Oper} {a : Act} {w : World} {Q : Exit → Act → World → Prop} {b n : Nat} {xs cs : Array Value} {T : TypeId} (hgd : op.guard = none) (hd : op.dst = none)
    (p q : Operand) (ho : op.op = .store T p q) (hp : a.eval p = .pointer (some ⟨b, 0, none⟩)) (hq : a.eval q = .agg cs) (Kb : w.heap[b]? = some (.cells xs T (0, 0))) (hx : xs.size = n) (hc : cs.size = n)
    (hi : (Tryd.prog.info? T).map (·.size) = some n) (h1 : cs.all (·.oneCell') = true)
    (H : ∀ w', w'.heap[b]? = some (.cells cs T (0, 0)) → w.grownBy w' (some b) → wpList Tryd.prog ops Q rest a w') : wpList Tryd.prog ops Q (op :: rest) a w := by
  have k := setCells_blk cs.toList 0 w xs Kb
  rw [setFrom_all (by omega)] at k
  refine wpList_store_mid hgd T p q ho b 0 cs hp hq (there_blk Kb (by omega)) (by rw [hi, hc]) h1 ?_
  rw [hd]
  exact H _ k.1 k.2
/-- .. in a drawn region -/
theorem step_store_blk {ops : Array Oper} {o : Oper} {a : Act} {w : World} {K : Act → World → Prop} {Q : Exit → Act → World → Prop} {E : Prop} {b n : Nat} {xs cs : Array Value} {T : TypeId} (hw : Region.wanted o (yielded ops a.tmps) = true) (hd : o.dst = none)
    (p q : Operand) (ho : o.op = .store T p q) (hp : a.eval p = .pointer (some ⟨b, 0, none⟩)) (hq : a.eval q = .agg cs) (Kb : w.heap[b]? = some (.cells xs T (0, 0))) (hx : xs.size = n) (hc : cs.size = n)
    (hi : (Tryd.prog.info? T).map (·.size) = some n) (h1 : cs.all (·.oneCell') = true)
    (H : ∀ w', w'.heap[b]? = some (.cells cs T (0, 0)) → w.grownBy w' (some b) → K a w') :
    if Region.wanted o (yielded ops a.tmps) = true then Oper.wp Tryd.prog o a w K Q else E := by
  have k := setCells_blk cs.toList 0 w xs Kb
  rw [setFrom_all (by omega)] at k
  rw [if_pos hw]
  refine wp_store_mid T p q ho b 0 cs hp hq (there_blk Kb (by omega)) (by rw [hi, hc]) h1 ?_
  rw [hd]
  exact H _ k.1 k.2
end Go.Proofs.YtkhcfmnebflgkaaDoor
/-
  Numbers modulo a power of two, plainly: what the functions of layer 2 return.
-/
namespace Go.Proofs.YtkhcfmnebflgkaaDoor
open Go Go.RowKit

def widB (n : Int) : Bool := decide (1 ≤ n ∧ n ≤ 32)
theorem widB_yes {n : Int} (h : 1 ≤ n ∧ n ≤ 32) : widB n = true := by unfold widB; exact decide_eq_true h
theorem widB_no {n : Int} (h : ¬ (1 ≤ n ∧ n ≤ 32)) : widB n = false := by unfold widB; exact decide_eq_false h

def lowV (n x : Int) : Int := if 1 ≤ n ∧ n ≤ 32 then x % 2 ^ n.toNat else -1
def distV (n a b : Int) : Int := if 1 ≤ n ∧ n ≤ 32 then (b - a) % 2 ^ n.toNat else -1
def insV (n a x : Int) : Bool := decide ((1 ≤ n ∧ n ≤ 32) ∧ distV n a x < 2 ^ (n.toNat - 1))
def sigV (n a b : Int) : Int := if 1 ≤ n ∧ n ≤ 32 then (if distV n a b < 2 ^ (n.toNat - 1) then distV n a b else distV n a b - 2 ^ n.toNat) else 0
def nearB (n c : Int) : Bool := decide ((1 ≤ n ∧ n ≤ 32) ∧ -1099511627776 ≤ c ∧ c ≤ 1099511627776)
def nearV (n c x : Int) : Int := if nearB n c then c + sigV n c x else 0

theorem lowV_nat (N : Nat) (x : Int) (h : 1 ≤ N ∧ N ≤ 32) : lowV N x = x % 2 ^ N := by unfold lowV; rw [if_pos (by omega)]; simp
theorem distV_nat (N : Nat) (a b : Int) (h : 1 ≤ N ∧ N ≤ 32) : distV N a b = (b - a) % 2 ^ N := by unfold distV; rw [if_pos (by omega)]; simp
theorem lowV_no {n : Int} (x : Int) (h : ¬ (1 ≤ n ∧ n ≤ 32)) : lowV n x = -1 := by unfold lowV; rw [if_neg h]
theorem distV_no {n : Int} (a b : Int) (h : ¬ (1 ≤ n ∧ n ≤ 32)) : distV n a b = -1 := by unfold distV; rw [if_neg h]
theorem sigV_no {n : Int} (a b : Int) (h : ¬ (1 ≤ n ∧ n ≤ 32)) : sigV n a b = 0 := by unfold sigV; rw [if_neg h]
theorem insV_no {n : Int} (a b : Int) (h : ¬ (1 ≤ n ∧ n ≤ 32)) : insV n a b = false := by unfold insV; exact decide_eq_false (fun h' => h h'.1)
theorem nearB_no {n c : Int} (h : ¬ (1 ≤ n ∧ n ≤ 32)) : nearB n c = false := by unfold nearB; exact decide_eq_false (fun h' => h h'.1)
theorem nearB_far {n c : Int} (h : ¬ (-1099511627776 ≤ c ∧ c ≤ 1099511627776)) : nearB n c = false := by unfold nearB; exact decide_eq_false (fun h' => h h'.2)
theorem nearB_yes {n c : Int} (h : 1 ≤ n ∧ n ≤ 32) (h2 : -1099511627776 ≤ c ∧ c ≤ 1099511627776) : nearB n c = true := by unfold nearB; exact decide_eq_true ⟨h, h2⟩
theorem nearV_no {n c : Int} (x : Int) (h : nearB n c = false) : nearV n c x = 0 := by unfold nearV; rw [h]; rfl
theorem nearV_yes {n c : Int} (x : Int) (h : nearB n c = true) : nearV n c x = c + sigV n c x := by unfold nearV; rw [h]; rfl
theorem sigV_nat (N : Nat) (a b : Int) (h : 1 ≤ N ∧ N ≤ 32) : sigV N a b = if distV N a b < 2 ^ (N - 1) then distV N a b else distV N a b - 2 ^ N := by
  unfold sigV; rw [if_pos (by omega)]; simp
theorem insV_nat (N : Nat) (a b : Int) (h : 1 ≤ N ∧ N ≤ 32) : insV N a b = decide (distV N a b < 2 ^ (N - 1)) := by
  have h2 : (1 : Int) ≤ N ∧ (N : Int) ≤ 32 := by omega
  unfold insV; simp [h2]

theorem lowV_bd (n x : Int) : -1 ≤ lowV n x ∧ lowV n x ≤ 4294967295 := by
  by_cases h : 1 ≤ n ∧ n ≤ 32
  · obtain ⟨N, rfl⟩ := Int.eq_ofNat_of_zero_le (show 0 ≤ n by omega)
    rw [lowV_nat N x (by omega)]
    have h1 := ipow_pos N
    have h2 := ipow_le32 N (by omega)
    have h3 := Int.emod_nonneg x (show (2 : Int) ^ N ≠ 0 by omega)
    have h4 := Int.emod_lt_of_pos x (show (0 : Int) < 2 ^ N by omega)
    omega
  · rw [lowV_no x h]; omega
theorem distV_low (n a b : Int) : distV n a b = lowV n (b - a) := rfl
theorem distV_bd (n a b : Int) : -1 ≤ distV n a b ∧ distV n a b ≤ 4294967295 := lowV_bd n (b - a)
/-- the distance of two numbers' low bits -/
theorem dist_low (a b : Int) (N : Nat) : (b % 2 ^ N - a % 2 ^ N) % 2 ^ N = (b - a) % 2 ^ N := by
  rw [← Int.sub_emod]
theorem low_wrap (n x : Int) : lowV n (wrap64 x) = lowV n x := by
  unfold lowV
  split
  · exact wrap_mod x n.toNat (by omega)
  · rfl
theorem sigV_bd (n a b : Int) : -2147483648 ≤ sigV n a b ∧ sigV n a b ≤ 2147483647 := by
  by_cases h : 1 ≤ n ∧ n ≤ 32
  · obtain ⟨N, rfl⟩ := Int.eq_ofNat_of_zero_le (show 0 ≤ n by omega)
    rw [sigV_nat N a b (by omega), distV_nat N a b (by omega)]
    have h1 := ipow_pos (N - 1)
    have h2 := ipow_le31 (N - 1) (by omega)
    have h5 := ipow_half N (by omega)
    have h3 := Int.emod_nonneg (b - a) (show (2 : Int) ^ N ≠ 0 by omega)
    have h4 := Int.emod_lt_of_pos (b - a) (show (0 : Int) < 2 ^ N by omega)
    generalize (b - a) % 2 ^ N = d at h3 h4
    generalize (2 : Int) ^ N = t at h5 h4
    generalize (2 : Int) ^ (N - 1) = s at h1 h2 h5
    split <;> omega
  · rw [sigV_no a b h]; omega

/-- what is in the half windows around 0 is its own nearest number -/
theorem near_self (d t s : Int) (ht : t = 2 * s) (h1 : -s ≤ d) (h2 : d < s) : (if d % t < s then d % t else d % t - t) = d := by
  by_cases h : 0 ≤ d
  · rw [Int.emod_eq_of_lt h (by omega), if_pos h2]
  · have e : d % t = d + t := by
      rw [← Int.add_emod_right (b := t)]; exact Int.emod_eq_of_lt (by omega) (by omega)
    rw [e, if_neg (by omega)]; omega
/-- the distances of two numbers, from one to the other and back -/
theorem dist_back (x t : Int) (ht : 1 ≤ t) : (x % t = 0 → (-x) % t = 0) ∧ (x % t ≠ 0 → (-x) % t = t - x % t) := by
  have h0 := Int.emod_nonneg x (show t ≠ 0 by omega)
  have h1 := Int.emod_lt_of_pos x (show 0 < t by omega)
  have e : (-x) % t = (-(x % t)) % t := by
    have := Int.emod_emod_of_dvd x (Int.dvd_refl t)
    rw [Int.neg_emod_eq_sub_emod, Int.neg_emod_eq_sub_emod, Int.sub_emod, Int.sub_emod t (x % t), this]
  constructor
  · intro h; rw [e, h]; simp
  · intro h
    rw [e, ← Int.add_emod_right (b := t)]
    rw [Int.emod_eq_of_lt (by omega) (by omega)]; omega
end Go.Proofs.YtkhcfmnebflgkaaDoor
/-
  Put of the document's own helpers (radiolinkref01): the bytes of a number behind a slice of the call's own.
-/
namespace Go.Proofs.YtkhcfmnebflgkaaDoor
open Go Go.RowKit

/-- the first t of the M bytes of a number, from the top -/
def putB (M : Nat) (x : Int) (t : Nat) : List Int := (List.range t).map fun s => x / 2 ^ (8 * (M - 1 - s)) % 256
theorem putB_succ (M : Nat) (x : Int) (t : Nat) : putB M x (t + 1) = putB M x t ++ [x / 2 ^ (8 * (M - 1 - t)) % 256] := by
  unfold putB; rw [List.range_succ, List.map_append]; rfl
theorem putB_len (M : Nat) (x : Int) (t : Nat) : (putB M x t).length = t := by unfold putB; simp

theorem info_u8 : (Tryd.prog.info? 5).map (fun i => (i.zero, i.size, i.bytes)) = some (some (.int .u8 0), 1, 1) := by kernel_rfl

set_option maxRecDepth 100000 in
set_option maxHeartbeats 1600000 in
theorem Put_any (B : Nat) (a : Option Addr) (n cap M : Nat) (x : Int) (zs : List Int) (w : World) (hm : Mk .u8 5 B w (.slice a n cap) n zs) (ha : a = none → cap = 0) (hB : B ≤ w.heap.size) (hM : M ≤ 8) (hr : n + M ≤ 140737488355328) :
    Calls Tryd.prog 31 #[.slice a n cap, .int .i64 M, .int .i64 x] w fun e w' => ∃ ao cp, e = .returned (.slice ao (n + M) cp) ∧ Grew .u8 5 B w w' (.slice a n cap) (.slice ao (n + M) cp) (n + M) (zs ++ putB M x M) ∧ (ao = none → cp = 0) := by
  have G0 := Lib.hid (Grew.refl hm)
  have Ha := Lib.hid ha
  clear hm ha
  go_enter Tryd.func31, Tryd.ntmps31
  go_wp2
  go_loopw [0, 7] (fun v i wr => ∃ (t : Nat) (z : Int) (o : Option Addr) (p : Nat), t ≤ M ∧ z = (M : Int) - 1 - t ∧ i = .int .i64 z ∧ v = .slice o (n + t) p ∧ (o = none → p = 0) ∧ Grew .u8 5 B w wr (.slice a n cap) (.slice o (n + t) p) (n + t) (zs ++ putB M x t)) (fun _ i _ => (intOf i + 1).toNat)
  case atStart => exact ⟨0, _, a, cap, by omega, by omega, rfl, rfl, Ha.out, by simpa [putB] using G0.out⟩
  case round =>
    obtain ⟨t, z, o, p, ht, hz, rfl, rfl, ho, hg⟩ := hrel
    have hsz : B ≤ wr.heap.size := Nat.le_trans hB hg.grown.size
    have Ho := Lib.hid ho
    have Hg := Lib.hid hg
    clear ho hg
    by_cases hlt : t < M
    · obtain ⟨I, rfl⟩ := Int.eq_ofNat_of_zero_le (show 0 ≤ z by omega)
      have hI : Hid (M - 1 - t = I) := (by omega : M - 1 - t = I)
      have hI8 : I ≤ 7 := by omega
      have hI0 : (0 : Int) ≤ (I : Int) := by omega
      have S1 := Lib.hid (putB_succ M x t)
      rw [hI.out] at S1
      have W1 : Hid ((Lit.int .u8 (x / 2 ^ (8 * I) % 256)).wf = true) := Lib.hid (byte_wf (Int.emod_nonneg _ (by decide)) (by have := Int.emod_lt_of_pos (x / 2 ^ (8 * I)) (show (0 : Int) < 256 by decide); omega))
      have HZ := Lib.hid hz
      clear hz
      go_wp2_with (first
        | (at_builtin; refine wpList_push_at rfl (.tmp 14) (.tmp 21) 26 rfl .u8 5 B 1 Tryd.underlying26 info_u8 (.slice o (n + t) p) (n + t) (zs ++ putB M x t) rfl (Hg.out.row.alloc _) _ wr.heap.size 0 1 (Sl.one .u8 wr _ 5 W1.out) rfl (by omega) (by omega) (by simp; omega) ?_; intro g1 c1 w5 hm hg hf; rw [List.append_assoc, ← S1.out] at hm; have T5 : Hid (Grew .u8 5 B wr w5 (.slice o (n + t) p) (.slice (some ⟨g1, 0, none⟩) (n + t + 1) c1) (n + t + 1) (zs ++ putB M x (t + 1))) := Lib.hid (Grew.mk hm (grown_then (World.grownBy_alloc wr _ _) hg (fun _ h => .inl h)) (fun g h => by cases h; rcases hf with h1 | h1; exact .inl h1; exact .inr (by rw [h1]; simp))); clear hm hg hf)
        | fail)
      go_roundw
      case rel =>
        have := HZ.out
        exact ⟨t + 1, _, some ⟨g1, 0, none⟩, c1, by omega, by omega, rfl, rfl, (fun h => by cases h), Hg.out.trans T5.out⟩
      case measure => simp [intOf] <;> omega
    · obtain rfl : t = M := by omega
      have hzn : z < 0 := by omega
      go_wp2
      go_ret
      exact ⟨o, p, rfl, Hg.out, Ho.out⟩

/-- .. with the counts as they stand in a walk -/
theorem Put_lit (B : Nat) (a : Option Addr) (n cap M N : Nat) (Mi x : Int) (zs : List Int) (w : World) (hm : Mk .u8 5 B w (.slice a n cap) n zs) (ha : a = none → cap = 0) (hB : B ≤ w.heap.size) (hMi : Mi = M) (hN : N = n + M) (hM : M ≤ 8) (hr : n + M ≤ 140737488355328) :
    Calls Tryd.prog 31 #[.slice a n cap, .int .i64 Mi, .int .i64 x] w fun e w' => ∃ ao cp, e = .returned (.slice ao N cp) ∧ Grew .u8 5 B w w' (.slice a n cap) (.slice ao N cp) N (zs ++ putB M x M) ∧ (ao = none → cp = 0) := by
  subst hMi hN
  exact Put_any B a n cap M x zs w hm ha hB hM hr
end Go.Proofs.YtkhcfmnebflgkaaDoor
/-
  Get of the document's own helpers (radiolinkref01): the number in some bytes.
-/
namespace Go.Proofs.YtkhcfmnebflgkaaDoor
open Go Go.RowKit

/-- the number in the first t bytes from a place on -/
def getB (zs : List Int) (p : Nat) : Nat → Int
  | 0 => 0
  | t + 1 => 256 * getB zs p t + zs.getD (p + t) 0
theorem getB_range {zs : List Int} (h : ∀ i, 0 ≤ zs.getD i 0 ∧ zs.getD i 0 ≤ 255) (p : Nat) : ∀ t, t ≤ 7 → 0 ≤ getB zs p t ∧ getB zs p t < 256 ^ t
  | 0, _ => by simp [getB]
  | t + 1, ht => by
    have a := getB_range h p t (by omega)
    have b := h (p + t)
    rw [getB, Int.pow_succ]
    omega
theorem pow256_le (t : Nat) (h : t ≤ 6) : (256 : Int) ^ t ≤ 281474976710656 := by
  rcases (show t = 0 ∨ t = 1 ∨ t = 2 ∨ t = 3 ∨ t = 4 ∨ t = 5 ∨ t = 6 by omega) with rfl | rfl | rfl | rfl | rfl | rfl | rfl <;> decide

set_option maxHeartbeats 800000 in
theorem Get_lit (a : Option Addr) (n cap p m : Nat) (pi mi : Int) (zs : List Int) (w : World) (hs : Sl .u8 w a n zs) (hp : pi = p) (hmi : mi = m) (hm : m ≤ 7) (hn : p + m ≤ n) :
    Calls Tryd.prog 69 #[.slice a n cap, .int .i64 pi, .int .i64 mi] w fun e w' => e = .returned (.int .i64 (getB zs p m)) ∧ w = w' := by
  subst hp hmi
  have hr := hs.reach
  have HR := Lib.hid (fun t ht => getB_range hs.u8 p t ht)
  have HP := Lib.hid pow256_le
  have Hs := Lib.hid hs
  have HS : Hid (∀ t, getB zs p (t + 1) = 256 * getB zs p t + zs.getD (p + t) 0) := Lib.hid fun _ => rfl
  clear hs
  go_enter Tryd.func69, Tryd.ntmps69
  go_wp2
  go_loopw [7, 8] (fun v i wr => ∃ t : Nat, t ≤ m ∧ v = .int .i64 (getB zs p t) ∧ i = .int .i64 (t : Int) ∧ w = wr) (fun _ i _ => m - (intOf i).toNat)
  case atStart => exact ⟨0, by omega, rfl, by simp, rfl⟩
  case round =>
    obtain ⟨t, ht, rfl, rfl, rfl⟩ := hrel
    by_cases hlt : t < m
    · obtain ⟨g, off, rfl⟩ := Hs.out.head (by omega)
      have c0 := Hs.out.at (i := p + t) (by omega)
      have z0 := Hs.out.u8 (p + t)
      have b0 := HR.out t (by omega)
      have b1 := HP.out t (by omega)
      have E := Lib.hid (HS.out t)
      generalize zs.getD (p + t) 0 = x at c0 z0 E
      generalize getB zs p t = y at b0 E
      have hy : y ≤ 281474976710656 := by omega
      have hy0 := b0.1
      have hI : (p : Int) + (t : Int) < (n : Int) := by omega
      clear b0 b1
      go_wp2
      go_roundw
      case rel => exact ⟨t + 1, by omega, by rw [E.out], by go_num, trivial⟩
      case measure => simp [intOf] <;> omega
    · obtain rfl : t = m := by omega
      go_wp2
      go_ret
      exact ⟨rfl, rfl⟩
end Go.Proofs.YtkhcfmnebflgkaaDoor
/-
  Same of the document's own helpers (radiolinkref01): whether two slices have the same bytes.
-/
namespace Go.Proofs.YtkhcfmnebflgkaaDoor
open Go Go.RowKit

theorem Sl.all255 {w : World} {a : Option Addr} {n : Nat} {zs : List Int} (h : Sl .u8 w a n zs) : ∀ z ∈ zs, 0 ≤ z ∧ z ≤ 255 := fun z hz => by
  have := h.wf z hz
  simpa [Lit.wf, IntKind.min, IntKind.max, IntKind.signed, IntKind.bits] using this

/-- two rows of byte values with the same bytes are the same -/
theorem bytes_back : ∀ {xs ys : List Int}, (∀ z ∈ xs, 0 ≤ z ∧ z ≤ 255) → (∀ z ∈ ys, 0 ≤ z ∧ z ≤ 255) → (strOfNums xs).data.toList = (strOfNums ys).data.toList → xs = ys
  | [], [], _, _, _ => rfl
  | [], _ :: _, _, _, h => by simp [strOfNums] at h
  | _ :: _, [], _, _, h => by simp [strOfNums] at h
  | x :: xs, y :: ys, hx, hy, h => by
    simp only [strOfNums, List.map_cons, List.cons.injEq] at h
    have a := hx x (by simp)
    have b := hy y (by simp)
    have e := congrArg UInt8.toNat h.1
    simp only [UInt8.toNat_ofNat'] at e
    have := bytes_back (xs := xs) (ys := ys) (fun z hz => hx z (by simp [hz])) (fun z hz => hy z (by simp [hz])) h.2
    rw [this, show x = y by omega]

theorem same_any (a b : Option Addr) (n cap m cap' : Nat) (xs ys : List Int) (w : World) (hx : Sl .u8 w a n xs) (hy : Sl .u8 w b m ys) :
    Calls Tryd.prog 15 #[.slice a n cap, .slice b m cap'] w fun e w' => e = .returned (.bool (decide (xs = ys))) ∧ w = w' := by
  have c1 := run_string_of (P := Tryd.prog) hx cap 26 5 9 Tryd.underlying26 Tryd.underlying5 Tryd.underlying9
  have c2 := run_string_of (P := Tryd.prog) hy cap' 26 5 9 Tryd.underlying26 Tryd.underlying5 Tryd.underlying9
  go_enter Tryd.func15, Tryd.ntmps15
  go_wp2
  go_ret
  refine ⟨ret_bool ?_, rfl⟩
  rw [ByteArray.toList_eq, ByteArray.toList_eq, Bool.eq_iff_iff]
  simp only [beq_iff_eq, decide_eq_true_eq]
  exact ⟨fun h => bytes_back hx.all255 hy.all255 h, fun h => by rw [h]⟩
end Go.Proofs.YtkhcfmnebflgkaaDoor
/-
  Numbers in bits, as plain functions on lists of byte values. No Go text is named here.
-/
namespace Go.Proofs.YtkhcfmnebflgkaaDoor
open Go Go.RowKit

/-- bit k of some bytes -/
def bitAt (zs : List Int) (k : Nat) : Nat := (zs.getD (k / 8) 0).toNat / 2 ^ (7 - k % 8) % 2
/-- the number in n bits from bit p on -/
def numAt (zs : List Int) (p : Nat) : Nat → Nat
  | 0 => 0
  | n + 1 => 2 * numAt zs p n + bitAt zs (p + n)
/-- a byte with one of its bits set to v -/
def byteBit (z q v : Nat) : Nat := z - z / 2 ^ q % 2 * 2 ^ q + v * 2 ^ q
/-- bytes with bit k set to v -/
def setBit (zs : List Int) (k v : Nat) : List Int := zs.set (k / 8) (byteBit (zs.getD (k / 8) 0).toNat (7 - k % 8) v : Nat)
/-- the first i bits of the number v of n bits, written from bit p on -/
def putTo (zs : List Int) (p n v : Nat) : Nat → List Int
  | 0 => zs
  | i + 1 => setBit (putTo zs p n v i) (p + i) (v / 2 ^ (n - 1 - i) % 2)

theorem bitAt_lt (zs : List Int) (k : Nat) : bitAt zs k < 2 := Nat.mod_lt _ (by decide)
theorem numAt_lt (zs : List Int) (p n : Nat) : numAt zs p n < 2 ^ n := by
  induction n with
  | zero => simp [numAt]
  | succ n ih => have := bitAt_lt zs (p + n); simp only [numAt, Nat.pow_succ]; omega
theorem numAt_le32 (zs : List Int) (p n : Nat) (h : n ≤ 32) : numAt zs p n < 4294967296 :=
  Nat.lt_of_lt_of_le (numAt_lt zs p n) (Nat.le_trans (Nat.pow_le_pow_right (by decide) h) (by decide))

/-- the upper and the lower bits -/
theorem numAt_split (zs : List Int) (p k m : Nat) : numAt zs p (k + m) = numAt zs p k * 2 ^ m + numAt zs (p + k) m := by
  induction m with
  | zero => simp [numAt]
  | succ m ih =>
    rw [← Nat.add_assoc]
    simp only [numAt]
    rw [ih, Nat.pow_succ, Nat.add_assoc p k m]
    have : numAt zs p k * (2 ^ m * 2) = 2 * (numAt zs p k * 2 ^ m) := by rw [← Nat.mul_assoc]; omega
    omega

theorem byteBit_all : ∀ q, q < 8 → ∀ z, z < 256 → ∀ v, v < 2 → byteBit z q v < 256 ∧ (∀ r, r < 8 → byteBit z q v / 2 ^ r % 2 = if r = q then v else z / 2 ^ r % 2) := by
  decide +kernel
theorem byteBit_or : ∀ q, q < 8 → ∀ z, z < 256 → z ||| 2 ^ q = byteBit z q 1 := by decide +kernel
theorem byteBit_andNot : ∀ q, q < 8 → ∀ z, z < 256 → z &&& (255 - 2 ^ q) = byteBit z q 0 := by decide +kernel
theorem byteBit_two : ∀ q, q < 8 → ∀ z, z < 256 → byteBit (byteBit z q 0) q 1 = byteBit z q 1 := by decide +kernel

/-- all are bytes -/
def Bytes (zs : List Int) : Prop := ∀ i, 0 ≤ zs.getD i 0 ∧ zs.getD i 0 ≤ 255

theorem getD_set (zs : List Int) (i j : Nat) (x : Int) : (zs.set i x).getD j 0 = if i = j ∧ i < zs.length then x else zs.getD j 0 := by
  simp only [List.getD_eq_getElem?_getD, List.getElem?_set]
  by_cases h : i = j
  · subst h
    by_cases h2 : i < zs.length
    · simp [h2]
    · simp [h2]
  · simp [h]

theorem setBit_length (zs : List Int) (k v : Nat) : (setBit zs k v).length = zs.length := by simp [setBit]
theorem putTo_length (zs : List Int) (p n v i : Nat) : (putTo zs p n v i).length = zs.length := by
  induction i with
  | zero => rfl
  | succ i ih => simp only [putTo]; rw [setBit_length, ih]

theorem setBit_bytes {zs : List Int} (h : Bytes zs) (k v : Nat) (hv : v < 2) : Bytes (setBit zs k v) := by
  intro i
  unfold setBit
  rw [getD_set]
  have hz := h (k / 8)
  have := (byteBit_all (7 - k % 8) (by omega) (zs.getD (k / 8) 0).toNat (by omega) v hv).1
  split
  · omega
  · exact h i
theorem putTo_bytes {zs : List Int} (h : Bytes zs) (p n v i : Nat) : Bytes (putTo zs p n v i) := by
  induction i with
  | zero => exact h
  | succ i ih => exact setBit_bytes ih _ _ (Nat.mod_lt _ (by decide))

theorem bitAt_setBit {zs : List Int} (h : Bytes zs) (k v j : Nat) (hv : v < 2) (hk : k < 8 * zs.length) : bitAt (setBit zs k v) j = if j = k then v else bitAt zs j := by
  unfold bitAt setBit
  rw [getD_set]
  have hz := h (k / 8)
  have hb := (byteBit_all (7 - k % 8) (by omega) (zs.getD (k / 8) 0).toNat (by omega) v hv).2 (7 - j % 8) (by omega)
  by_cases e : k / 8 = j / 8
  · rw [if_pos ⟨e, by omega⟩, Int.toNat_natCast, hb, ← e]
    by_cases e2 : j = k
    · rw [if_pos (by omega), if_pos e2]
    · rw [if_neg (by omega), if_neg e2]
  · rw [if_neg (by omega), if_neg (by omega)]

theorem bitAt_putTo {zs : List Int} (h : Bytes zs) (p n v i j : Nat) (hi : p + i ≤ 8 * zs.length) : bitAt (putTo zs p n v i) j = if p ≤ j ∧ j < p + i then v / 2 ^ (n - 1 - (j - p)) % 2 else bitAt zs j := by
  induction i with
  | zero => rw [if_neg (by omega)]; rfl
  | succ i ih =>
    have ih := ih (by omega)
    simp only [putTo]
    rw [bitAt_setBit (putTo_bytes h p n v i) _ _ _ (Nat.mod_lt _ (by decide)) (by rw [putTo_length]; omega), ih]
    by_cases e : j = p + i
    · subst e
      rw [if_pos rfl, if_pos (by omega)]
      rw [show p + i - p = i from by omega]
    · rw [if_neg e]
      by_cases e2 : p ≤ j ∧ j < p + i
      · rw [if_pos e2, if_pos (by omega)]
      · rw [if_neg e2, if_neg (by omega)]

theorem numAt_congr (zs ys : List Int) (p n : Nat) (h : ∀ j, p ≤ j → j < p + n → bitAt zs j = bitAt ys j) : numAt zs p n = numAt ys p n := by
  induction n with
  | zero => rfl
  | succ n ih => simp only [numAt]; rw [ih (fun j h1 h2 => h j h1 (by omega)), h (p + n) (by omega) (by omega)]

/-- the first i bits of what was written -/
theorem numAt_putTo_part {zs : List Int} (h : Bytes zs) (p n v : Nat) (hi : p + n ≤ 8 * zs.length) : ∀ i, i ≤ n → numAt (putTo zs p n v n) p i = v / 2 ^ (n - i) % 2 ^ i := by
  intro i
  induction i with
  | zero => intro _; simp [numAt, Nat.mod_one]
  | succ i ih =>
    intro hi2
    simp only [numAt]
    rw [ih (by omega), bitAt_putTo h p n v n (p + i) hi, if_pos (by omega), show p + i - p = i from by omega]
    have e1 : n - i = (n - (i + 1)) + 1 := by omega
    have e2 : n - 1 - i = n - (i + 1) := by omega
    rw [e1, e2, Nat.pow_succ 2 (n - (i + 1)), ← Nat.div_div_eq_div_mul, Nat.pow_succ]
    generalize v / 2 ^ (n - (i + 1)) = x
    rw [Nat.mul_comm (2 ^ i) 2, Nat.mod_mul]
    omega
/-- WHAT WAS WRITTEN IS READ -/
theorem numAt_putTo {zs : List Int} (h : Bytes zs) (p n v : Nat) (hi : p + n ≤ 8 * zs.length) (hv : v < 2 ^ n) : numAt (putTo zs p n v n) p n = v := by
  rw [numAt_putTo_part h p n v hi n (Nat.le_refl _)]
  simp [Nat.mod_eq_of_lt hv]
end Go.Proofs.YtkhcfmnebflgkaaDoor
/-
  From a walk to the row, for every law: what the arguments read as, and that they read so behind the call.
-/
namespace Go.Proofs.YtkhcfmnebflgkaaDoor
open Go Go.RowKit Go.ChangeShapes Go.WideShapes Go.ChangeAt

section
variable {H : Type} {enc : TypeId × Value → H} {P : Program}

/-- all arguments read behind the call as they read before it -/
theorem below_trodAll (hl : laidOutB P = true) {W W' : World} (hb : Below W.heap.size W W') :
    ∀ {ts : List TypeId} {vs : List Value} {ds : List (DataW H)} {ps : List MemPlace}, (∀ t ∈ ts, P.readableRec t = true ∧ t < P.types.size) → DataW.TrodAll enc P W 0 (fun _ => true) true ts vs ds ps →
    DataW.TrodAll enc P W' 0 (fun b => decide (b < W.heap.size)) true ts vs ds ps
  | [], [], [], ps, _, h => h
  | t :: ts, v :: vs, d :: ds, ps, hr, h => by
    obtain ⟨p, q, h1, h2, e⟩ := h
    have lt : ∀ x ∈ p, x.block < W.heap.size := by obtain ⟨m, hm⟩ := h1; exact DataW.trod_lt m _ _ _ hm
    exact ⟨p, q, Below.trod hl (hr t (by simp)).1 (hr t (by simp)).2 h1 hb lt, below_trodAll hl hb (fun t' h' => hr t' (by simp [h'])) h2, e⟩
  | [], [], _ :: _, _, _, h => by cases h
  | [], _ :: _, _, _, _, h => by cases h
  | _ :: _, [], _, _, _, h => by cases h
  | _ :: _, _ :: _, [], _, _, h => by cases h

theorem trodAll_lens {W : World} {b : Nat} {sp : Nat → Bool} {hd : Bool} : ∀ {ts : List TypeId} {vs : List Value} {ds : List (DataW H)} {ps : List MemPlace}, DataW.TrodAll enc P W b sp hd ts vs ds ps → vs.length = ts.length ∧ ds.length = ts.length
  | [], [], [], _, _ => ⟨rfl, rfl⟩
  | t :: ts, v :: vs, d :: ds, ps, h => by
    obtain ⟨p, q, _, h2, _⟩ := h
    have := trodAll_lens h2
    simp; omega
  | [], [], _ :: _, _, h => by cases h
  | [], _ :: _, _, _, h => by cases h
  | _ :: _, [], _, _, h => by cases h
  | _ :: _, _ :: _, [], _, h => by cases h

/-- THE LAW's STEP: a walk that ends with true and turns nothing that was there. -/
theorem law_lifted {C : Checked} {os : Os} {f : FuncId} {fn : Func} {s : ChangeSpec} {rt : TypeId} (ts : List TypeId)
    (own : ownKnob C.prog.godebug = none) (started : os.Started) (noInit : C.prog.inits.idxOf? f = none) (hfn : C.prog.funcs[f]? = some fn) (hlaid : laidOutB C.prog = true)
    (hts : fn.params.toList = ts) (hread : ∀ t ∈ ts, C.prog.readableRec t = true ∧ t < C.prog.types.size) (hrt : fn.resultTypes = #[rt]) (hbool : C.prog.underlying rt = some .bool) (hvars : s.vars = [])
    (hspec : ∀ ds : List (DataW H), ds.length = ts.length → s.fn H (ds ++ []) = { results := [.lit (.bool true)], args := ds, vars := [] })
    (witness : ∃ (w : World) (tape : Tape) (i : Input), w.os = os ∧ (w.forCall tape i).Shaped C.prog ∧ i.vars = [] ∧ Input.okWide C.prog (w.forCall tape i) .any w.heap.size f i ∧
      s.pre6 enc C.prog fn [] false (w.forCall tape i).memory i.args ∧ ({} : Assume).holds C.prog (lone (Frame.enter C.prog f i.args .normal) [] (w.forCall tape i)))
    (walk : ∀ (W : World) (base : Nat) (args : Array Value) (ds : List (DataW H)) (p : List MemPlace),
      (∀ (j : Nat) t v, ts[j]? = some t → args[j]? = some v → Value.okWide C.prog W .any base t v) →
      DataW.TrodAll enc C.prog W 0 (fun _ => true) true ts args.toList ds p →
      (DataW.weightsEach C.prog ts ds).all (· ≤ reachBytes) = true →
      Calls C.prog f args W fun e W' => e = .returned (.bool true) ∧ Below W.heap.size W W') :
    ReturnsInHanded {} C os f .any (s.pre6 enc C.prog fn [] false) (s.post enc C.prog fn false true false false) := by
  refine returnsInHanded_of_change_sized (C := C) own started noInit hfn witness ?_
  intro W base args ds gs before hval hW _ hsz _
  have hW' := hW
  obtain ⟨p, q, hA, hV, rfl, hfz, hnd⟩ := hW
  rw [hvars] at hV
  obtain ⟨rfl, rfl⟩ := trodVars_none hV
  rw [hts] at hA
  have hpar : ∀ (j : Nat) (t : TypeId), ts[j]? = some t → fn.params[j]? = some t := fun j t h => by
    rw [← hts] at h; simpa using h
  have hvt : s.plain.varTypes C.prog = [] := by
    simp [DataSpec.varTypes, ChangeSpec.plain, hvars]
  rw [hts, hvt, List.append_nil, List.append_nil] at hsz
  refine (walk W base args ds p (fun j t v h1 h2 => hval j t v (hpar j t h1) h2) hA hsz).mono fun e W' ⟨he, bel⟩ => ?_
  subst he
  have hs := hspec ds (trodAll_lens hA).2
  refine ⟨_, rfl, ds, [], _, [], p, [], hW', ?_, ?_, ?_, bel.frame _, fun h => by cases h⟩
  · rw [hs, hrt]
    exact trodAll_mk1 (shut_bool hbool true)
  · rw [hs, hts]
    exact below_trodAll hlaid bel hread hA
  · rw [hs, hvars]
    rfl

theorem wf_i64 {n : Int} (w : (Lit.int .i64 n).wf = true) : -9223372036854775808 ≤ n ∧ n ≤ 9223372036854775807 := by
  simpa [Lit.wf, IntKind.min, IntKind.max, IntKind.signed, IntKind.bits] using w

/-- an int argument -/
theorem open_i64 {W : World} {base b0 : Nat} {sp : Nat → Bool} {hd : Bool} {r : Reach} {t : TypeId} {v : Value} {d : DataW H} {p : List MemPlace} (ht : P.underlying t = some (.int .i64)) (hv : Value.okWide P W r b0 t v) (h : DataW.Trod enc P W base sp hd t v d p) :
    ∃ n : Int, v = .int .i64 n ∧ -9223372036854775808 ≤ n ∧ n ≤ 9223372036854775807 := by
  obtain ⟨n, rfl, _, _, w⟩ := open_int ht hv h
  refine ⟨n, rfl, ?_⟩
  simpa [Lit.wf, IntKind.min, IntKind.max, IntKind.signed, IntKind.bits] using w

/-- a slice of integers among the arguments -/
theorem open_slm {M : Nat} (hM : M ≤ 140737488351232) {W : World} {b0 : Nat} {r : Reach} {t e : TypeId} {k : IntKind} {v : Value} {d : DataW H} {p : List MemPlace} (ht : P.underlying t = some (.slice e)) (he : P.underlying e = some (.int k)) (hc : P.cellsOf e = 1)
    (hv : Value.okWide P W r b0 t v) (h : DataW.Trod enc P W 0 (fun _ => true) true t v d p) (hsz : ∀ el spa, d = .slice el spa → el.length + spa.length ≤ M) :
    ∃ a n cap zs, v = .slice a n cap ∧ Sl k W a n zs ∧ (a = none → cap = 0) ∧ n ≤ cap ∧ cap ≤ M := by
  obtain ⟨a, len, cap, rfl⟩ := okWide_slice ht hv
  obtain ⟨fuel, hf⟩ := h
  rcases open_ints ht he hc hf with ⟨hcs, _⟩ | ⟨x, l, c, zs, hcs, _, hl, _, hz, hx, hcell, hwz⟩
  · simp [Value.cells] at hcs
    obtain ⟨rfl, rfl, rfl⟩ := hcs
    exact ⟨none, 0, 0, [], rfl, ⟨rfl, by omega, by simp, fun i hi => by omega⟩, fun _ => rfl, by omega, by omega⟩
  · simp [Value.cells] at hcs
    obtain ⟨rfl, rfl, rfl⟩ := hcs
    have hz' : zs.length = cap := by simpa using hz
    have hd := hsz _ _ (congrArg Prod.fst hx)
    have hlen : cap ≤ M := by
      simp only [lits, List.length_map, List.length_take, List.length_drop] at hd
      omega
    refine ⟨some x, len, cap, zs.take len, rfl, ⟨by simp; omega, by omega, fun z hm => hwz z (List.mem_of_mem_take hm), fun i hi => ?_⟩, (fun h => by cases h), hl, hlen⟩
    have hcl := hcell i (by omega)
    have hc0 := hcell 0 (by omega)
    obtain ⟨b, off, spot⟩ := x
    have hspot : spot = none := by simpa [Addr.add] using World.cell?_spot hc0
    subst hspot
    have hplain : (⟨b, off, none⟩ : Addr).add i = ⟨b, off + i, none⟩ := by unfold Addr.add; split <;> simp_all
    rw [hplain] at hcl
    refine ⟨b, off, rfl, ?_⟩
    rw [hcl, List.getD_eq_getElem?_getD, List.getD_eq_getElem?_getD, List.getElem?_take, if_pos hi]
theorem open_slr {W : World} {b0 : Nat} {r : Reach} {t e : TypeId} {k : IntKind} {v : Value} {d : DataW H} {p : List MemPlace} (ht : P.underlying t = some (.slice e)) (he : P.underlying e = some (.int k)) (hc : P.cellsOf e = 1) (hby : 1 ≤ P.bytesOf e)
    (hv : Value.okWide P W r b0 t v) (h : DataW.Trod enc P W 0 (fun _ => true) true t v d p) (hsz : ∀ el spa, d = .slice el spa → (el.length + spa.length) * P.bytesOf e ≤ reachBytes) :
    ∃ a n cap zs, v = .slice a n cap ∧ Sl k W a n zs ∧ (a = none → cap = 0) ∧ n ≤ cap ∧ cap ≤ 140737488351232 := by
  refine open_slm (Nat.le_refl _) ht he hc hv h fun el spa hd => ?_
  have := Nat.le_trans (Nat.le_mul_of_pos_right (el.length + spa.length) hby) (hsz el spa hd)
  simpa [reachBytes] using this
theorem open_slc {W : World} {b0 : Nat} {r : Reach} {t e : TypeId} {k : IntKind} {v : Value} {d : DataW H} {p : List MemPlace} (ht : P.underlying t = some (.slice e)) (he : P.underlying e = some (.int k)) (hc : P.cellsOf e = 1) (hby : 1 ≤ P.bytesOf e)
    (hv : Value.okWide P W r b0 t v) (h : DataW.Trod enc P W 0 (fun _ => true) true t v d p) (hsz : ∀ el spa, d = .slice el spa → (el.length + spa.length) * P.bytesOf e ≤ reachBytes) :
    ∃ a n cap zs, v = .slice a n cap ∧ Sl k W a n zs ∧ (a = none → cap = 0) ∧ n ≤ cap := by
  obtain ⟨a, n, cap, zs, h1, h2, h3, h4, _⟩ := open_slr ht he hc hby hv h hsz
  exact ⟨a, n, cap, zs, h1, h2, h3, h4⟩
theorem open_sl {W : World} {b0 : Nat} {r : Reach} {t e : TypeId} {k : IntKind} {v : Value} {d : DataW H} {p : List MemPlace} (ht : P.underlying t = some (.slice e)) (he : P.underlying e = some (.int k)) (hc : P.cellsOf e = 1) (hby : 1 ≤ P.bytesOf e)
    (hv : Value.okWide P W r b0 t v) (h : DataW.Trod enc P W 0 (fun _ => true) true t v d p) (hsz : ∀ el spa, d = .slice el spa → (el.length + spa.length) * P.bytesOf e ≤ reachBytes) :
    ∃ a n cap zs, v = .slice a n cap ∧ Sl k W a n zs ∧ (a = none → cap = 0) := by
  obtain ⟨a, n, cap, zs, h1, h2, h3, _⟩ := open_slc ht he hc hby hv h hsz
  exact ⟨a, n, cap, zs, h1, h2, h3⟩

/-- an array of integers among the arguments -/
theorem open_arr {W : World} {b0 : Nat} {r : Reach} {t e : TypeId} {k : IntKind} {n : Nat} {v : Value} {d : DataW H} {p : List MemPlace} (ht : P.underlying t = some (.array n e)) (he : P.underlying e = some (.int k)) (hc : P.cellsOf e = 1) (hct : P.cellsOf t = n)
    (hv : Value.okWide P W r b0 t v) (h : DataW.Trod enc P W 0 (fun _ => true) true t v d p) :
    ∃ ns : List Int, v = .agg (ns.map (Value.int k)).toArray ∧ ns.length = n ∧ ∀ z ∈ ns, (Lit.int k z).wf = true := by
  obtain ⟨cs, rfl, hsz⟩ : ∃ cs, v = .agg cs ∧ cs.size = P.cellsOf t := by
    simp only [Value.okWide, ht] at hv
    obtain ⟨cs, h1, h2, _⟩ := hv
    exact ⟨cs, h1, h2⟩
  rw [hct] at hsz
  obtain ⟨l⟩ := cs
  have hl : l.length = n := by simpa using hsz
  obtain ⟨fuel, hf⟩ := h
  obtain ⟨xs, m, _, _, _, _, hel⟩ := DataW.trod_array ht hf
  have each : ∀ i, i < n → ∃ z, l[i]? = some (.int k z) ∧ (Lit.int k z).wf = true := fun i hi => by
    have h1 := hel i hi
    rw [hc, Nat.mul_one] at h1
    have hlist : (((Value.agg ⟨l⟩).cells.toList).drop i).take 1 = [l[i]'(by omega)] := by
      have : (Value.agg ⟨l⟩).cells.toList = l := rfl
      rw [this, List.drop_eq_getElem_cons (by omega)]; rfl
    have h3 : ∃ y, xs[i]? = some y := by
      have : i < xs.length := by
        have := hel i hi
        rcases Nat.lt_or_ge i xs.length with h | h
        · exact h
        · simp_all
      exact ⟨_, List.getElem?_eq_getElem this⟩
    obtain ⟨y, hy⟩ := h3
    rw [hlist, hy] at h1
    obtain ⟨z, e1, _, w⟩ := DataW.trod_int he h1
    simp at e1
    exact ⟨z, by rw [List.getElem?_eq_getElem (by omega), e1], w⟩
  refine ⟨l.map fun v => match v with | .int _ z => z | _ => 0, ?_, by simpa using hl, fun z hz => ?_⟩
  · congr 1
    apply Array.ext'
    simp only [List.map_map]
    apply List.ext_getElem?
    intro i
    rw [List.getElem?_map]
    by_cases hi : i < n
    · obtain ⟨z, hz, _⟩ := each i hi
      rw [hz]; rfl
    · rw [List.getElem?_eq_none (by omega)]; rfl
  · obtain ⟨v, hv, rfl⟩ := List.mem_map.1 hz
    obtain ⟨i, hi, rfl⟩ := List.mem_iff_getElem.1 hv
    obtain ⟨z, hz, w⟩ := each i (by omega)
    rw [List.getElem?_eq_getElem hi] at hz
    rw [Option.some.inj hz]; exact w
end
end Go.Proofs.YtkhcfmnebflgkaaDoor
/-
  A header among the arguments.
-/
namespace Go.Proofs.YtkhcfmnebflgkaaDoor
open Go Go.RowKit Go.ChangeShapes Go.WideShapes Go.Joins Go.Deep

section
variable {H : Type} {enc : TypeId × Value → H} {P : Program}
/-- a struct of fifteen ints, by value -/
theorem open_hd {w : World} {base : Nat} {spare : Nat → Bool} {held : Bool} {r : Reach} {b0 : Nat} {t : TypeId} {f0 f1 f2 f3 f4 f5 f6 f7 f8 f9 f10 f11 f12 f13 f14 : Field} {v : Value} {d : DataW H} {p : List MemPlace} (hs : P.underlying t = some (.struct #[f0, f1, f2, f3, f4, f5, f6, f7, f8, f9, f10, f11, f12, f13, f14])) (hone : oneCellFields P #[f0, f1, f2, f3, f4, f5, f6, f7, f8, f9, f10, f11, f12, f13, f14] = true) (hC : P.cellsOf t = 15)
    (ht : ∀ f ∈ [f0, f1, f2, f3, f4, f5, f6, f7, f8, f9, f10, f11, f12, f13, f14], P.underlying f.type = some (.int .i64)) (hv : Value.okWide P w r b0 t v) (h : DataW.Trod enc P w base spare held t v d p) :
    ∃ h : Hd, v = (.agg #[.int .i64 h.kind, .int .i64 h.tos, .int .i64 h.id, .int .i64 h.fixed, .int .i64 h.ttl, .int .i64 h.frm, .int .i64 h.to, .int .i64 h.fromPort, .int .i64 h.toPort, .int .i64 h.check, .int .i64 h.marker, .int .i64 h.type, .int .i64 h.seq, .int .i64 h.time, .int .i64 h.source]) ∧ h.Fits := by
  obtain ⟨cs, rfl, hsz⟩ := okWide_struct hs hv
  obtain ⟨l⟩ := cs
  match l, hsz.trans hC with
  | [c0, c1, c2, c3, c4, c5, c6, c7, c8, c9, c10, c11, c12, c13, c14], _ =>
    obtain ⟨fuel, hf⟩ := h
    obtain ⟨xs, n, _, hx, _, hlen, hg⟩ := DataW.trod_struct hs hf
    match xs, hlen with
    | [y0, y1, y2, y3, y4, y5, y6, y7, y8, y9, y10, y11, y12, y13, y14], _ =>
      obtain ⟨o0, k0⟩ := hone_of hone 0 f0 rfl
      have g0 : DataW.trod enc P w base spare held n f0.type [c0] = some y0 := by simpa [Value.cells, o0, k0] using hg 0 f0 rfl
      obtain ⟨z0, e0, _, w0⟩ := DataW.trod_int (ht f0 (by simp)) g0
      have q0 := wf_i64 w0
      simp only [List.cons.injEq, and_true] at e0
      subst e0
      obtain ⟨o1, k1⟩ := hone_of hone 1 f1 rfl
      have g1 : DataW.trod enc P w base spare held n f1.type [c1] = some y1 := by simpa [Value.cells, o1, k1] using hg 1 f1 rfl
      obtain ⟨z1, e1, _, w1⟩ := DataW.trod_int (ht f1 (by simp)) g1
      have q1 := wf_i64 w1
      simp only [List.cons.injEq, and_true] at e1
      subst e1
      obtain ⟨o2, k2⟩ := hone_of hone 2 f2 rfl
      have g2 : DataW.trod enc P w base spare held n f2.type [c2] = some y2 := by simpa [Value.cells, o2, k2] using hg 2 f2 rfl
      obtain ⟨z2, e2, _, w2⟩ := DataW.trod_int (ht f2 (by simp)) g2
      have q2 := wf_i64 w2
      simp only [List.cons.injEq, and_true] at e2
      subst e2
      obtain ⟨o3, k3⟩ := hone_of hone 3 f3 rfl
      have g3 : DataW.trod enc P w base spare held n f3.type [c3] = some y3 := by simpa [Value.cells, o3, k3] using hg 3 f3 rfl
      obtain ⟨z3, e3, _, w3⟩ := DataW.trod_int (ht f3 (by simp)) g3
      have q3 := wf_i64 w3
      simp only [List.cons.injEq, and_true] at e3
      subst e3
      obtain ⟨o4, k4⟩ := hone_of hone 4 f4 rfl
      have g4 : DataW.trod enc P w base spare held n f4.type [c4] = some y4 := by simpa [Value.cells, o4, k4] using hg 4 f4 rfl
      obtain ⟨z4, e4, _, w4⟩ := DataW.trod_int (ht f4 (by simp)) g4
      have q4 := wf_i64 w4
      simp only [List.cons.injEq, and_true] at e4
      subst e4
      obtain ⟨o5, k5⟩ := hone_of hone 5 f5 rfl
      have g5 : DataW.trod enc P w base spare held n f5.type [c5] = some y5 := by simpa [Value.cells, o5, k5] using hg 5 f5 rfl
      obtain ⟨z5, e5, _, w5⟩ := DataW.trod_int (ht f5 (by simp)) g5
      have q5 := wf_i64 w5
      simp only [List.cons.injEq, and_true] at e5
      subst e5
      obtain ⟨o6, k6⟩ := hone_of hone 6 f6 rfl
      have g6 : DataW.trod enc P w base spare held n f6.type [c6] = some y6 := by simpa [Value.cells, o6, k6] using hg 6 f6 rfl
      obtain ⟨z6, e6, _, w6⟩ := DataW.trod_int (ht f6 (by simp)) g6
      have q6 := wf_i64 w6
      simp only [List.cons.injEq, and_true] at e6
      subst e6
      obtain ⟨o7, k7⟩ := hone_of hone 7 f7 rfl
      have g7 : DataW.trod enc P w base spare held n f7.type [c7] = some y7 := by simpa [Value.cells, o7, k7] using hg 7 f7 rfl
      obtain ⟨z7, e7, _, w7⟩ := DataW.trod_int (ht f7 (by simp)) g7
      have q7 := wf_i64 w7
      simp only [List.cons.injEq, and_true] at e7
      subst e7
      obtain ⟨o8, k8⟩ := hone_of hone 8 f8 rfl
      have g8 : DataW.trod enc P w base spare held n f8.type [c8] = some y8 := by simpa [Value.cells, o8, k8] using hg 8 f8 rfl
      obtain ⟨z8, e8, _, w8⟩ := DataW.trod_int (ht f8 (by simp)) g8
      have q8 := wf_i64 w8
      simp only [List.cons.injEq, and_true] at e8
      subst e8
      obtain ⟨o9, k9⟩ := hone_of hone 9 f9 rfl
      have g9 : DataW.trod enc P w base spare held n f9.type [c9] = some y9 := by simpa [Value.cells, o9, k9] using hg 9 f9 rfl
      obtain ⟨z9, e9, _, w9⟩ := DataW.trod_int (ht f9 (by simp)) g9
      have q9 := wf_i64 w9
      simp only [List.cons.injEq, and_true] at e9
      subst e9
      obtain ⟨o10, k10⟩ := hone_of hone 10 f10 rfl
      have g10 : DataW.trod enc P w base spare held n f10.type [c10] = some y10 := by simpa [Value.cells, o10, k10] using hg 10 f10 rfl
      obtain ⟨z10, e10, _, w10⟩ := DataW.trod_int (ht f10 (by simp)) g10
      have q10 := wf_i64 w10
      simp only [List.cons.injEq, and_true] at e10
      subst e10
      obtain ⟨o11, k11⟩ := hone_of hone 11 f11 rfl
      have g11 : DataW.trod enc P w base spare held n f11.type [c11] = some y11 := by simpa [Value.cells, o11, k11] using hg 11 f11 rfl
      obtain ⟨z11, e11, _, w11⟩ := DataW.trod_int (ht f11 (by simp)) g11
      have q11 := wf_i64 w11
      simp only [List.cons.injEq, and_true] at e11
      subst e11
      obtain ⟨o12, k12⟩ := hone_of hone 12 f12 rfl
      have g12 : DataW.trod enc P w base spare held n f12.type [c12] = some y12 := by simpa [Value.cells, o12, k12] using hg 12 f12 rfl
      obtain ⟨z12, e12, _, w12⟩ := DataW.trod_int (ht f12 (by simp)) g12
      have q12 := wf_i64 w12
      simp only [List.cons.injEq, and_true] at e12
      subst e12
      obtain ⟨o13, k13⟩ := hone_of hone 13 f13 rfl
      have g13 : DataW.trod enc P w base spare held n f13.type [c13] = some y13 := by simpa [Value.cells, o13, k13] using hg 13 f13 rfl
      obtain ⟨z13, e13, _, w13⟩ := DataW.trod_int (ht f13 (by simp)) g13
      have q13 := wf_i64 w13
      simp only [List.cons.injEq, and_true] at e13
      subst e13
      obtain ⟨o14, k14⟩ := hone_of hone 14 f14 rfl
      have g14 : DataW.trod enc P w base spare held n f14.type [c14] = some y14 := by simpa [Value.cells, o14, k14] using hg 14 f14 rfl
      obtain ⟨z14, e14, _, w14⟩ := DataW.trod_int (ht f14 (by simp)) g14
      have q14 := wf_i64 w14
      simp only [List.cons.injEq, and_true] at e14
      subst e14
      exact ⟨⟨z0, z1, z2, z3, z4, z5, z6, z7, z8, z9, z10, z11, z12, z13, z14⟩, rfl, ⟨q0, q1, q2, q3, q4, q5, q6, q7, q8, q9, q10, q11, q12, q13, q14⟩⟩
end
end Go.Proofs.YtkhcfmnebflgkaaDoor
/-
  Structs of ints among the arguments, by themselves and in an array: fifteen (a header), two (dynamic parameters).
-/
namespace Go.Proofs.YtkhcfmnebflgkaaDoor
open Go Go.RowKit Go.ChangeShapes Go.WideShapes Go.Joins Go.Deep

section
variable {H : Type} {enc : TypeId × Value → H} {P : Program}

theorem hd_of_trod {w : World} {base : Nat} {spare : Nat → Bool} {held : Bool} {t : TypeId} {f0 f1 f2 f3 f4 f5 f6 f7 f8 f9 f10 f11 f12 f13 f14 : Field} {fuel : Nat} {cs : List Value} {y : DataW H × List MemPlace} (hs : P.underlying t = some (.struct #[f0, f1, f2, f3, f4, f5, f6, f7, f8, f9, f10, f11, f12, f13, f14])) (hone : oneCellFields P #[f0, f1, f2, f3, f4, f5, f6, f7, f8, f9, f10, f11, f12, f13, f14] = true) (hC : P.cellsOf t = 15)
    (ht : ∀ f ∈ [f0, f1, f2, f3, f4, f5, f6, f7, f8, f9, f10, f11, f12, f13, f14], P.underlying f.type = some (.int .i64)) (hf : DataW.trod enc P w base spare held fuel t cs = some y) :
    ∃ h : Hd, cs = [.int .i64 h.kind, .int .i64 h.tos, .int .i64 h.id, .int .i64 h.fixed, .int .i64 h.ttl, .int .i64 h.frm, .int .i64 h.to, .int .i64 h.fromPort, .int .i64 h.toPort, .int .i64 h.check, .int .i64 h.marker, .int .i64 h.type, .int .i64 h.seq, .int .i64 h.time, .int .i64 h.source] ∧ h.Fits := by
  obtain ⟨xs, n, _, hx, hl, hlen, hg⟩ := DataW.trod_struct hs hf
  match cs, hl.trans hC with
  | [c0, c1, c2, c3, c4, c5, c6, c7, c8, c9, c10, c11, c12, c13, c14], _ =>
    match xs, hlen with
    | [y0, y1, y2, y3, y4, y5, y6, y7, y8, y9, y10, y11, y12, y13, y14], _ =>
      obtain ⟨o0, k0⟩ := hone_of hone 0 f0 rfl
      have g0 : DataW.trod enc P w base spare held n f0.type [c0] = some y0 := by simpa [o0, k0] using hg 0 f0 rfl
      obtain ⟨z0, e0, _, w0⟩ := DataW.trod_int (ht f0 (by simp)) g0
      have q0 := wf_i64 w0
      simp only [List.cons.injEq, and_true] at e0
      subst e0
      obtain ⟨o1, k1⟩ := hone_of hone 1 f1 rfl
      have g1 : DataW.trod enc P w base spare held n f1.type [c1] = some y1 := by simpa [o1, k1] using hg 1 f1 rfl
      obtain ⟨z1, e1, _, w1⟩ := DataW.trod_int (ht f1 (by simp)) g1
      have q1 := wf_i64 w1
      simp only [List.cons.injEq, and_true] at e1
      subst e1
      obtain ⟨o2, k2⟩ := hone_of hone 2 f2 rfl
      have g2 : DataW.trod enc P w base spare held n f2.type [c2] = some y2 := by simpa [o2, k2] using hg 2 f2 rfl
      obtain ⟨z2, e2, _, w2⟩ := DataW.trod_int (ht f2 (by simp)) g2
      have q2 := wf_i64 w2
      simp only [List.cons.injEq, and_true] at e2
      subst e2
      obtain ⟨o3, k3⟩ := hone_of hone 3 f3 rfl
      have g3 : DataW.trod enc P w base spare held n f3.type [c3] = some y3 := by simpa [o3, k3] using hg 3 f3 rfl
      obtain ⟨z3, e3, _, w3⟩ := DataW.trod_int (ht f3 (by simp)) g3
      have q3 := wf_i64 w3
      simp only [List.cons.injEq, and_true] at e3
      subst e3
      obtain ⟨o4, k4⟩ := hone_of hone 4 f4 rfl
      have g4 : DataW.trod enc P w base spare held n f4.type [c4] = some y4 := by simpa [o4, k4] using hg 4 f4 rfl
      obtain ⟨z4, e4, _, w4⟩ := DataW.trod_int (ht f4 (by simp)) g4
      have q4 := wf_i64 w4
      simp only [List.cons.injEq, and_true] at e4
      subst e4
      obtain ⟨o5, k5⟩ := hone_of hone 5 f5 rfl
      have g5 : DataW.trod enc P w base spare held n f5.type [c5] = some y5 := by simpa [o5, k5] using hg 5 f5 rfl
      obtain ⟨z5, e5, _, w5⟩ := DataW.trod_int (ht f5 (by simp)) g5
      have q5 := wf_i64 w5
      simp only [List.cons.injEq, and_true] at e5
      subst e5
      obtain ⟨o6, k6⟩ := hone_of hone 6 f6 rfl
      have g6 : DataW.trod enc P w base spare held n f6.type [c6] = some y6 := by simpa [o6, k6] using hg 6 f6 rfl
      obtain ⟨z6, e6, _, w6⟩ := DataW.trod_int (ht f6 (by simp)) g6
      have q6 := wf_i64 w6
      simp only [List.cons.injEq, and_true] at e6
      subst e6
      obtain ⟨o7, k7⟩ := hone_of hone 7 f7 rfl
      have g7 : DataW.trod enc P w base spare held n f7.type [c7] = some y7 := by simpa [o7, k7] using hg 7 f7 rfl
      obtain ⟨z7, e7, _, w7⟩ := DataW.trod_int (ht f7 (by simp)) g7
      have q7 := wf_i64 w7
      simp only [List.cons.injEq, and_true] at e7
      subst e7
      obtain ⟨o8, k8⟩ := hone_of hone 8 f8 rfl
      have g8 : DataW.trod enc P w base spare held n f8.type [c8] = some y8 := by simpa [o8, k8] using hg 8 f8 rfl
      obtain ⟨z8, e8, _, w8⟩ := DataW.trod_int (ht f8 (by simp)) g8
      have q8 := wf_i64 w8
      simp only [List.cons.injEq, and_true] at e8
      subst e8
      obtain ⟨o9, k9⟩ := hone_of hone 9 f9 rfl
      have g9 : DataW.trod enc P w base spare held n f9.type [c9] = some y9 := by simpa [o9, k9] using hg 9 f9 rfl
      obtain ⟨z9, e9, _, w9⟩ := DataW.trod_int (ht f9 (by simp)) g9
      have q9 := wf_i64 w9
      simp only [List.cons.injEq, and_true] at e9
      subst e9
      obtain ⟨o10, k10⟩ := hone_of hone 10 f10 rfl
      have g10 : DataW.trod enc P w base spare held n f10.type [c10] = some y10 := by simpa [o10, k10] using hg 10 f10 rfl
      obtain ⟨z10, e10, _, w10⟩ := DataW.trod_int (ht f10 (by simp)) g10
      have q10 := wf_i64 w10
      simp only [List.cons.injEq, and_true] at e10
      subst e10
      obtain ⟨o11, k11⟩ := hone_of hone 11 f11 rfl
      have g11 : DataW.trod enc P w base spare held n f11.type [c11] = some y11 := by simpa [o11, k11] using hg 11 f11 rfl
      obtain ⟨z11, e11, _, w11⟩ := DataW.trod_int (ht f11 (by simp)) g11
      have q11 := wf_i64 w11
      simp only [List.cons.injEq, and_true] at e11
      subst e11
      obtain ⟨o12, k12⟩ := hone_of hone 12 f12 rfl
      have g12 : DataW.trod enc P w base spare held n f12.type [c12] = some y12 := by simpa [o12, k12] using hg 12 f12 rfl
      obtain ⟨z12, e12, _, w12⟩ := DataW.trod_int (ht f12 (by simp)) g12
      have q12 := wf_i64 w12
      simp only [List.cons.injEq, and_true] at e12
      subst e12
      obtain ⟨o13, k13⟩ := hone_of hone 13 f13 rfl
      have g13 : DataW.trod enc P w base spare held n f13.type [c13] = some y13 := by simpa [o13, k13] using hg 13 f13 rfl
      obtain ⟨z13, e13, _, w13⟩ := DataW.trod_int (ht f13 (by simp)) g13
      have q13 := wf_i64 w13
      simp only [List.cons.injEq, and_true] at e13
      subst e13
      obtain ⟨o14, k14⟩ := hone_of hone 14 f14 rfl
      have g14 : DataW.trod enc P w base spare held n f14.type [c14] = some y14 := by simpa [o14, k14] using hg 14 f14 rfl
      obtain ⟨z14, e14, _, w14⟩ := DataW.trod_int (ht f14 (by simp)) g14
      have q14 := wf_i64 w14
      simp only [List.cons.injEq, and_true] at e14
      subst e14
      exact ⟨⟨z0, z1, z2, z3, z4, z5, z6, z7, z8, z9, z10, z11, z12, z13, z14⟩, rfl, ⟨q0, q1, q2, q3, q4, q5, q6, q7, q8, q9, q10, q11, q12, q13, q14⟩⟩

theorem two_of_trod {w : World} {base : Nat} {spare : Nat → Bool} {held : Bool} {t : TypeId} {f0 f1 : Field} {fuel : Nat} {cs : List Value} {y : DataW H × List MemPlace} (hs : P.underlying t = some (.struct #[f0, f1])) (hone : oneCellFields P #[f0, f1] = true) (hC : P.cellsOf t = 2)
    (ht : ∀ f ∈ [f0, f1], P.underlying f.type = some (.int .i64)) (hf : DataW.trod enc P w base spare held fuel t cs = some y) :
    ∃ a b : Int, cs = [.int .i64 a, .int .i64 b] ∧ (-9223372036854775808 ≤ a ∧ a ≤ 9223372036854775807) ∧ (-9223372036854775808 ≤ b ∧ b ≤ 9223372036854775807) := by
  obtain ⟨xs, n, _, hx, hl, hlen, hg⟩ := DataW.trod_struct hs hf
  match cs, hl.trans hC with
  | [c0, c1], _ =>
    match xs, hlen with
    | [y0, y1], _ =>
      obtain ⟨o0, k0⟩ := hone_of hone 0 f0 rfl
      have g0 : DataW.trod enc P w base spare held n f0.type [c0] = some y0 := by simpa [o0, k0] using hg 0 f0 rfl
      obtain ⟨z0, e0, _, w0⟩ := DataW.trod_int (ht f0 (by simp)) g0
      have q0 := wf_i64 w0
      simp only [List.cons.injEq, and_true] at e0
      subst e0
      obtain ⟨o1, k1⟩ := hone_of hone 1 f1 rfl
      have g1 : DataW.trod enc P w base spare held n f1.type [c1] = some y1 := by simpa [o1, k1] using hg 1 f1 rfl
      obtain ⟨z1, e1, _, w1⟩ := DataW.trod_int (ht f1 (by simp)) g1
      have q1 := wf_i64 w1
      simp only [List.cons.injEq, and_true] at e1
      subst e1
      exact ⟨z0, z1, rfl, q0, q1⟩

/-- an array of two headers -/
theorem open_hd2 {w : World} {base : Nat} {spare : Nat → Bool} {held : Bool} {r : Reach} {b0 : Nat} {t e : TypeId} {f0 f1 f2 f3 f4 f5 f6 f7 f8 f9 f10 f11 f12 f13 f14 : Field} {v : Value} {d : DataW H} {p : List MemPlace} (ha : P.underlying t = some (.array 2 e)) (hs : P.underlying e = some (.struct #[f0, f1, f2, f3, f4, f5, f6, f7, f8, f9, f10, f11, f12, f13, f14])) (hone : oneCellFields P #[f0, f1, f2, f3, f4, f5, f6, f7, f8, f9, f10, f11, f12, f13, f14] = true) (hC : P.cellsOf e = 15) (hT : P.cellsOf t = 30)
    (ht : ∀ f ∈ [f0, f1, f2, f3, f4, f5, f6, f7, f8, f9, f10, f11, f12, f13, f14], P.underlying f.type = some (.int .i64)) (hv : Value.okWide P w r b0 t v) (h : DataW.Trod enc P w base spare held t v d p) :
    ∃ a b : Hd, v = .agg #[.int .i64 a.kind, .int .i64 a.tos, .int .i64 a.id, .int .i64 a.fixed, .int .i64 a.ttl, .int .i64 a.frm, .int .i64 a.to, .int .i64 a.fromPort, .int .i64 a.toPort, .int .i64 a.check, .int .i64 a.marker, .int .i64 a.type, .int .i64 a.seq, .int .i64 a.time, .int .i64 a.source, .int .i64 b.kind, .int .i64 b.tos, .int .i64 b.id, .int .i64 b.fixed, .int .i64 b.ttl, .int .i64 b.frm, .int .i64 b.to, .int .i64 b.fromPort, .int .i64 b.toPort, .int .i64 b.check, .int .i64 b.marker, .int .i64 b.type, .int .i64 b.seq, .int .i64 b.time, .int .i64 b.source] ∧ a.Fits ∧ b.Fits := by
  obtain ⟨cs, rfl, hsz⟩ : ∃ cs, v = .agg cs ∧ cs.size = P.cellsOf t := by
    simp only [Value.okWide, ha] at hv
    obtain ⟨cs, h1, h2, _⟩ := hv
    exact ⟨cs, h1, h2⟩
  obtain ⟨l⟩ := cs
  have hl : l.length = 30 := by simpa using hsz.trans hT
  obtain ⟨fuel, hf⟩ := h
  obtain ⟨xs, m, _, _, _, hlen, hel⟩ := DataW.trod_array ha hf
  match xs, hlen with
  | [x0, x1], _ =>
    have g0 := hel 0 (by omega)
    have g1 := hel 1 (by omega)
    rw [hC] at g0 g1
    have e0 : (Value.agg ⟨l⟩).cells.toList = l := rfl
    rw [e0] at g0 g1
    obtain ⟨a, ea, fa⟩ := hd_of_trod hs hone hC ht g0
    obtain ⟨b, eb, fb⟩ := hd_of_trod hs hone hC ht g1
    refine ⟨a, b, ?_, fa, fb⟩
    have el : l = (l.drop 0).take 15 ++ (l.drop 15).take 15 := by
      rw [List.drop_zero, List.take_of_length_le (l := l.drop 15) (by rw [List.length_drop]; omega), List.take_append_drop]
    rw [show 0 * 15 = 0 from rfl] at ea
    rw [show 1 * 15 = 15 from rfl] at eb
    rw [ea, eb] at el
    rw [el]
    rfl
theorem open_two {w : World} {base : Nat} {spare : Nat → Bool} {held : Bool} {r : Reach} {b0 : Nat} {t : TypeId} {f0 f1 : Field} {v : Value} {d : DataW H} {p : List MemPlace} (hs : P.underlying t = some (.struct #[f0, f1])) (hone : oneCellFields P #[f0, f1] = true) (hC : P.cellsOf t = 2)
    (ht : ∀ f ∈ [f0, f1], P.underlying f.type = some (.int .i64)) (hv : Value.okWide P w r b0 t v) (h : DataW.Trod enc P w base spare held t v d p) :
    ∃ a b : Int, v = .agg #[.int .i64 a, .int .i64 b] ∧ (-9223372036854775808 ≤ a ∧ a ≤ 9223372036854775807) ∧ (-9223372036854775808 ≤ b ∧ b ≤ 9223372036854775807) := by
  obtain ⟨cs, rfl, hsz⟩ := okWide_struct hs hv
  obtain ⟨l⟩ := cs
  obtain ⟨fuel, hf⟩ := h
  obtain ⟨a, b, e, ha, hb⟩ := two_of_trod hs hone hC ht hf
  refine ⟨a, b, ?_, ha, hb⟩
  rw [show l = _ from e]
end
end Go.Proofs.YtkhcfmnebflgkaaDoor
/-
  A packet in parts among the arguments. (gen_open.py writes this text.)
-/
namespace Go.Proofs.YtkhcfmnebflgkaaDoor
open Go Go.RowKit Go.ChangeShapes Go.WideShapes Go.Joins Go.Deep

theorem cells_smI : Tryd.prog.cellsOf 3 = 1 := by kernel_rfl
theorem cells_smH : Tryd.prog.cellsOf 23 = 15 := by kernel_rfl
theorem cells_smD : Tryd.prog.cellsOf 25 = 2 := by kernel_rfl
theorem cells_smP : Tryd.prog.cellsOf 26 = 1 := by kernel_rfl
theorem cells_smB : Tryd.prog.cellsOf 5 = 1 := by kernel_rfl
theorem cells_smS : Tryd.prog.cellsOf 28 = 26 := by kernel_rfl
set_option maxRecDepth 100000 in
theorem open_sm {H : Type} {enc : TypeId × Value → H} {W : World} {b0 : Nat} {r : Reach} {v : Value} {d : DataW H} {p : List MemPlace} (hv : Value.okWide Tryd.prog W r b0 28 v) (h : DataW.Trod enc Tryd.prog W 0 (fun _ => true) true 28 v d p) :
    ∃ s : Sm, v = (.agg #[.int .i64 s.ctx, .int .i64 s.fmt, .int .i64 s.num, .int .i64 s.time, .int .i64 s.mark, .int .i64 s.id, .int .i64 s.udp, .int .i64 s.h.kind, .int .i64 s.h.tos, .int .i64 s.h.id, .int .i64 s.h.fixed, .int .i64 s.h.ttl, .int .i64 s.h.frm, .int .i64 s.h.to, .int .i64 s.h.fromPort, .int .i64 s.h.toPort, .int .i64 s.h.check, .int .i64 s.h.marker, .int .i64 s.h.type, .int .i64 s.h.seq, .int .i64 s.h.time, .int .i64 s.h.source, .int .i64 s.ds, .int .i64 s.df, .int .i64 s.chk, .slice s.pa s.pn s.pc]) ∧ s.Fits ∧ (s.pn ≤ 1500 → s.In W) := by
  obtain ⟨cs, rfl, hsz⟩ := okWide_struct Tryd.underlying28 hv
  obtain ⟨l⟩ := cs
  match l, hsz.trans cells_smS with
  | [c0, c1, c2, c3, c4, c5, c6, c7, c8, c9, c10, c11, c12, c13, c14, c15, c16, c17, c18, c19, c20, c21, c22, c23, c24, c25], _ =>
    obtain ⟨fuel, hf⟩ := h
    obtain ⟨xs, n, _, hx, _, hlen, hg⟩ := DataW.trod_struct Tryd.underlying28 hf
    match xs, hlen, hg with
    | [y0, y1, y2, y3, y4, y5, y6, y7, y8, y9, y10], _, hg =>
      have g0 := hg 0 _ rfl
      rw [show (_ : Field).type = 3 from rfl, cells_smI] at g0
      obtain ⟨z0, e0, _, w0⟩ := DataW.trod_int Tryd.underlying3 (show DataW.trod enc Tryd.prog W 0 (fun _ => true) true n 3 [c0] = some y0 from g0)
      have q0 := wf_i64 w0
      simp only [List.cons.injEq, and_true] at e0
      subst e0
      have g1 := hg 1 _ rfl
      rw [show (_ : Field).type = 3 from rfl, cells_smI] at g1
      obtain ⟨z1, e1, _, w1⟩ := DataW.trod_int Tryd.underlying3 (show DataW.trod enc Tryd.prog W 0 (fun _ => true) true n 3 [c1] = some y1 from g1)
      have q1 := wf_i64 w1
      simp only [List.cons.injEq, and_true] at e1
      subst e1
      have g2 := hg 2 _ rfl
      rw [show (_ : Field).type = 3 from rfl, cells_smI] at g2
      obtain ⟨z2, e2, _, w2⟩ := DataW.trod_int Tryd.underlying3 (show DataW.trod enc Tryd.prog W 0 (fun _ => true) true n 3 [c2] = some y2 from g2)
      have q2 := wf_i64 w2
      simp only [List.cons.injEq, and_true] at e2
      subst e2
      have g3 := hg 3 _ rfl
      rw [show (_ : Field).type = 3 from rfl, cells_smI] at g3
      obtain ⟨z3, e3, _, w3⟩ := DataW.trod_int Tryd.underlying3 (show DataW.trod enc Tryd.prog W 0 (fun _ => true) true n 3 [c3] = some y3 from g3)
      have q3 := wf_i64 w3
      simp only [List.cons.injEq, and_true] at e3
      subst e3
      have g4 := hg 4 _ rfl
      rw [show (_ : Field).type = 3 from rfl, cells_smI] at g4
      obtain ⟨z4, e4, _, w4⟩ := DataW.trod_int Tryd.underlying3 (show DataW.trod enc Tryd.prog W 0 (fun _ => true) true n 3 [c4] = some y4 from g4)
      have q4 := wf_i64 w4
      simp only [List.cons.injEq, and_true] at e4
      subst e4
      have g5 := hg 5 _ rfl
      rw [show (_ : Field).type = 3 from rfl, cells_smI] at g5
      obtain ⟨z5, e5, _, w5⟩ := DataW.trod_int Tryd.underlying3 (show DataW.trod enc Tryd.prog W 0 (fun _ => true) true n 3 [c5] = some y5 from g5)
      have q5 := wf_i64 w5
      simp only [List.cons.injEq, and_true] at e5
      subst e5
      have g6 := hg 6 _ rfl
      rw [show (_ : Field).type = 3 from rfl, cells_smI] at g6
      obtain ⟨z6, e6, _, w6⟩ := DataW.trod_int Tryd.underlying3 (show DataW.trod enc Tryd.prog W 0 (fun _ => true) true n 3 [c6] = some y6 from g6)
      have q6 := wf_i64 w6
      simp only [List.cons.injEq, and_true] at e6
      subst e6
      have g9 := hg 9 _ rfl
      rw [show (_ : Field).type = 3 from rfl, cells_smI] at g9
      obtain ⟨z9, e9, _, w9⟩ := DataW.trod_int Tryd.underlying3 (show DataW.trod enc Tryd.prog W 0 (fun _ => true) true n 3 [c24] = some y9 from g9)
      have q9 := wf_i64 w9
      simp only [List.cons.injEq, and_true] at e9
      subst e9
      have g7 := hg 7 _ rfl
      rw [show (_ : Field).type = 23 from rfl, cells_smH] at g7
      obtain ⟨hh, e7, f7⟩ := hd_of_trod Tryd.underlying23 (by kernel_rfl) cells_smH (fun f hf => by simp only [List.mem_cons, List.not_mem_nil, or_false] at hf; rcases hf with rfl | rfl | rfl | rfl | rfl | rfl | rfl | rfl | rfl | rfl | rfl | rfl | rfl | rfl | rfl <;> exact Tryd.underlying3) (show DataW.trod enc Tryd.prog W 0 (fun _ => true) true n 23 [c7, c8, c9, c10, c11, c12, c13, c14, c15, c16, c17, c18, c19, c20, c21] = some y7 from g7)
      simp only [List.cons.injEq, and_true] at e7
      obtain ⟨rfl, rfl, rfl, rfl, rfl, rfl, rfl, rfl, rfl, rfl, rfl, rfl, rfl, rfl, rfl⟩ := e7
      have g8 := hg 8 _ rfl
      rw [show (_ : Field).type = 25 from rfl, cells_smD] at g8
      obtain ⟨ds, df, e8, qs, qf⟩ := two_of_trod Tryd.underlying25 (by kernel_rfl) cells_smD (fun f hf => by simp only [List.mem_cons, List.not_mem_nil, or_false] at hf; rcases hf with rfl | rfl <;> exact Tryd.underlying3) (show DataW.trod enc Tryd.prog W 0 (fun _ => true) true n 25 [c22, c23] = some y8 from g8)
      simp only [List.cons.injEq, and_true] at e8
      obtain ⟨rfl, rfl⟩ := e8
      have g10 := hg 10 _ rfl
      rw [show (_ : Field).type = 26 from rfl, cells_smP] at g10
      rcases open_ints Tryd.underlying26 Tryd.underlying5 cells_smB (show DataW.trod enc Tryd.prog W 0 (fun _ => true) true n 26 [c25] = some y10 from g10) with ⟨hcs, _⟩ | ⟨x, l, c, zs, hcs, _, hl, _, hz, hx, hcell, hwz⟩
      · simp only [List.cons.injEq, and_true] at hcs
        subst hcs
        exact ⟨⟨z0, z1, z2, z3, z4, z5, z6, hh, ds, df, z9, none, 0, 0, []⟩, rfl, ⟨q0, q1, q2, q3, q4, q5, q6, qs, qf, q9, f7⟩, fun _ => ⟨⟨rfl, by simp, by simp, fun i hi => absurd hi (by simp)⟩, fun _ => rfl, Nat.le_refl _⟩⟩
      · simp only [List.cons.injEq, and_true] at hcs
        subst hcs
        have hz' : zs.length = c := by simpa using hz
        refine ⟨⟨z0, z1, z2, z3, z4, z5, z6, hh, ds, df, z9, some x, l, c, zs.take l⟩, rfl, ⟨q0, q1, q2, q3, q4, q5, q6, qs, qf, q9, f7⟩, fun hp => ⟨⟨by simp; omega, by simp only at hp ⊢; omega, fun z hm => hwz z (List.mem_of_mem_take hm), fun i hi => ?_⟩, (fun h => by cases h), hl⟩⟩
        simp only at hi
        have hcl := hcell i (by omega)
        have hc0 := hcell 0 (by omega)
        obtain ⟨b, off, spot⟩ := x
        have hspot : spot = none := by simpa [Addr.add] using World.cell?_spot hc0
        subst hspot
        have hplain : (⟨b, off, none⟩ : Addr).add i = ⟨b, off + i, none⟩ := by unfold Addr.add; split <;> simp_all
        rw [hplain] at hcl
        refine ⟨b, off, rfl, ?_⟩
        rw [hcl, List.getD_eq_getElem?_getD, List.getD_eq_getElem?_getD, List.getElem?_take, if_pos hi]
end Go.Proofs.YtkhcfmnebflgkaaDoor
/-
  From a walk to the row where the row lists package variables that are laid.
-/
namespace Go.Proofs.YtkhcfmnebflgkaaDoor
open Go Go.RowKit Go.ChangeShapes Go.WideShapes Go.ChangeAt

section
variable {H : Type} {enc : TypeId × Value → H} {P : Program}

/-- a walk that ends with true and turns nothing that was there, in a world whose listed variables hold what the row says -/
theorem law_lifted_laid {C : Checked} {os : Os} {f : FuncId} {fn : Func} {s : ChangeSpec} {rt : TypeId} {laid : List (String × DataW Unit)} (ts : List TypeId)
    (own : ownKnob C.prog.godebug = none) (started : os.Started) (noInit : C.prog.inits.idxOf? f = none) (hfn : C.prog.funcs[f]? = some fn) (hlaid : laidOutB C.prog = true)
    (hts : fn.params.toList = ts) (hread : ∀ t ∈ ts, C.prog.readableRec t = true ∧ t < C.prog.types.size) (hrt : fn.resultTypes = #[rt]) (hbool : C.prog.underlying rt = some .bool) (hvars : s.vars = [])
    (hspec : ∀ ds : List (DataW H), ds.length = ts.length → s.fn H (ds ++ []) = { results := [.lit (.bool true)], args := ds, vars := [] })
    (witness : ∃ (w : World) (tape : Tape) (i : Input), w.os = os ∧ (w.forCall tape i).Shaped C.prog ∧ i.vars = [] ∧ Input.okWide C.prog (w.forCall tape i) .any w.heap.size f i ∧
      ((s.pre enc C.prog fn [] false (w.forCall tape i).memory i.args ∧ laidMetH C.prog laid (w.forCall tape i).memory) ∧ sizedMet enc C.prog fn (OpenSpec.ofChange s) false (w.forCall tape i).memory i.args) ∧ ({} : Assume).holds C.prog (lone (Frame.enter C.prog f i.args .normal) [] (w.forCall tape i)))
    (walk : ∀ (W : World) (base : Nat) (args : Array Value) (ds : List (DataW H)) (p : List MemPlace),
      (∀ (j : Nat) t v, ts[j]? = some t → args[j]? = some v → Value.okWide C.prog W .any base t v) →
      DataW.TrodAll enc C.prog W 0 (fun _ => true) true ts args.toList ds p →
      (DataW.weightsEach C.prog ts ds).all (· ≤ reachBytes) = true → laidMetH C.prog laid W →
      Calls C.prog f args W fun e W' => e = .returned (.bool true) ∧ Below W.heap.size W W') :
    ReturnsInHanded {} C os f .any (fun w args => (s.pre enc C.prog fn [] false w args ∧ laidMetH C.prog laid w) ∧ sizedMet enc C.prog fn (OpenSpec.ofChange s) false w args) (s.post enc C.prog fn false true false false) := by
  refine returnsInHanded_of_change_and (C := C) (X := fun w _ => laidMetH C.prog laid w) (fun _ _ _ hh h => h.of_heap hh) own started noInit hfn witness ?_
  intro W base args ds gs before hval hW _ hsz hL _
  have hW' := hW
  obtain ⟨p, q, hA, hV, rfl, hfz, hnd⟩ := hW
  rw [hvars] at hV
  obtain ⟨rfl, rfl⟩ := trodVars_none hV
  rw [hts] at hA
  have hpar : ∀ (j : Nat) (t : TypeId), ts[j]? = some t → fn.params[j]? = some t := fun j t h => by
    rw [← hts] at h; simpa using h
  have hvt : s.plain.varTypes C.prog = [] := by
    simp [DataSpec.varTypes, ChangeSpec.plain, hvars]
  rw [hts, hvt, List.append_nil, List.append_nil] at hsz
  refine (walk W base args ds p (fun j t v h1 h2 => hval j t v (hpar j t h1) h2) hA hsz hL).mono fun e W' ⟨he, bel⟩ => ?_
  subst he
  have hs := hspec ds (trodAll_lens hA).2
  refine ⟨_, rfl, ds, [], _, [], p, [], hW', ?_, ?_, ?_, bel.frame _, fun h => by cases h⟩
  · rw [hs, hrt]
    exact trodAll_mk1 (shut_bool hbool true)
  · rw [hs, hts]
    exact below_trodAll hlaid bel hread hA
  · rw [hs, hvars]
    rfl

/-- one cell of a row out of its part -/
theorem cell_of_part {cs : List Value} {i : Nat} {v : Value} (h : (cs.drop i).take 1 = [v]) : cs[i]? = some v := by
  have e : ((cs.drop i).take 1)[0]? = some v := by rw [h]; rfl
  simpa [List.getElem?_take, List.getElem?_drop] using e

/-- two numbers that a variable's part holds -/
theorem pair_lit {w : World} {base : Nat} {spare : Nat → Bool} {held : Bool} {fuel : Nat} {t : TypeId} {cs : List Value} {p : List MemPlace} {f0 f1 : Field} {a b : Int} (hs : P.underlying t = some (.struct #[f0, f1])) (o0 : f0.offset = 0) (o1 : f1.offset = 1)
    (c0 : P.cellsOf f0.type = 1) (c1 : P.cellsOf f1.type = 1) (t0 : P.underlying f0.type = some (.int .i64)) (t1 : P.underlying f1.type = some (.int .i64))
    (h : DataW.trod enc P w base spare held fuel t cs = some (.agg [.lit (.int .i64 a), .lit (.int .i64 b)], p)) : cs[0]? = some (.int .i64 a) ∧ cs[1]? = some (.int .i64 b) := by
  obtain ⟨xs, n, rfl, hx, hl, hn, hel⟩ := DataW.trod_struct hs h
  have e0 := hel 0 f0 rfl
  have e1 := hel 1 f1 rfl
  rw [o0, c0] at e0
  rw [o1, c1] at e1
  simp only [Prod.mk.injEq, DataW.agg.injEq] at hx
  match xs, hn, hx, e0, e1 with
  | [x0, x1], _, hx, e0, e1 =>
    obtain ⟨k0, q0, r0, _⟩ := DataW.trod_int t0 (show _ = some x0 from e0)
    obtain ⟨k1, q1, r1, _⟩ := DataW.trod_int t1 (show _ = some x1 from e1)
    subst r0; subst r1
    have hx1 := hx.1
    simp at hx1
    rw [hx1.1, hx1.2]
    exact ⟨cell_of_part q0, cell_of_part q1⟩

/-- the cells of a table of pairs that a variable holds -/
theorem pairs_lit {w : World} {base : Nat} {spare : Nat → Bool} {held : Bool} {fuel : Nat} {t e : TypeId} {cs : List Value} {p : List MemPlace} {f0 f1 : Field} {n : Nat} {D : List (Int × Int)} (ha : P.underlying t = some (.array n e)) (hc : P.cellsOf e = 2)
    (hs : P.underlying e = some (.struct #[f0, f1])) (o0 : f0.offset = 0) (o1 : f1.offset = 1)
    (c0 : P.cellsOf f0.type = 1) (c1 : P.cellsOf f1.type = 1) (t0 : P.underlying f0.type = some (.int .i64)) (t1 : P.underlying f1.type = some (.int .i64))
    (h : DataW.trod enc P w base spare held fuel t cs = some (.agg (D.map fun x => .agg [.lit (.int .i64 x.1), .lit (.int .i64 x.2)]), p)) (i : Nat) (x : Int × Int) (hi : D[i]? = some x) : cs[2 * i]? = some (.int .i64 x.1) ∧ cs[2 * i + 1]? = some (.int .i64 x.2) := by
  obtain ⟨xs, m, rfl, hx, hl, hn, hel⟩ := DataW.trod_array ha h
  simp only [Prod.mk.injEq, DataW.agg.injEq] at hx
  have hx1 := congrArg (·[i]?) hx.1
  simp only [List.getElem?_map, hi, Option.map_some] at hx1
  cases hy : xs[i]? with
  | none => rw [hy] at hx1; cases hx1
  | some y =>
    rw [hy] at hx1
    simp only [Option.map_some, Option.some.injEq] at hx1
    have hlt : i < n := by rw [← hn]; exact (List.getElem?_eq_some_iff.1 hy).1
    have hh := hel i hlt
    rw [hy, hc] at hh
    obtain ⟨y1, y2⟩ := y
    simp only at hx1
    rw [← hx1] at hh
    obtain ⟨g0, g1⟩ := pair_lit hs o0 o1 c0 c1 t0 t1 hh
    rw [List.getElem?_take, if_pos (by omega), List.getElem?_drop] at g0 g1
    rw [Nat.mul_comm 2 i]
    exact ⟨by simpa using g0, g1⟩
end
end Go.Proofs.YtkhcfmnebflgkaaDoor
