/-
  Proved: the Go function ChecksumOrder, called with any bytes and two numbers, returns true and leaves its arguments as they were (two words in each other's place do not change the checksum).
  Conditions: none beyond those of the given row.
-/
import Derived.Test.YtlofehjopdhkaaaSumAwake
import Derived.Test.YtlofehjopdhkaaaPush
import Derived.Test.YtlofehjopdhkaaaMod
import Derived.Test.YtlofehjopdhkaaaLift
import Derived.Test.YtlofehjopdhkaaaRows
import Derived.BigRegion
import Derived.Deep.QuietTactic
import Derived.BigQuiet
import Derived.Deep.RegionHeld3
import Derived.Deep.DrawnRows
import Derived.Deep.DeepCutAuto
namespace Go.Proofs.Ytlofehjopdhkaaa.checksumOrder
open Go Go.RowKit Go.ChangeShapes Go.WideShapes Go.ChangeAt
attribute [local go_sem ↓] Go.wp_at_zero Go.wp_at_succ

theorem info_b : (Try.prog.info? 5).map (fun i => (i.zero, i.size, i.bytes)) = some (some (.int .u8 0), 1, 1) := by kernel_rfl
theorem nat_mod (x m : Int) (hm : 1 ≤ m) : ∃ A : Nat, (A : Int) = x % m ∧ (A : Int) < m := by
  have := Int.emod_nonneg x (show m ≠ 0 by omega)
  have := Int.emod_lt_of_pos x (show (0 : Int) < m by omega)
  exact ⟨(x % m).toNat, by omega, by omega⟩

set_option maxRecDepth 100000 in
set_option maxHeartbeats 3200000 in
theorem walk2 (w : World) (a : Option Addr) (n cap : Nat) (zs : List Int) (hs : Sl .u8 w a n zs) (hca : a = none → cap = 0) (x0 x1 : Int)
    (b0 : -9223372036854775808 ≤ x0 ∧ x0 ≤ 9223372036854775807) (b1 : -9223372036854775808 ≤ x1 ∧ x1 ≤ 9223372036854775807) :
    Calls Try.prog 5 #[.slice a n cap, .agg #[.int .i64 x0, .int .i64 x1]] w fun e w' => e = .returned (.bool true) ∧ Below w.heap.size w w' := by
  have hr := hs.reach
  have HL := Lib.hid hs.len
  have Hs := Lib.hid hs
  have HA := Lib.hid (Below.alloc (Below.refl w.heap.size w) (Nat.le_refl _) (.cells #[.int .i64 x0, .int .i64 x1] 35))
  clear hs
  by_cases hn : n / 2 = 0
  · have hn1 : (n : Int) / 2 = 0 := by omega
    go_enter Try.func5, Try.ntmps5
    go_wp2_with (first
      | (go_at_call 11; refine (awake04_b _ HA.out).mono ?_; rintro e w6 ⟨rfl, hb, hl⟩)
      | fail)
    go_ret
    exact ⟨rfl, hb⟩
  · obtain ⟨I, hI, hI2⟩ := nat_mod x0 ((n / 2 : Nat) : Int) (by omega)
    obtain ⟨K, hK, hK2⟩ := nat_mod x1 ((n / 2 : Nat) : Int) (by omega)
    have C0 : Hid (∀ W, Calls Try.prog 10 #[.int .i64 x0, .int .i64 ((n : Int) / 2)] W fun e w' => e = .returned (.int .i64 I) ∧ W = w') := fun W => by rw [hI]; exact mod_any x0 _ W (by omega) (by omega) b0.1 b0.2
    have C1 : Hid (∀ W, Calls Try.prog 10 #[.int .i64 x1, .int .i64 ((n : Int) / 2)] W fun e w' => e = .returned (.int .i64 K) ∧ W = w') := fun W => by rw [hK]; exact mod_any x1 _ W (by omega) (by omega) b1.1 b1.2
    have hIn : 2 * I + 1 < n := by omega
    have hKn : 2 * K + 1 < n := by omega
    have hnz : (n : Int) / 2 ≠ 0 := by omega
    have c0 : (w.alloc (.cells #[.int .i64 x0, .int .i64 x1] 35)).cell? ⟨w.heap.size, 0, none⟩ = some (.int .i64 x0) := (World.cell?_alloc_at (w := w) _ _ w.heap.size 0 rfl).trans rfl
    have c1 : (w.alloc (.cells #[.int .i64 x0, .int .i64 x1] 35)).cell? ⟨w.heap.size, 1, none⟩ = some (.int .i64 x1) := (World.cell?_alloc_at (w := w) _ _ w.heap.size 1 rfl).trans rfl
    have w1 : IntKind.i64.wrap (2 * (I : Int)) = 2 * (I : Int) := IntWalk.i64_in _ ⟨by omega, by omega⟩
    have w2 : IntKind.i64.wrap (2 * (K : Int)) = 2 * (K : Int) := IntWalk.i64_in _ ⟨by omega, by omega⟩
    clear hI hI2 hK hK2 b0 b1 hn
    go_enter Try.func5, Try.ntmps5
    go_upto_region 4 with (fail)
    go_cut [6, 7] (fun s6 s7 wx => s6 = .int .i64 (2 * (I : Int)) ∧ s7 = .int .i64 (2 * (K : Int)) ∧ Below w.heap.size w wx)
    case first =>
      go_region_held3 (fun w' => w'.cell? ⟨w.heap.size, 0, none⟩ = some (.int .i64 x0) ∧ w'.cell? ⟨w.heap.size, 1, none⟩ = some (.int .i64 x1)) (go_keep)
        (first | ((with_reducible refine (C0.out _).mono ?_); rintro e w' ⟨rfl, rfl⟩) | ((with_reducible refine (C1.out _).mono ?_); rintro e w' ⟨rfl, rfl⟩))
      all_goals (go_wp2_with fail; go_meet)
      all_goals exact ⟨rfl, rfl, HA.out.drew⟩
    case rest =>
      obtain ⟨rfl, rfl, hb⟩ := hcut
      have hsz := hb.size
      have SX := Lib.hid (Hs.out.keep hb)
      have HB := Lib.hid hb
      clear c0 c1 C0 C1 hb w1 w2
      go_upto_region 6 with (first
        | (at_builtin; refine wpList_append_at rfl (.const (.slice none 0 0)) (.tmp 25) 22 rfl .u8 5 w.heap.size 1 Try.underlying22 info_b (.slice none 0 0) 0 [] rfl (Mk.nil .u8 5 _ _) a n cap zs rfl SX.out hca (by omega) (by omega) hsz ?_; intro ao cp w3 hm hg hf hn1; rw [Nat.zero_add, List.nil_append] at hm; have M1 := Lib.hid hm; have B3 := Lib.hid (HB.out.trans (Below.of_row hg (fun g h => by cases h) hsz)); clear hm hg hf hn1)
        | fail)
      have SB := Lib.hid (Hs.out.keep B3.out)
      obtain ⟨gb, ob, rfl⟩ := Hs.out.head (by omega)
      obtain ⟨gc, oc, rfl⟩ := M1.out.sl.head (by omega)
      obtain rfl : oc = 0 := by
        rcases M1.out.shape with ⟨e, _⟩ | ⟨g', cap', e, _⟩
        · simp at e
        · simp at e; exact e.1.2
      have r0 := SB.out.at (i := 2 * K) (by omega)
      have r1 := SB.out.at (i := 2 * K + 1) (by omega)
      have r2 := SB.out.at (i := 2 * I) (by omega)
      have r3 := SB.out.at (i := 2 * I + 1) (by omega)
      have d0 := M1.out.at (j := 2 * K) (by omega)
      have d1 := M1.out.at (j := 2 * K + 1) (by omega)
      have d2 := M1.out.at (j := 2 * I) (by omega)
      have d3 := M1.out.at (j := 2 * I + 1) (by omega)
      have f0 := M1.out.free (2 * K)
      have f1 := M1.out.free (2 * K + 1)
      have f2 := M1.out.free (2 * I)
      have f3 := M1.out.free (2 * I + 1)
      have hK1 : (2 * (K : Int)) < (n : Int) := by omega
      have hK2 : (2 * (K : Int)) + 1 < (n : Int) := by omega
      have hI1 : (2 * (I : Int)) < (n : Int) := by omega
      have hI2 : (2 * (I : Int)) + 1 < (n : Int) := by omega
      have hgc := M1.out.block.1
      have TS := Lib.hid (total_swap zs I K (by have := HL.out; omega) (by have := HL.out; omega))
      have u0 := SB.out.u8 (2 * K)
      have u1 := SB.out.u8 (2 * K + 1)
      have u2 := SB.out.u8 (2 * I)
      have u3 := SB.out.u8 (2 * I + 1)
      generalize zs.getD (2 * K) 0 = z0 at r0 d0 TS u0
      generalize zs.getD (2 * K + 1) 0 = z1 at r1 d1 TS u1
      generalize zs.getD (2 * I) 0 = z2 at r2 d2 TS u2
      generalize zs.getD (2 * I + 1) 0 = z3 at r3 d3 TS u3
      have M4 := Lib.hid ((((M1.out.stored (2 * I) z0 (byte_wf u0.1 u0.2)).stored (2 * I + 1) z1 (byte_wf u1.1 u1.2)).stored (2 * K) z2 (byte_wf u2.1 u2.2)).stored (2 * K + 1) z3 (byte_wf u3.1 u3.2)).drew
      have B4 := Lib.hid ((((B3.out.setCell (p := ⟨gc, 2 * I, none⟩) hgc (.int .u8 z0)).setCell (p := ⟨gc, 2 * I + 1, none⟩) hgc (.int .u8 z1)).setCell (p := ⟨gc, 2 * K, none⟩) hgc (.int .u8 z2)).setCell (p := ⟨gc, 2 * K + 1, none⟩) hgc (.int .u8 z3)).drew
      have E4 : Hid (csV ((((zs.set (2 * I) z0).set (2 * I + 1) z1).set (2 * K) z2).set (2 * K + 1) z3) = csV zs) := by show _ = _; unfold csV addV; rw [TS.out]
      generalize (((zs.set (2 * I) z0).set (2 * I + 1) z1).set (2 * K) z2).set (2 * K + 1) z3 = cs at M4 E4
      have SS := Lib.hid (fun W h => Sum_any (some ⟨gb, ob, none⟩) n cap zs W h)
      have SC := Lib.hid (fun W h => Sum_any (some ⟨gc, 0, none⟩) n cp cs W h)
      rw [E4.out] at SC
      generalize csV zs = q at SS SC
      clear u0 u1 u2 u3 E4 TS
      by_cases hne : K = I
      · subst hne
        obtain rfl : z0 = z2 := by simpa using r0.symm.trans r2
        obtain rfl : z1 = z3 := by simpa using r1.symm.trans r3
        clear r2 r3 d2 d3 f2 f3 hI1 hI2
        go_region
        all_goals go_wp2_with (first
          | (go_at_call 11; refine (awake04_b _ B4.out).mono ?_; rintro e w6 ⟨rfl, hb, hl⟩; have B6 := Lib.hid hb; have M6 := Lib.hid (M4.out.keep hl); have S6 := Lib.hid (Hs.out.keep B6.out); clear hb hl)
          | (go_at_call 16; ((with_reducible refine (SS.out _ S6.out).mono ?_); rintro e w' ⟨rfl, rfl⟩))
          | (go_at_call 16; ((with_reducible refine (SC.out _ M6.out.sl).mono ?_); rintro e w' ⟨rfl, rfl⟩))
          | fail)
        all_goals go_ret
        all_goals exact ⟨rfl, B6.out⟩
      · go_region
        all_goals go_wp2_with (first
          | (go_at_call 11; refine (awake04_b _ B4.out).mono ?_; rintro e w6 ⟨rfl, hb, hl⟩; have B6 := Lib.hid hb; have M6 := Lib.hid (M4.out.keep hl); have S6 := Lib.hid (Hs.out.keep B6.out); clear hb hl)
          | (go_at_call 16; ((with_reducible refine (SS.out _ S6.out).mono ?_); rintro e w' ⟨rfl, rfl⟩))
          | (go_at_call 16; ((with_reducible refine (SC.out _ M6.out.sl).mono ?_); rintro e w' ⟨rfl, rfl⟩))
          | fail)
        all_goals go_ret
        all_goals exact ⟨rfl, B6.out⟩

theorem walk (w : World) (a : Option Addr) (n cap : Nat) (zs : List Int) (hs : Sl .u8 w a n zs) (hca : a = none → cap = 0) (ns : List Int) (hl : ns.length = 2) (hw : ∀ z ∈ ns, (Lit.int .i64 z).wf = true) :
    Calls Try.prog 5 #[.slice a n cap, .agg (ns.map (Value.int .i64)).toArray] w fun e w' => e = .returned (.bool true) ∧ Below w.heap.size w w' := by
  match ns, hl, hw with
  | [x0, x1], _, hw => exact walk2 w a n cap zs hs hca x0 x1 (wf_i64 (hw x0 (by simp))) (wf_i64 (hw x1 (by simp)))

theorem own : ownKnob Try.prog.godebug = none := by kernel_rfl
theorem laidOut : laidOutB Try.prog = true := by kernel_rfl
theorem read_bytes : Try.prog.readableRec 22 = true := by kernel_rfl
theorem read_arr2 : Try.prog.readableRec 35 = true := by kernel_rfl
theorem cells_b : Try.prog.cellsOf 5 = 1 := by kernel_rfl
theorem bytes_b : Try.prog.bytesOf 5 = 1 := by kernel_rfl
theorem cells_i : Try.prog.cellsOf 3 = 1 := by kernel_rfl
theorem bytes_i : Try.prog.bytesOf 3 = 8 := by kernel_rfl
theorem cells_a2 : Try.prog.cellsOf 35 = 2 := by kernel_rfl
theorem lt_bytes : 22 < Try.prog.types.size := of_decide_eq_true (by kernel_rfl)
theorem lt_arr2 : 35 < Try.prog.types.size := of_decide_eq_true (by kernel_rfl)

set_option maxRecDepth 100000 in
theorem lifted (os : Os) (started : os.Started) (H : Type) (enc : TypeId × Value → H) :
    ReturnsInHanded {} Try.checked os 5 .any (Rows.checksumOrderSpec.pre6 enc Try.prog Try.f5 Rows.checksumOrderRow.domain false) (Rows.checksumOrderSpec.post enc Try.prog Try.f5 false true false false) := by
  refine law_lifted (C := Try.checked) (rt := 4) [22, 35] own started (by kernel_rfl) Try.func5 laidOut (by rw [Try.params5])
    (fun t ht => by simp only [List.mem_cons, List.not_mem_nil, or_false] at ht; rcases ht with rfl | rfl <;> first | exact ⟨read_bytes, lt_bytes⟩ | exact ⟨read_arr2, lt_arr2⟩) rfl Try.underlying4 rfl
    (fun ds h => by match ds, h with | [d0, d1], _ => rfl)
    (ChangeSpec.witness6 (enc := enc) (C := Try.checked) false ⟨#[], #[.slice none 0 0, .agg #[.int .i64 0, .int .i64 0]], []⟩ 8 (by kernel_rfl) (by kernel_rfl) (by kernel_rfl) (by kernel_rfl)) ?_
  intro W base args ds p hval hA hsz
  obtain ⟨v0, vs0, d0, ds0, p0, q0, hargs, rfl, rfl, h0, r0⟩ := trodAll_cons hA
  obtain ⟨v1, vs1, d1, ds1, p1, q1, rfl, rfl, rfl, h1, r1⟩ := trodAll_cons r0
  obtain ⟨rfl, rfl, rfl⟩ := trodAll_nil r1
  obtain rfl : args = #[v0, v1] := by cases args; simp_all
  obtain ⟨a0, n0, c0, z0, rfl, s0, nn0⟩ := open_slr Try.underlying22 Try.underlying5 cells_b (by rw [bytes_b]; omega) (hval 0 _ v0 rfl rfl) h0 (fun el spa hd => sized_slice hsz (j := 0) rfl (by rw [hd]; rfl) Try.underlying22)
  obtain ⟨y1, rfl, l1, w1⟩ := open_arr Try.underlying35 Try.underlying3 cells_i cells_a2 (hval 1 _ v1 rfl rfl) h1
  exact walk W a0 n0 c0 z0 s0 nn0.1 y1 l1 w1

/-- THE STATEMENT -/
theorem proved : Rows.ChecksumOrderSaid :=
  OpenClaim.holds_of_wide 5 Try.f5 rfl rfl rfl rfl rfl rfl rfl ⟨rfl, rfl, rfl, rfl, rfl⟩ rfl rfl rfl rfl rfl (by kernel_rfl) Try.func5 (by kernel_rfl)
    (of_decide_eq_true (by kernel_rfl)) (by unfold Func.isWrapper; first | (rw [if_pos (by decide +kernel)]; kernel_rfl) | (rw [if_neg (by decide +kernel)]; exact ⟨rfl, rfl⟩))
    (fun os started H enc _ => lifted os started H enc)
#print axioms proved
end Go.Proofs.Ytlofehjopdhkaaa.checksumOrder
