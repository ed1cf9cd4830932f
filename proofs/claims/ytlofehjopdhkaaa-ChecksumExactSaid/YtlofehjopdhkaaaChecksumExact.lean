/-
  Proved: the Go function ChecksumExact, called with any bytes and three numbers, returns true and leaves its arguments as they were (all functions of layer 4 return what the document's own functions return, for the numbers as they are and for words).
  Conditions: none beyond those of the given row.
-/
import Derived.Test.YtlofehjopdhkaaaSumRef
import Derived.Test.YtlofehjopdhkaaaSumAwake
import Derived.Test.YtlofehjopdhkaaaMod
import Derived.Test.YtlofehjopdhkaaaLift
import Derived.Test.YtlofehjopdhkaaaRows
import Derived.Deep.QuietTactic
import Derived.BigQuiet
import Derived.Deep.RegionHeld3
import Derived.Deep.DrawnRows
import Derived.Deep.DeepCutAuto
namespace Go.Proofs.Ytlofehjopdhkaaa.checksumExact
open Go Go.RowKit Go.ChangeShapes Go.WideShapes Go.ChangeAt
attribute [local go_sem ↓] Go.wp_at_zero Go.wp_at_succ

/-- three numbers in a row of the call's own -/
structure Three (w : World) (B : Nat) (y0 y1 y2 : Int) : Prop where
  lt : B < w.heap.size
  c0 : w.cell? ⟨B, 0, none⟩ = some (.int .i64 y0)
  c1 : w.cell? ⟨B, 1, none⟩ = some (.int .i64 y1)
  c2 : w.cell? ⟨B, 2, none⟩ = some (.int .i64 y2)
theorem Three.keep {w w' : World} {B : Nat} {y0 y1 y2 : Int} (h : Three w B y0 y1 y2) (hb : Below w.heap.size w w') : Three w' B y0 y1 y2 :=
  ⟨Nat.lt_of_lt_of_le h.lt hb.size, (hb.cell h.lt).trans h.c0, (hb.cell h.lt).trans h.c1, (hb.cell h.lt).trans h.c2⟩
theorem three_made (w : World) (y0 y1 y2 : Int) (t : TypeId) (B : Nat) (hB : B = w.heap.size) : Three (w.alloc (.cells #[.int .i64 y0, .int .i64 y1, .int .i64 y2] t)) B y0 y1 y2 := by
  have h : ∀ i, (w.alloc (.cells #[.int .i64 y0, .int .i64 y1, .int .i64 y2] t)).cell? ⟨B, i, none⟩ = (#[Value.int .i64 y0, .int .i64 y1, .int .i64 y2])[i]? :=
    fun i => World.cell?_alloc_at (w := w) _ t B i hB
  exact ⟨by simp; omega, (h 0).trans rfl, (h 1).trans rfl, (h 2).trans rfl⟩

set_option maxRecDepth 100000 in
set_option maxHeartbeats 3200000 in
theorem walk3 (w : World) (a : Option Addr) (n cap : Nat) (zs : List Int) (hs : Sl .u8 w a n zs) (x0 x1 x2 : Int)
    (b0 : -9223372036854775808 ≤ x0 ∧ x0 ≤ 9223372036854775807) (b1 : -9223372036854775808 ≤ x1 ∧ x1 ≤ 9223372036854775807) (b2 : -9223372036854775808 ≤ x2 ∧ x2 ≤ 9223372036854775807) :
    Calls Try.prog 3 #[.slice a n cap, .agg #[.int .i64 x0, .int .i64 x1, .int .i64 x2]] w fun e w' => e = .returned (.bool true) ∧ Below w.heap.size w w' := by
  have Hs := Lib.hid hs
  have m0 := Int.emod_nonneg x0 (show (65536 : Int) ≠ 0 by omega)
  have m0' := Int.emod_lt_of_pos x0 (show (0 : Int) < 65536 by omega)
  have m1 := Int.emod_nonneg x1 (show (65536 : Int) ≠ 0 by omega)
  have m1' := Int.emod_lt_of_pos x1 (show (0 : Int) < 65536 by omega)
  have m2 := Int.emod_nonneg x2 (show (65536 : Int) ≠ 0 by omega)
  have m2' := Int.emod_lt_of_pos x2 (show (0 : Int) < 65536 by omega)
  have C0 := Lib.hid (fun W => mod_any x0 65536 W (by omega) (by omega) b0.1 b0.2)
  have C1 := Lib.hid (fun W => mod_any x1 65536 W (by omega) (by omega) b1.1 b1.2)
  have C2 := Lib.hid (fun W => mod_any x2 65536 W (by omega) (by omega) b2.1 b2.2)
  have U0 := Lib.hid (fun W => Update_any x0 x1 x2 W b0 b1 b2)
  have V0 := Lib.hid (fun W => rUpdate_any x0 x1 x2 W b0 b1 b2)
  have U1 := Lib.hid (fun W => Update_any (x0 % 65536) (x1 % 65536) (x2 % 65536) W (by omega) (by omega) (by omega))
  have V1 := Lib.hid (fun W => rUpdate_any (x0 % 65536) (x1 % 65536) (x2 % 65536) W (by omega) (by omega) (by omega))
  have F0 := Lib.hid (fun W => Fold_any x0 W b0)
  have G0 := Lib.hid (fun W => rFold_any x0 W b0)
  have A1 := Lib.hid (fun W h => Add_any x1 a n cap zs W h b1)
  have R1 := Lib.hid (fun W h => rAdd_any x1 a n cap zs W h b1)
  have S1 := Lib.hid (fun W h => Sum_any a n cap zs W h)
  have T1 := Lib.hid (fun W h => rSum_any a n cap zs W h)
  generalize x0 % 65536 = y0 at m0 m0' C0 U1 V1
  generalize x1 % 65536 = y1 at m1 m1' C1 U1 V1
  generalize x2 % 65536 = y2 at m2 m2' C2 U1 V1
  generalize updV x0 x1 x2 = p0 at U0 V0
  generalize updE x0 x1 x2 = p1 at U0 V0
  generalize updV y0 y1 y2 = p2 at U1 V1
  generalize updE y0 y1 y2 = p3 at U1 V1
  generalize foldI x0 = p4 at F0 G0
  generalize addV x1 zs = p5 at A1 R1
  generalize csV zs = p6 at S1 T1
  have HA := Lib.hid (Below.alloc (Below.refl w.heap.size w) (Nat.le_refl _) (.cells #[.int .i64 x0, .int .i64 x1, .int .i64 x2] 23))
  have T0 := Lib.hid (three_made w x0 x1 x2 23 w.heap.size rfl)
  clear hs b0 b1 b2
  go_enter Try.func3, Try.ntmps3
  go_upto_region 3 with (first
    | (go_at_call 8; refine (U0.out _).mono ?_; rintro e w' ⟨rfl, rfl⟩)
    | (go_at_call 9; refine (V0.out _).mono ?_; rintro e w' ⟨rfl, rfl⟩)
    | fail)
  go_cut [9] (fun s9 wx => s9 = .pointer (some ⟨w.heap.size + 1, 0, none⟩) ∧ Three wx w.heap.size x0 x1 x2 ∧ Three wx (w.heap.size + 1) y0 y1 y2 ∧ Below w.heap.size w wx)
  case first =>
    go_region_held3 (fun w' => w'.cell? ⟨w.heap.size, 0, none⟩ = some (.int .i64 x0) ∧ w'.cell? ⟨w.heap.size, 1, none⟩ = some (.int .i64 x1) ∧ w'.cell? ⟨w.heap.size, 2, none⟩ = some (.int .i64 x2)) (go_keep)
      (first | ((with_reducible refine (C0.out _).mono ?_); rintro e w' ⟨rfl, rfl⟩) | ((with_reducible refine (C1.out _).mono ?_); rintro e w' ⟨rfl, rfl⟩) | ((with_reducible refine (C2.out _).mono ?_); rintro e w' ⟨rfl, rfl⟩))
    all_goals (go_wp2_with fail; go_meet)
    all_goals exact ⟨rfl, T0.out.keep (((Below.refl _ _).alloc (Nat.le_refl _) _).drew), (three_made _ y0 y1 y2 _ _ (by simp)).keep ((Below.refl _ _).drew), (HA.out.alloc (by simp) _).drew⟩
  case rest =>
    obtain ⟨rfl, h1, h2, hb⟩ := hcut
    have H1 := Lib.hid h1
    have hsz := hb.size
    obtain ⟨hlt, c0, c1, c2⟩ := h2
    have c0' := h1.c0
    have c1' := h1.c1
    have HB := Lib.hid hb
    have SX := Lib.hid (Hs.out.keep hb)
    clear C0 C1 C2 hb h1 T0 HA
    go_upto_region 6 with (first
      | (go_at_call 8; refine (U1.out _).mono ?_; rintro e w' ⟨rfl, rfl⟩)
      | (go_at_call 9; refine (V1.out _).mono ?_; rintro e w' ⟨rfl, rfl⟩)
      | fail)
    go_region_held3 (fun w' => w'.cell? ⟨w.heap.size, 0, none⟩ = some (.int .i64 x0) ∧ w'.cell? ⟨w.heap.size, 1, none⟩ = some (.int .i64 x1)) (first | go_keep | exact ⟨hk.1, hk.2⟩)
      (first
        | (go_at_call 11; refine (awake04_b _ HB.out.drew).mono ?_; rintro e w6 ⟨rfl, hb, hl⟩; have B6 := Lib.hid hb; have S6 := Lib.hid (SX.out.drew.keep hl); have hk : w6.cell? ⟨w.heap.size, 0, none⟩ = some (.int .i64 x0) ∧ w6.cell? ⟨w.heap.size, 1, none⟩ = some (.int .i64 x1) := ⟨((H1.out.keep (Below.refl _ _).drew).keep hl).c0, ((H1.out.keep (Below.refl _ _).drew).keep hl).c1⟩; clear hb hl)
        | (go_at_call 12; refine (F0.out _).mono ?_; rintro e w' ⟨rfl, rfl⟩)
        | (go_at_call 13; refine (G0.out _).mono ?_; rintro e w' ⟨rfl, rfl⟩)
        | (go_at_call 14; refine (A1.out _ S6.out).mono ?_; rintro e w' ⟨rfl, rfl⟩)
        | (go_at_call 15; refine (R1.out _ S6.out).mono ?_; rintro e w' ⟨rfl, rfl⟩)
        | (go_at_call 16; refine (S1.out _ S6.out).mono ?_; rintro e w' ⟨rfl, rfl⟩)
        | (go_at_call 17; refine (T1.out _ S6.out).mono ?_; rintro e w' ⟨rfl, rfl⟩))
    go_wp2
    go_ret
    exact ⟨rfl, B6.out⟩

theorem walk (w : World) (a : Option Addr) (n cap : Nat) (zs : List Int) (hs : Sl .u8 w a n zs) (ns : List Int) (hl : ns.length = 3) (hw : ∀ z ∈ ns, (Lit.int .i64 z).wf = true) :
    Calls Try.prog 3 #[.slice a n cap, .agg (ns.map (Value.int .i64)).toArray] w fun e w' => e = .returned (.bool true) ∧ Below w.heap.size w w' := by
  match ns, hl, hw with
  | [x0, x1, x2], _, hw => exact walk3 w a n cap zs hs x0 x1 x2 (wf_i64 (hw x0 (by simp))) (wf_i64 (hw x1 (by simp))) (wf_i64 (hw x2 (by simp)))

theorem own : ownKnob Try.prog.godebug = none := by kernel_rfl
theorem laidOut : laidOutB Try.prog = true := by kernel_rfl
theorem read_bytes : Try.prog.readableRec 22 = true := by kernel_rfl
theorem read_arr3 : Try.prog.readableRec 23 = true := by kernel_rfl
theorem cells_b : Try.prog.cellsOf 5 = 1 := by kernel_rfl
theorem bytes_b : Try.prog.bytesOf 5 = 1 := by kernel_rfl
theorem cells_i : Try.prog.cellsOf 3 = 1 := by kernel_rfl
theorem bytes_i : Try.prog.bytesOf 3 = 8 := by kernel_rfl
theorem cells_a : Try.prog.cellsOf 23 = 3 := by kernel_rfl
theorem lt_bytes : 22 < Try.prog.types.size := of_decide_eq_true (by kernel_rfl)
theorem lt_arr3 : 23 < Try.prog.types.size := of_decide_eq_true (by kernel_rfl)

set_option maxRecDepth 100000 in
theorem lifted (os : Os) (started : os.Started) (H : Type) (enc : TypeId × Value → H) :
    ReturnsInHanded {} Try.checked os 3 .any (Rows.checksumExactSpec.pre6 enc Try.prog Try.f3 Rows.checksumExactRow.domain false) (Rows.checksumExactSpec.post enc Try.prog Try.f3 false true false false) := by
  refine law_lifted (C := Try.checked) (rt := 4) [22, 23] own started (by kernel_rfl) Try.func3 laidOut (by rw [Try.params3])
    (fun t ht => by simp only [List.mem_cons, List.not_mem_nil, or_false] at ht; rcases ht with rfl | rfl <;> first | exact ⟨read_bytes, lt_bytes⟩ | exact ⟨read_arr3, lt_arr3⟩) rfl Try.underlying4 rfl
    (fun ds h => by match ds, h with | [d0, d1], _ => rfl)
    (ChangeSpec.witness6 (enc := enc) (C := Try.checked) false ⟨#[], #[.slice none 0 0, .agg #[.int .i64 0, .int .i64 0, .int .i64 0]], []⟩ 8 (by kernel_rfl) (by kernel_rfl) (by kernel_rfl) (by kernel_rfl)) ?_
  intro W base args ds p hval hA hsz
  obtain ⟨v0, vs0, d0, ds0, p0, q0, hargs, rfl, rfl, h0, r0⟩ := trodAll_cons hA
  obtain ⟨v1, vs1, d1, ds1, p1, q1, rfl, rfl, rfl, h1, r1⟩ := trodAll_cons r0
  obtain ⟨rfl, rfl, rfl⟩ := trodAll_nil r1
  obtain rfl : args = #[v0, v1] := by cases args; simp_all
  obtain ⟨a0, n0, c0, z0, rfl, s0, nn0⟩ := open_slr Try.underlying22 Try.underlying5 cells_b (by rw [bytes_b]; omega) (hval 0 _ v0 rfl rfl) h0 (fun el spa hd => sized_slice hsz (j := 0) rfl (by rw [hd]; rfl) Try.underlying22)
  obtain ⟨y1, rfl, l1, w1⟩ := open_arr Try.underlying23 Try.underlying3 cells_i cells_a (hval 1 _ v1 rfl rfl) h1
  exact walk W a0 n0 c0 z0 s0 y1 l1 w1

/-- THE STATEMENT -/
theorem proved : Rows.ChecksumExactSaid :=
  OpenClaim.holds_of_wide 3 Try.f3 rfl rfl rfl rfl rfl rfl rfl ⟨rfl, rfl, rfl, rfl, rfl⟩ rfl rfl rfl rfl rfl (by kernel_rfl) Try.func3 (by kernel_rfl)
    (of_decide_eq_true (by kernel_rfl)) (by unfold Func.isWrapper; first | (rw [if_pos (by decide +kernel)]; kernel_rfl) | (rw [if_neg (by decide +kernel)]; exact ⟨rfl, rfl⟩))
    (fun os started H enc _ => lifted os started H enc)
#print axioms proved
end Go.Proofs.Ytlofehjopdhkaaa.checksumExact
