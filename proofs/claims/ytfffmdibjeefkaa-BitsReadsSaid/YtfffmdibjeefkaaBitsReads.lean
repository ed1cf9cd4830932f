/-
  Proved: the Go function BitsReads, called with any bytes and any numbers, returns true and leaves its arguments as they were (Read and Write return what the document's own Read and Write return).
  Conditions: none beyond those of the given row.
-/
import Derived.Test.YtfffmdibjeefkaaBitsSplits
import Derived.Test.YtfffmdibjeefkaaBitsRef
import Derived.Test.YtfffmdibjeefkaaBitsRefWrite
import Derived.Deep.QuietTactic
import Derived.BigQuiet
import Derived.Deep.RegionHeld3
import Derived.Deep.DrawnRows
import Derived.Deep.DeepCutAuto
namespace Go.Proofs.Ytfffmdibjeefkaa.bitsReads
open Go Go.RowKit Go.ChangeShapes Go.WideShapes Go.ChangeAt
open Go.Proofs.Ytfffmdibjeefkaa.bitsSplits (own laidOut cells5 cells3 cells23 bytes5 big)
attribute [local go_sem ↓] Go.wp_at_zero Go.wp_at_succ

theorem mod_is (x m : Int) (A : Nat) (W : World) (h : (A : Int) = x % m) (hm : 1 ≤ m) (hm2 : m ≤ 9223372036854775807) (h1 : -9223372036854775808 ≤ x) (h2 : x ≤ 9223372036854775807) :
    Calls Try.prog 8 #[.int .i64 x, .int .i64 m] W fun e w' => e = .returned (.int .i64 A) ∧ W = w' := by
  rw [h]; exact mod_any x m W hm hm2 h1 h2
theorem nat_mod (x m : Int) (hm : 1 ≤ m) : ∃ A : Nat, (A : Int) = x % m ∧ (A : Int) < m := by
  have := Int.emod_nonneg x (show m ≠ 0 by omega)
  have := Int.emod_lt_of_pos x (show (0 : Int) < m by omega)
  exact ⟨(x % m).toNat, by omega, by omega⟩

/-- the six numbers of the law's list -/
structure Six (w : World) (B : Nat) (y0 y1 y2 z0 z1 z2 : Int) : Prop where
  lt : B < w.heap.size
  c0 : w.cell? ⟨B, 0, none⟩ = some (.int .i64 y0)
  c1 : w.cell? ⟨B, 1, none⟩ = some (.int .i64 y1)
  c2 : w.cell? ⟨B, 2, none⟩ = some (.int .i64 y2)
  c3 : w.cell? ⟨B, 3, none⟩ = some (.int .i64 z0)
  c4 : w.cell? ⟨B, 4, none⟩ = some (.int .i64 z1)
  c5 : w.cell? ⟨B, 5, none⟩ = some (.int .i64 z2)
theorem Six.keep {w w' : World} {B : Nat} {y0 y1 y2 z0 z1 z2 : Int} (h : Six w B y0 y1 y2 z0 z1 z2) (hb : Below w.heap.size w w') : Six w' B y0 y1 y2 z0 z1 z2 :=
  ⟨Nat.lt_of_lt_of_le h.lt hb.size, (hb.cell h.lt).trans h.c0, (hb.cell h.lt).trans h.c1, (hb.cell h.lt).trans h.c2, (hb.cell h.lt).trans h.c3, (hb.cell h.lt).trans h.c4, (hb.cell h.lt).trans h.c5⟩

theorem six_made (w : World) (x0 x1 x2 a0 a1 a2 : Int) : Six ((w.alloc (.cells #[.int .i64 x0, .int .i64 x1, .int .i64 x2] 23)).alloc (.cells #[.int .i64 x0, .int .i64 x1, .int .i64 x2, .int .i64 a0, .int .i64 a1, .int .i64 a2] 26)).drew (w.heap.size + 1) x0 x1 x2 a0 a1 a2 := by
  have h : ∀ i, (((w.alloc (.cells #[.int .i64 x0, .int .i64 x1, .int .i64 x2] 23)).alloc (.cells #[.int .i64 x0, .int .i64 x1, .int .i64 x2, .int .i64 a0, .int .i64 a1, .int .i64 a2] 26)).drew).cell? ⟨w.heap.size + 1, i, none⟩ = (#[Value.int .i64 x0, .int .i64 x1, .int .i64 x2, .int .i64 a0, .int .i64 a1, .int .i64 a2] : Array Value)[i]? :=
    fun i => World.cell?_alloc_at (w := w.alloc (.cells #[.int .i64 x0, .int .i64 x1, .int .i64 x2] 23)) _ 26 (w.heap.size + 1) i (by simp)
  exact ⟨by simp, (h 0).trans rfl, (h 1).trans rfl, (h 2).trans rfl, (h 3).trans rfl, (h 4).trans rfl, (h 5).trans rfl⟩

set_option maxHeartbeats 6400000 in
set_option maxRecDepth 100000 in
theorem walk (a : Option Addr) (n cap : Nat) (zs : List Int) (x0 x1 x2 nr : Int) (w : World) (hs : Sl .u8 w a n zs) (hca : a = none → cap = 0)
    (b0 : -9223372036854775808 ≤ x0 ∧ x0 ≤ 9223372036854775807) (b1 : -9223372036854775808 ≤ x1 ∧ x1 ≤ 9223372036854775807) (b2 : -9223372036854775808 ≤ x2 ∧ x2 ≤ 9223372036854775807) (b3 : -9223372036854775808 ≤ nr ∧ nr ≤ 9223372036854775807) :
    Calls Try.prog 3 #[.slice a n cap, .agg #[.int .i64 x0, .int .i64 x1, .int .i64 x2], .int .i64 nr] w fun e w' => e = .returned (.bool true) ∧ Below w.heap.size w w' := by
  have hr := hs.reach
  have Hs := Lib.hid hs
  clear hs
  obtain ⟨A0, hA0, hA0'⟩ := nat_mod x0 (8 * (n : Int) + 2) (by omega)
  obtain ⟨A1, hA1, hA1'⟩ := nat_mod x1 34 (by omega)
  obtain ⟨N, hN, hN'⟩ := nat_mod nr 33 (by omega)
  have hN32 : N ≤ 32 := by omega
  have hpw := pow32 N hN32
  have hpw1 : 1 ≤ 2 ^ N := Nat.one_le_two_pow
  obtain ⟨A2, hA2, hA2'⟩ := nat_mod x2 ((2 ^ N : Nat) : Int) (by omega)
  have C0 := Lib.hid (fun W => mod_is x0 (8 * (n : Int) + 2) A0 W hA0 (by omega) (by omega) b0.1 b0.2)
  have C1 := Lib.hid (fun W => mod_is x1 34 A1 W hA1 (by omega) (by omega) b1.1 b1.2)
  have C2 := Lib.hid (fun W => mod_is nr 33 N W hN (by omega) (by omega) b3.1 b3.2)
  have C3 : Hid (∀ W, Calls Try.prog 8 #[.int .i64 x2, .int .i64 (IntKind.i64.wrap (2 ^ N))] W fun e w' => e = .returned (.int .i64 A2) ∧ W = w') := fun W => by
    have e0 : ((2 : Int) ^ N) = ((2 ^ N : Nat) : Int) := by simp
    rw [IntWalk.i64_left, wrap_pow N hN32, e0]
    exact mod_is x2 _ A2 W hA2 (by omega) (by omega) b2.1 b2.2
  have hA0b : A0 ≤ 8 * n + 1 := by omega
  have hA1b : A1 ≤ 33 := by omega
  have hA2b : A2 ≤ 4294967296 := by omega
  clear hA0 hA0' hA1 hA1' hN hN' hpw hpw1 hA2 hA2'
  have w1 : IntKind.i64.wrap (8 * (n : Int)) = 8 * (n : Int) := IntWalk.i64_in _ ⟨by omega, by omega⟩
  have w2 : IntKind.i64.wrap (8 * (n : Int) + 2) = 8 * (n : Int) + 2 := IntWalk.i64_in _ ⟨by omega, by omega⟩
  have w3 : IntKind.u64.wrap (N : Int) = (N : Int) := IntWalk.u64_in _ ⟨by omega, by omega⟩
  go_enter Try.func3, Try.ntmps3
  go_upto_region 1 with (fail)
  go_cut [7] (fun s7 wx => s7 = .pointer (some ⟨w.heap.size + 1, 0, none⟩) ∧ Six wx (w.heap.size + 1) x0 x1 x2 A0 A1 A2 ∧ Below w.heap.size w wx)
  case first =>
    go_region_held3 (fun w' => w'.cell? ⟨w.heap.size, 0, none⟩ = some (.int .i64 x0) ∧ w'.cell? ⟨w.heap.size, 1, none⟩ = some (.int .i64 x1) ∧ w'.cell? ⟨w.heap.size, 2, none⟩ = some (.int .i64 x2)) (go_keep)
      (first | ((with_reducible refine (C0.out _).mono ?_); rintro e w' ⟨rfl, rfl⟩) | ((with_reducible refine (C1.out _).mono ?_); rintro e w' ⟨rfl, rfl⟩) | ((with_reducible refine (C2.out _).mono ?_); rintro e w' ⟨rfl, rfl⟩) | ((with_reducible refine (C3.out _).mono ?_); rintro e w' ⟨rfl, rfl⟩))
    all_goals (go_wp2_with fail; go_meet)
    all_goals exact ⟨rfl, six_made w x0 x1 x2 A0 A1 A2, (((Below.refl _ _).alloc (Nat.le_refl _) _).alloc (by simp) _).drew⟩
  case rest =>
    obtain ⟨rfl, h6, hbx⟩ := hcut
    have H6 := Lib.hid h6
    have Hbx := Lib.hid hbx
    clear C0 C1 C2 C3 w1 w2 w3 h6 hbx hN32
    go_wp2
    go_loopw [8] (fun k wr => ∃ j : Nat, j ≤ 2 ∧ k = .int .i64 j ∧ Six wr (w.heap.size + 1) x0 x1 x2 A0 A1 A2 ∧ Below w.heap.size w wr) (fun k _ => 2 - (intOf k).toNat)
    case atStart => exact ⟨0, by omega, by simp, H6.out, Hbx.out⟩
    case round =>
      obtain ⟨j, hj, rfl, h6, hb⟩ := hrel
      have Hb := Lib.hid hb
      obtain ⟨hlt, c0, c1, c2, c3, c4, c5⟩ := h6
      have H6r := Lib.hid (Six.mk hlt c0 c1 c2 c3 c4 c5)
      have hBs : w.heap.size ≤ wr.heap.size := hb.size
      clear hb H6 Hbx
      rcases (show j = 0 ∨ j = 1 ∨ j = 2 by omega) with rfl | rfl | rfl
      · have S0 := Lib.hid (Hs.out.keep Hb.out)
        go_wp2_with fail
        go_region_held3 (fun w' => w'.cell? ⟨w.heap.size + 1, 0, none⟩ = some (.int .i64 x0) ∧ w'.cell? ⟨w.heap.size + 1, 1, none⟩ = some (.int .i64 x1) ∧ w'.cell? ⟨w.heap.size + 1, 2, none⟩ = some (.int .i64 x2)) (go_keep)
          (first | (go_at_call 9; refine (Read_any _ _ _ _ _ zs _ S0.out.drew (by omega)).mono ?_; rintro e w' ⟨rfl, rfl⟩))
        go_wp2_with fail
        go_region_held3 (fun w' => w'.cell? ⟨w.heap.size + 1, 0, none⟩ = some (.int .i64 x0) ∧ w'.cell? ⟨w.heap.size + 1, 1, none⟩ = some (.int .i64 x1) ∧ w'.cell? ⟨w.heap.size + 1, 2, none⟩ = some (.int .i64 x2)) (go_keep)
          (first | (go_at_call 10; refine (refRead_any _ _ _ _ _ zs _ S0.out.drew.drew (by omega)).mono ?_; rintro e w' ⟨rfl, rfl⟩))
        go_wp2_with fail
        go_region_held3 (fun w' => w'.cell? ⟨w.heap.size + 1, 0, none⟩ = some (.int .i64 x0) ∧ w'.cell? ⟨w.heap.size + 1, 1, none⟩ = some (.int .i64 x1) ∧ w'.cell? ⟨w.heap.size + 1, 2, none⟩ = some (.int .i64 x2)) (first | go_keep | exact ⟨(hb1.cell hlt).trans c0, (hb1.cell hlt).trans c1, (hb1.cell hlt).trans c2⟩)
          (first | (go_at_call 11; refine (Write_any wr.heap.size _ _ _ _ _ _ zs _ S0.out.drew.drew.drew hca (Nat.le_refl _) (by omega)).mono ?_; rintro e w1 ⟨a1, n1, p1, rfl, hc1, hm1, hb1⟩))
        replace hb1 : Below wr.heap.size wr w1 := ((Below.refl _ _).drew.drew.drew).trans hb1
        have S1 := Lib.hid (S0.out.keep hb1)
        have M1 := Lib.hid hm1.sl
        have G6 := Lib.hid (H6r.out.keep hb1)
        have B1 := Lib.hid (Hb.out.trans (hb1.mono hBs))
        have hlt1 := Nat.lt_of_lt_of_le hlt hb1.size
        have d0 := (hb1.cell hlt).trans c0
        have d1 := (hb1.cell hlt).trans c1
        have d2 := (hb1.cell hlt).trans c2
        clear hb1 hm1 c0 c1 c2
        go_wp2_with fail
        go_region_held3 (fun w' => w'.cell? ⟨w.heap.size + 1, 0, none⟩ = some (.int .i64 x0) ∧ w'.cell? ⟨w.heap.size + 1, 1, none⟩ = some (.int .i64 x1) ∧ w'.cell? ⟨w.heap.size + 1, 2, none⟩ = some (.int .i64 x2)) (first | go_keep | exact ⟨(hb2.cell hlt1).trans d0, (hb2.cell hlt1).trans d1, (hb2.cell hlt1).trans d2⟩)
          (first | (go_at_call 12; refine (refWrite_any w1.heap.size _ _ _ _ _ _ zs _ S1.out.drew hca (Nat.le_refl _) (by omega) (by omega)).mono ?_; rintro e w2 ⟨a2, n2, p2, rfl, hc2, hm2, hb2⟩))
        replace hb2 : Below w1.heap.size w1 w2 := ((Below.refl _ _).drew).trans hb2
        have M2 := Lib.hid hm2.sl
        have M1b := Lib.hid (M1.out.keep hb2)
        have G6b := Lib.hid (G6.out.keep hb2)
        have B2 := Lib.hid (B1.out.trans (hb2.mono B1.out.size))
        clear hb2 hm2 d0 d1 d2
        generalize readE zs x0 x1 = e1
        generalize readV zs x0 x1 = e2
        generalize writeE zs.length x0 x1 x2 = e3
        go_wp2_with fail
        refine (same_any _ _ _ _ _ _ _ _ _ M1b.out M2.out).mono ?_
        rintro e w3 ⟨rfl, rfl⟩
        rw [show decide (writeV zs x0 x1 x2 = writeV zs x0 x1 x2) = true from decide_eq_true rfl]
        go_wp2
        go_roundw
        case rel => exact ⟨1, by omega, by go_num, G6b.out, B2.out⟩
        case measure => simp [intOf]
      · have S0 := Lib.hid (Hs.out.keep Hb.out)
        go_wp2_with fail
        go_region_held3 (fun w' => w'.cell? ⟨w.heap.size + 1, 3, none⟩ = some (.int .i64 A0) ∧ w'.cell? ⟨w.heap.size + 1, 4, none⟩ = some (.int .i64 A1) ∧ w'.cell? ⟨w.heap.size + 1, 5, none⟩ = some (.int .i64 A2)) (go_keep)
          (first | (go_at_call 9; refine (Read_any _ _ _ _ _ zs _ S0.out.drew (by omega)).mono ?_; rintro e w' ⟨rfl, rfl⟩))
        go_wp2_with fail
        go_region_held3 (fun w' => w'.cell? ⟨w.heap.size + 1, 3, none⟩ = some (.int .i64 A0) ∧ w'.cell? ⟨w.heap.size + 1, 4, none⟩ = some (.int .i64 A1) ∧ w'.cell? ⟨w.heap.size + 1, 5, none⟩ = some (.int .i64 A2)) (go_keep)
          (first | (go_at_call 10; refine (refRead_any _ _ _ _ _ zs _ S0.out.drew.drew (by omega)).mono ?_; rintro e w' ⟨rfl, rfl⟩))
        go_wp2_with fail
        go_region_held3 (fun w' => w'.cell? ⟨w.heap.size + 1, 3, none⟩ = some (.int .i64 A0) ∧ w'.cell? ⟨w.heap.size + 1, 4, none⟩ = some (.int .i64 A1) ∧ w'.cell? ⟨w.heap.size + 1, 5, none⟩ = some (.int .i64 A2)) (first | go_keep | exact ⟨(hb1.cell hlt).trans c3, (hb1.cell hlt).trans c4, (hb1.cell hlt).trans c5⟩)
          (first | (go_at_call 11; refine (Write_any wr.heap.size _ _ _ _ _ _ zs _ S0.out.drew.drew.drew hca (Nat.le_refl _) (by omega)).mono ?_; rintro e w1 ⟨a1, n1, p1, rfl, hc1, hm1, hb1⟩))
        replace hb1 : Below wr.heap.size wr w1 := ((Below.refl _ _).drew.drew.drew).trans hb1
        have S1 := Lib.hid (S0.out.keep hb1)
        have M1 := Lib.hid hm1.sl
        have G6 := Lib.hid (H6r.out.keep hb1)
        have B1 := Lib.hid (Hb.out.trans (hb1.mono hBs))
        have hlt1 := Nat.lt_of_lt_of_le hlt hb1.size
        have d0 := (hb1.cell hlt).trans c3
        have d1 := (hb1.cell hlt).trans c4
        have d2 := (hb1.cell hlt).trans c5
        clear hb1 hm1 c3 c4 c5
        go_wp2_with fail
        go_region_held3 (fun w' => w'.cell? ⟨w.heap.size + 1, 3, none⟩ = some (.int .i64 A0) ∧ w'.cell? ⟨w.heap.size + 1, 4, none⟩ = some (.int .i64 A1) ∧ w'.cell? ⟨w.heap.size + 1, 5, none⟩ = some (.int .i64 A2)) (first | go_keep | exact ⟨(hb2.cell hlt1).trans d0, (hb2.cell hlt1).trans d1, (hb2.cell hlt1).trans d2⟩)
          (first | (go_at_call 12; refine (refWrite_any w1.heap.size _ _ _ _ _ _ zs _ S1.out.drew hca (Nat.le_refl _) (by omega) (by omega)).mono ?_; rintro e w2 ⟨a2, n2, p2, rfl, hc2, hm2, hb2⟩))
        replace hb2 : Below w1.heap.size w1 w2 := ((Below.refl _ _).drew).trans hb2
        have M2 := Lib.hid hm2.sl
        have M1b := Lib.hid (M1.out.keep hb2)
        have G6b := Lib.hid (G6.out.keep hb2)
        have B2 := Lib.hid (B1.out.trans (hb2.mono B1.out.size))
        clear hb2 hm2 d0 d1 d2
        generalize readE zs A0 A1 = e1
        generalize readV zs A0 A1 = e2
        generalize writeE zs.length A0 A1 A2 = e3
        go_wp2_with fail
        refine (same_any _ _ _ _ _ _ _ _ _ M1b.out M2.out).mono ?_
        rintro e w3 ⟨rfl, rfl⟩
        rw [show decide (writeV zs A0 A1 A2 = writeV zs A0 A1 A2) = true from decide_eq_true rfl]
        go_wp2
        go_roundw
        case rel => exact ⟨2, by omega, by go_num, G6b.out, B2.out⟩
        case measure => simp [intOf]
      · go_wp2_with fail
        refine (awake01_any _).mono ?_
        rintro e w1 ⟨rfl, hb1⟩
        have B1 := Lib.hid (Hb.out.trans (hb1.mono hBs))
        clear hb1
        go_wp2
        go_ret
        exact ⟨rfl, B1.out⟩

theorem lifted (os : Os) (started : os.Started) (H : Type) (enc : TypeId × Value → H) :
    ReturnsInHanded {} Try.checked os 3 .any (Rows.bitsReadsSpec.pre6 enc Try.prog Try.f3 Rows.bitsReadsRow.domain false) (Rows.bitsReadsSpec.post enc Try.prog Try.f3 false true false false) := by
  refine law_lifted (C := Try.checked) (rt := 4) [22, 23, 3] own started (by kernel_rfl) Try.func3 laidOut (by rw [Try.params3])
    (fun t ht => by simp at ht; rcases ht with rfl | rfl | rfl <;> exact ⟨by kernel_rfl, Nat.lt_trans (by omega) big⟩) rfl Try.underlying4 rfl
    (fun ds h => by match ds, h with | [d1, d2, d3], _ => rfl)
    (ChangeSpec.witness6 (enc := enc) (C := Try.checked) false ⟨#[], #[.slice none 0 0, .agg #[.int .i64 0, .int .i64 0, .int .i64 0], .int .i64 0], []⟩ 8 (by kernel_rfl) (by kernel_rfl) (by kernel_rfl) (by kernel_rfl)) ?_
  intro W base args ds p hval hA hsz
  obtain ⟨v0, vs0, d0, ds0, p0, q0, hargs, rfl, rfl, h0, r0⟩ := trodAll_cons hA
  obtain ⟨v1, vs1, d1, ds1, p1, q1, rfl, rfl, rfl, h1, r1⟩ := trodAll_cons r0
  obtain ⟨v2, vs2, d2, ds2, p2, q2, rfl, rfl, rfl, h2, r2⟩ := trodAll_cons r1
  obtain ⟨rfl, rfl, rfl⟩ := trodAll_nil r2
  obtain rfl : args = #[v0, v1, v2] := by cases args; simp_all
  obtain ⟨a, n, cap, zs, rfl, hs, hc⟩ := open_sl Try.underlying22 Try.underlying5 cells5 (by rw [bytes5]; omega) (hval 0 22 v0 rfl rfl) h0 (fun el spa hd => sized_slice hsz (j := 0) rfl (by rw [hd]; rfl) Try.underlying22)
  obtain ⟨ns, rfl, hl, hw⟩ := open_arr Try.underlying23 Try.underlying3 cells3 cells23 (hval 1 23 v1 rfl rfl) h1
  obtain ⟨pr, rfl, hpr⟩ := open_i64 Try.underlying3 (hval 2 3 v2 rfl rfl) h2
  match ns, hl, hw with
  | [x0, x1, x2], _, hw => exact walk a n cap zs x0 x1 x2 pr W hs hc (wf_i64 (hw x0 (by simp))) (wf_i64 (hw x1 (by simp))) (wf_i64 (hw x2 (by simp))) hpr

/-- THE STATEMENT -/
theorem proved : Rows.BitsReadsSaid :=
  OpenClaim.holds_of_wide 3 Try.f3 rfl rfl rfl rfl rfl rfl rfl ⟨rfl, rfl, rfl, rfl, rfl⟩ rfl rfl rfl rfl rfl (by kernel_rfl) Try.func3 (by kernel_rfl)
    (of_decide_eq_true (by kernel_rfl)) (by unfold Func.isWrapper; first | (rw [if_pos (by decide +kernel)]; kernel_rfl) | (rw [if_neg (by decide +kernel)]; exact ⟨rfl, rfl⟩))
    (fun os started H enc _ => lifted os started H enc)
#print axioms proved
end Go.Proofs.Ytfffmdibjeefkaa.bitsReads
