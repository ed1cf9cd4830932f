/-
  Proved: the Go function ChecksumZero, called with any bytes, returns true and leaves its argument as it was (bytes of even length followed by their checksum have the checksum 0).
  Conditions: none beyond those of the given row.
-/
import Derived.Test.YtlofehjopdhkaaaSumAwake
import Derived.Test.YtlofehjopdhkaaaPut
import Derived.Test.YtlofehjopdhkaaaLift
import Derived.Test.YtlofehjopdhkaaaRows
import Derived.Deep.QuietTactic
import Derived.BigQuiet
import Derived.Deep.RegionHeld3
import Derived.Deep.DrawnRows
import Derived.Deep.DeepCutAuto
namespace Go.Proofs.Ytlofehjopdhkaaa.checksumZero
open Go Go.RowKit Go.ChangeShapes Go.WideShapes Go.ChangeAt
attribute [local go_sem ↓] Go.wp_at_zero Go.wp_at_succ

theorem put_two (s : Int) : putB 2 s 2 = [s / 256 % 256, s % 256] := by
  rw [putB_succ, putB_succ]
  simp [putB]

set_option maxRecDepth 100000 in
set_option maxHeartbeats 3200000 in
theorem walk (w : World) (a : Option Addr) (n cap : Nat) (zs : List Int) (hs : Sl .u8 w a n zs) (hca : a = none → cap = 0) (hnc : n ≤ cap) (hcr : cap ≤ 140737488351232) :
    Calls Try.prog 4 #[.slice a n cap] w fun e w' => e = .returned (.bool true) ∧ Below w.heap.size w w' := by
  have Hs := Lib.hid hs
  clear hs
  by_cases ho : n % 2 = 1
  · have W0 : Hid ((Lit.int .u8 0).wf = true) := Lib.hid (by decide)
    have ho1 : (n : Int) % 2 = 1 := by omega
    have ho2 : ((n : Int) % 2 == 1) = true := by simpa using ho1
    go_enter Try.func4, Try.ntmps4
    go_wp2_with (first
      | (at_builtin; refine wpList_append_at rfl (.const (.slice none 0 0)) (.tmp 8) 22 rfl .u8 5 w.heap.size 1 Try.underlying22 info_u8 (.slice none 0 0) 0 [] rfl (Mk.nil .u8 5 _ _) a n cap zs rfl Hs.out hca (by omega) (by omega) (Nat.le_refl _) ?_; intro ao cp w3 hm hg hf hn1; rw [Nat.zero_add, List.nil_append] at hm; have M1 := Lib.hid hm; have B3 := Lib.hid (Below.of_row hg (fun g h => by cases h) (Nat.le_refl _)); have hB3 := B3.out.size; clear hm hg hf hn1)
      | (at_builtin; refine wpList_push_at rfl (.tmp 9) (.tmp 10) 22 rfl .u8 5 w.heap.size 1 Try.underlying22 info_u8 (.slice ao n cp) n zs rfl (M1.out.alloc _) _ w3.heap.size 0 1 (Sl.one .u8 w3 _ 5 W0.out) rfl (by omega) (by omega) (by simp; omega) ?_; intro g1 c1 w5 hm hg hf; have M2 := Lib.hid hm.sl; have B5 := Lib.hid ((B3.out.alloc hB3 _).trans (Below.of_row hg (fun g h => (M1.out.own_ge g h).1) (by simp; omega))); clear hm hg hf; have h1 := csV_range (zs ++ [0]); have h2 := csV_own (zs ++ [0]) ((n + 1) / 2) (by rw [M2.out.len]; omega) M2.out.bytes; rw [← put_two] at h2; have E2 := Lib.hid h2; have SS := Lib.hid (fun W h => Sum_any (some ⟨g1, 0, none⟩) (n + 1) c1 (zs ++ [0]) W h); generalize csV (zs ++ [0]) = s at h1 E2 SS; clear h2)
      | (go_at_call 16; ((with_reducible refine (SS.out _ M2.out).mono ?_); rintro e w' ⟨rfl, rfl⟩))
      | (go_at_call 11; refine (awake04_b _ B5.out).mono ?_; rintro e w6 ⟨rfl, hb, hl⟩; have B6 := Lib.hid hb; have S6 := Lib.hid (M2.out.keep hl); have hB6 := hb.size; clear hb hl)
      | (at_builtin; refine wpList_unguard (by rfl) ?_; refine wpList_append_at rfl (.const (.slice none 0 0)) (.tmp 24) 22 rfl .u8 5 w.heap.size 1 Try.underlying22 info_u8 (.slice none 0 0) 0 [] rfl (Mk.nil .u8 5 _ _) (some ⟨g1, 0, none⟩) (n + 1) c1 (zs ++ [0]) rfl S6.out (fun h => by cases h) (by omega) (by omega) hB6 ?_; intro aq cq w7 hm hg hf hn1; rw [Nat.zero_add, List.nil_append] at hm; have M7 := Lib.hid hm; have B7 := Lib.hid (B6.out.trans (Below.of_row hg (fun g h => by cases h) hB6)); have hB7 := B7.out.size; have N7 := Lib.hid (fun h => (hn1 h).2); clear hm hg hf hn1)
      | (go_at_call 18; refine (Put_any w.heap.size aq _ cq 2 s (zs ++ [0]) _ M7.out N7.out hB7 (by omega) (by omega)).mono ?_; rintro e w8 ⟨a8, c8, rfl, hg, hn⟩; have B8 := Lib.hid (B7.out.trans (hg.below M7.out hB7)); have M8 := Lib.hid hg.row; clear hg hn)
      | (go_at_call 16; refine (Sum_any a8 _ c8 _ _ M8.out.sl).mono ?_; rw [E2.out]; rintro e w' ⟨rfl, rfl⟩)
      | fail)
    go_ret
    exact ⟨rfl, B8.out⟩
  · have ho1 : (n : Int) % 2 ≠ 1 := by omega
    have B0 := Lib.hid (Below.refl w.heap.size w)
    have h1 := csV_range (zs)
    have h2 := csV_own (zs) ((n) / 2) (by rw [Hs.out.len]; omega) Hs.out.bytes
    rw [← put_two] at h2
    have E2 := Lib.hid h2
    have SS := Lib.hid (fun W h => Sum_any (a) (n) cap (zs) W h)
    generalize csV (zs) = s at h1 E2 SS
    clear h2
    go_enter Try.func4, Try.ntmps4
    go_wp2_with (first
      | (go_at_call 16; ((with_reducible refine (SS.out _ Hs.out).mono ?_); rintro e w' ⟨rfl, rfl⟩))
      | (go_at_call 11; refine (awake04_b _ B0.out).mono ?_; rintro e w6 ⟨rfl, hb, hl⟩; have B6 := Lib.hid hb; have S6 := Lib.hid (Hs.out.keep hl); have hB6 := hb.size; clear hb hl)
      | (at_builtin; refine wpList_unguard (by rfl) ?_; refine wpList_append_at rfl (.const (.slice none 0 0)) (.tmp 24) 22 rfl .u8 5 w.heap.size 1 Try.underlying22 info_u8 (.slice none 0 0) 0 [] rfl (Mk.nil .u8 5 _ _) (a) (n) cap (zs) rfl S6.out hca (by omega) (by omega) hB6 ?_; intro aq cq w7 hm hg hf hn1; rw [Nat.zero_add, List.nil_append] at hm; have M7 := Lib.hid hm; have B7 := Lib.hid (B6.out.trans (Below.of_row hg (fun g h => by cases h) hB6)); have hB7 := B7.out.size; have N7 := Lib.hid (fun h => (hn1 h).2); clear hm hg hf hn1)
      | (go_at_call 18; refine (Put_any w.heap.size aq _ cq 2 s (zs) _ M7.out N7.out hB7 (by omega) (by omega)).mono ?_; rintro e w8 ⟨a8, c8, rfl, hg, hn⟩; have B8 := Lib.hid (B7.out.trans (hg.below M7.out hB7)); have M8 := Lib.hid hg.row; clear hg hn)
      | (go_at_call 16; refine (Sum_any a8 _ c8 _ _ M8.out.sl).mono ?_; rw [E2.out]; rintro e w' ⟨rfl, rfl⟩)
      | fail)
    go_ret
    exact ⟨rfl, B8.out⟩

theorem own : ownKnob Try.prog.godebug = none := by kernel_rfl
theorem laidOut : laidOutB Try.prog = true := by kernel_rfl
theorem read_bytes : Try.prog.readableRec 22 = true := by kernel_rfl
theorem cells_b : Try.prog.cellsOf 5 = 1 := by kernel_rfl
theorem bytes_b : Try.prog.bytesOf 5 = 1 := by kernel_rfl
theorem lt_bytes : 22 < Try.prog.types.size := of_decide_eq_true (by kernel_rfl)

set_option maxRecDepth 100000 in
theorem lifted (os : Os) (started : os.Started) (H : Type) (enc : TypeId × Value → H) :
    ReturnsInHanded {} Try.checked os 4 .any (Rows.checksumZeroSpec.pre6 enc Try.prog Try.f4 Rows.checksumZeroRow.domain false) (Rows.checksumZeroSpec.post enc Try.prog Try.f4 false true false false) := by
  refine law_lifted (C := Try.checked) (rt := 4) [22] own started (by kernel_rfl) Try.func4 laidOut (by rw [Try.params4])
    (fun t ht => by simp only [List.mem_cons, List.not_mem_nil, or_false] at ht; rcases ht with rfl <;> first | exact ⟨read_bytes, lt_bytes⟩) rfl Try.underlying4 rfl
    (fun ds h => by match ds, h with | [d0], _ => rfl)
    (ChangeSpec.witness6 (enc := enc) (C := Try.checked) false ⟨#[], #[.slice none 0 0], []⟩ 8 (by kernel_rfl) (by kernel_rfl) (by kernel_rfl) (by kernel_rfl)) ?_
  intro W base args ds p hval hA hsz
  obtain ⟨v0, vs0, d0, ds0, p0, q0, hargs, rfl, rfl, h0, r0⟩ := trodAll_cons hA
  obtain ⟨rfl, rfl, rfl⟩ := trodAll_nil r0
  obtain rfl : args = #[v0] := by cases args; simp_all
  obtain ⟨a0, n0, c0, z0, rfl, s0, nn0⟩ := open_slr Try.underlying22 Try.underlying5 cells_b (by rw [bytes_b]; omega) (hval 0 _ v0 rfl rfl) h0 (fun el spa hd => sized_slice hsz (j := 0) rfl (by rw [hd]; rfl) Try.underlying22)
  exact walk W a0 n0 c0 z0 s0 nn0.1 nn0.2.1 nn0.2.2

/-- THE STATEMENT -/
theorem proved : Rows.ChecksumZeroSaid :=
  OpenClaim.holds_of_wide 4 Try.f4 rfl rfl rfl rfl rfl rfl rfl ⟨rfl, rfl, rfl, rfl, rfl⟩ rfl rfl rfl rfl rfl (by kernel_rfl) Try.func4 (by kernel_rfl)
    (of_decide_eq_true (by kernel_rfl)) (by unfold Func.isWrapper; first | (rw [if_pos (by decide +kernel)]; kernel_rfl) | (rw [if_neg (by decide +kernel)]; exact ⟨rfl, rfl⟩))
    (fun os started H enc _ => lifted os started H enc)
#print axioms proved
end Go.Proofs.Ytlofehjopdhkaaa.checksumZero
