/-
  Proved: the Go function ChecksumParts, called with any two strings of bytes and a number, returns true and leaves its arguments as they were (bytes can be added in parts of even length, and a folded sum is a word), where what comes in is together of bulk at most 1048576.
  Conditions: the given row's own bound (the second form). Beyond it the first form is false by size: two parts of 2^47 - 4096 bytes each make an append that asks for more than 2^48 bytes.
-/
import Derived.Test.YtlofehjopdhkaaaSumAwake
import Derived.Test.YtlofehjopdhkaaaPush
import Derived.Test.YtlofehjopdhkaaaUpto
namespace Go.Proofs.Ytlofehjopdhkaaa.checksumParts
open Go Go.RowKit Go.ChangeShapes Go.WideShapes Go.ChangeAt

theorem info_b : (Try.prog.info? 5).map (fun i => (i.zero, i.size, i.bytes)) = some (some (.int .u8 0), 1, 1) := by kernel_rfl

set_option maxRecDepth 100000 in
set_option maxHeartbeats 3200000 in
theorem walk (w : World) (a : Option Addr) (n cap : Nat) (zs : List Int) (hs : Sl .u8 w a n zs) (hca : a = none → cap = 0) (hnc : n ≤ cap) (hcm : cap ≤ 1048576)
    (b : Option Addr) (m cap2 : Nat) (xs : List Int) (hs2 : Sl .u8 w b m xs) (hcb : b = none → cap2 = 0) (hmc : m ≤ cap2) (hcm2 : cap2 ≤ 1048576)
    (s : Int) (b2 : -9223372036854775808 ≤ s ∧ s ≤ 9223372036854775807) :
    Calls Try.prog 7 #[.slice a n cap, .slice b m cap2, .int .i64 s] w fun e w' => e = .returned (.bool true) ∧ Below w.heap.size w w' := by
  have Hs := Lib.hid hs
  have Hs2 := Lib.hid hs2
  clear hs hs2
  by_cases ho : n % 2 = 1
  · have W0 : Hid ((Lit.int .u8 0).wf = true) := Lib.hid (by decide)
    have ho1 : (n : Int) % 2 = 1 := by omega
    have ho2 : ((n : Int) % 2 == 1) = true := by simpa using ho1
    go_enter Try.func7, Try.ntmps7
    go_wp2_with (first
      | (at_builtin; refine wpList_append_at rfl (.const (.slice none 0 0)) (.tmp 12) 22 rfl .u8 5 w.heap.size 1 Try.underlying22 info_b (.slice none 0 0) 0 [] rfl (Mk.nil .u8 5 _ _) a n cap zs rfl Hs.out hca (by omega) (by omega) (Nat.le_refl _) ?_; intro ao cp w3 hm hg hf hn1; rw [Nat.zero_add, List.nil_append] at hm; have M1 := Lib.hid hm; have B3 := Lib.hid (Below.of_row hg (fun g h => by cases h) (Nat.le_refl _)); have hB3 := B3.out.size; clear hm hg hf hn1)
      | (at_builtin; refine wpList_push_at rfl (.tmp 13) (.tmp 14) 22 rfl .u8 5 w.heap.size 1 Try.underlying22 info_b (.slice ao n cp) n zs rfl (M1.out.alloc _) _ w3.heap.size 0 1 (Sl.one .u8 w3 _ 5 W0.out) rfl (by omega) (by omega) (by simp; omega) ?_; intro g1 c1 w5 hm hg hf; have M2 := Lib.hid hm.sl; have B5 := Lib.hid ((B3.out.alloc hB3 _).trans (Below.of_row hg (fun g h => (M1.out.own_ge g h).1) (by simp; omega))); have S5 := Lib.hid (Hs2.out.keep B5.out); clear hm hg hf; have e1 := addV_app s (zs ++ [0]) xs ((n + 1) / 2) (by rw [M2.out.len]; omega) M2.out.bytes S5.out.bytes; have r1 := addV_range s (zs ++ [0]); have r2 := addV_range s (zs ++ [0] ++ xs); have e2 := fold_self _ r2.1 r2.2; have P1 := Lib.hid (fun W a n c h => Add_any s a n c (zs ++ [0] ++ xs) W h b2); have P2 := Lib.hid (fun W h => Add_any s (some ⟨g1, 0, none⟩) (n + 1) c1 (zs ++ [0]) W h b2); have P3 := Lib.hid (fun W h => Add_any (addV s (zs ++ [0])) b m cap2 xs W h (by omega)); have P4 := Lib.hid (fun W => Fold_any (addV s (zs ++ [0] ++ xs)) W (by omega)); rw [e1] at P3; rw [e2] at P4; generalize addV s (zs ++ [0] ++ xs) = q at r2 P1 P3 P4; generalize addV s (zs ++ [0]) = r at r1 P2 P3; clear e1 e2 r1)
      | (at_builtin; refine wpList_append_at rfl (.const (.slice none 0 0)) (.tmp 17) 22 rfl .u8 5 w5.heap.size 1 Try.underlying22 info_b (.slice none 0 0) 0 [] rfl (Mk.nil .u8 5 _ _) (some ⟨g1, 0, none⟩) (n + 1) c1 (zs ++ [0]) rfl M2.out (fun h => by cases h) (by omega) (by omega) (Nat.le_refl _) ?_; intro aq cq w7 hm hg hf hn1; rw [Nat.zero_add, List.nil_append] at hm; rw [Nat.zero_add] at hf; have M7 := Lib.hid hm; have D7 := Lib.hid (Below.of_row hg (fun g h => by cases h) (Nat.le_refl _)); have hD7 := D7.out.size; have G7 := Lib.hid (fun g h => (hf g h).resolve_left (fun h => by cases h)); clear hm hg hf hn1)
      | (at_builtin; refine wpList_append_at rfl (.tmp 18) (.tmp 19) 22 rfl .u8 5 w5.heap.size 1 Try.underlying22 info_b (.slice aq _ cq) (n + 1) (zs ++ [0]) rfl M7.out b m cap2 xs rfl (S5.out.keep D7.out) hcb (by omega) (by omega) hD7 ?_; intro ar cr w8 hm hg hf hn1; have M8 := Lib.hid hm; have D8 := Lib.hid (D7.out.trans (Below.of_row hg G7.out hD7)); clear hm hg hf hn1)
      | (go_at_call 14; ((with_reducible refine (P1.out _ _ _ _ M8.out.sl).mono ?_); rintro e w' ⟨rfl, rfl⟩))
      | (go_at_call 11; refine (awake04_b _ D8.out).mono ?_; rintro e w9 ⟨rfl, hb, hl⟩; have D9 := Lib.hid hb; clear hb hl)
      | (go_at_call 14; ((with_reducible refine (P2.out _ (M2.out.keep D9.out)).mono ?_); rintro e w' ⟨rfl, rfl⟩))
      | (go_at_call 14; ((with_reducible refine (P3.out _ (S5.out.keep D9.out)).mono ?_); rintro e w' ⟨rfl, rfl⟩))
      | (go_at_call 12; refine (P4.out _).mono ?_; rintro e w' ⟨rfl, rfl⟩)
      | fail)
    go_ret
    exact ⟨rfl, B5.out.trans (D9.out.mono B5.out.size)⟩
  · have ho1 : (n : Int) % 2 ≠ 1 := by omega
    have e1 := addV_app s (zs) xs ((n) / 2) (by rw [Hs.out.len]; omega) Hs.out.bytes Hs2.out.bytes
    have r1 := addV_range s (zs)
    have r2 := addV_range s (zs ++ xs)
    have e2 := fold_self _ r2.1 r2.2
    have P1 := Lib.hid (fun W a n c h => Add_any s a n c (zs ++ xs) W h b2)
    have P2 := Lib.hid (fun W h => Add_any s (a) (n) cap (zs) W h b2)
    have P3 := Lib.hid (fun W h => Add_any (addV s (zs)) b m cap2 xs W h (by omega))
    have P4 := Lib.hid (fun W => Fold_any (addV s (zs ++ xs)) W (by omega))
    rw [e1] at P3
    rw [e2] at P4
    generalize addV s (zs ++ xs) = q at r2 P1 P3 P4
    generalize addV s (zs) = r at r1 P2 P3
    clear e1 e2 r1
    go_enter Try.func7, Try.ntmps7
    go_wp2_with (first
      | (at_builtin; refine wpList_append_at rfl (.const (.slice none 0 0)) (.tmp 17) 22 rfl .u8 5 w.heap.size 1 Try.underlying22 info_b (.slice none 0 0) 0 [] rfl (Mk.nil .u8 5 _ _) (a) (n) cap (zs) rfl Hs.out hca (by omega) (by omega) (Nat.le_refl _) ?_; intro aq cq w7 hm hg hf hn1; rw [Nat.zero_add, List.nil_append] at hm; rw [Nat.zero_add] at hf; have M7 := Lib.hid hm; have D7 := Lib.hid (Below.of_row hg (fun g h => by cases h) (Nat.le_refl _)); have hD7 := D7.out.size; have G7 := Lib.hid (fun g h => (hf g h).resolve_left (fun h => by cases h)); clear hm hg hf hn1)
      | (at_builtin; refine wpList_append_at rfl (.tmp 18) (.tmp 19) 22 rfl .u8 5 w.heap.size 1 Try.underlying22 info_b (.slice aq _ cq) (n) (zs) rfl M7.out b m cap2 xs rfl (Hs2.out.keep D7.out) hcb (by omega) (by omega) hD7 ?_; intro ar cr w8 hm hg hf hn1; have M8 := Lib.hid hm; have D8 := Lib.hid (D7.out.trans (Below.of_row hg G7.out hD7)); clear hm hg hf hn1)
      | (go_at_call 14; ((with_reducible refine (P1.out _ _ _ _ M8.out.sl).mono ?_); rintro e w' ⟨rfl, rfl⟩))
      | (go_at_call 11; refine (awake04_b _ D8.out).mono ?_; rintro e w9 ⟨rfl, hb, hl⟩; have D9 := Lib.hid hb; clear hb hl)
      | (go_at_call 14; ((with_reducible refine (P2.out _ (Hs.out.keep D9.out)).mono ?_); rintro e w' ⟨rfl, rfl⟩))
      | (go_at_call 14; ((with_reducible refine (P3.out _ (Hs2.out.keep D9.out)).mono ?_); rintro e w' ⟨rfl, rfl⟩))
      | (go_at_call 12; refine (P4.out _).mono ?_; rintro e w' ⟨rfl, rfl⟩)
      | fail)
    go_ret
    exact ⟨rfl, D9.out⟩

theorem own : ownKnob Try.prog.godebug = none := by kernel_rfl
theorem laidOut : laidOutB Try.prog = true := by kernel_rfl
theorem read_bytes : Try.prog.readableRec 22 = true := by kernel_rfl
theorem read_int : Try.prog.readableRec 3 = true := by kernel_rfl
theorem cells_b : Try.prog.cellsOf 5 = 1 := by kernel_rfl
theorem bytes_b : Try.prog.bytesOf 5 = 1 := by kernel_rfl
theorem lt_bytes : 22 < Try.prog.types.size := of_decide_eq_true (by kernel_rfl)
theorem lt_int : 3 < Try.prog.types.size := of_decide_eq_true (by kernel_rfl)

set_option maxRecDepth 100000 in
theorem lifted (os : Os) (started : os.Started) (H : Type) (enc : TypeId × Value → H) (F : Stop.Interp) :
    ReturnsInHanded {} Try.checked os 7 .any ((Rows.OpenSpec.upto Rows.checksumPartsSpec).pre6 enc Try.prog Try.f7 Rows.checksumPartsUptoRow.domain false) (((Rows.OpenSpec.upto Rows.checksumPartsSpec).at F).post enc Try.prog Try.f7 false true false false) := by
  refine law_lifted_upto (C := Try.checked) (rt := 4) [22, 22, 3] own started (by kernel_rfl) Try.func7 laidOut (by rw [Try.params7])
    (fun t ht => by simp only [List.mem_cons, List.not_mem_nil, or_false] at ht; rcases ht with rfl | rfl | rfl <;> first | exact ⟨read_bytes, lt_bytes⟩ | exact ⟨read_int, lt_int⟩) rfl Try.underlying4 rfl
    (fun ds h => by match ds, h with | [d0, d1, d2], _ => rfl)
    (OpenSpec.witness (enc := enc) (C := Try.checked) (s := Rows.OpenSpec.upto Rows.checksumPartsSpec) (k := Rows.uptoSmall) rfl false ⟨#[], #[.slice none 0 0, .slice none 0 0, .int .i64 0], []⟩ 8 (by kernel_rfl) (by kernel_rfl) (by kernel_rfl) (x := ([.nil, .nil, .lit (.int .i64 0)], [], [])) (by kernel_rfl) rfl (by kernel_rfl)) ?_
  intro W base args ds p hval hA hsz hbk
  obtain ⟨v0, vs0, d0, ds0, p0, q0, hargs, rfl, rfl, h0, r0⟩ := trodAll_cons hA
  obtain ⟨v1, vs1, d1, ds1, p1, q1, rfl, rfl, rfl, h1, r1⟩ := trodAll_cons r0
  obtain ⟨v2, vs2, d2, ds2, p2, q2, rfl, rfl, rfl, h2, r2⟩ := trodAll_cons r1
  obtain ⟨rfl, rfl, rfl⟩ := trodAll_nil r2
  obtain rfl : args = #[v0, v1, v2] := by cases args; simp_all
  obtain ⟨a0, n0, c0, z0, rfl, s0, nn0⟩ := open_slm (M := 1048576) (by omega) Try.underlying22 Try.underlying5 cells_b (hval 0 _ v0 rfl rfl) h0 (fun el spa hd => bulk_slice hbk (by rw [← hd]; simp))
  obtain ⟨a1, n1, c1, z1, rfl, s1, nn1⟩ := open_slm (M := 1048576) (by omega) Try.underlying22 Try.underlying5 cells_b (hval 1 _ v1 rfl rfl) h1 (fun el spa hd => bulk_slice hbk (by rw [← hd]; simp))
  obtain ⟨x2, rfl, b2⟩ := open_i64 Try.underlying3 (hval 2 _ v2 rfl rfl) h2
  exact walk W a0 n0 c0 z0 s0 nn0.1 nn0.2.1 nn0.2.2 a1 n1 c1 z1 s1 nn1.1 nn1.2.1 nn1.2.2 x2 b2

/-- THE STATEMENT -/
theorem proved : Rows.ChecksumPartsUptoSaid :=
  OpenClaim.holds_of_cond 7 Try.f7 rfl rfl rfl rfl rfl rfl rfl ⟨rfl, rfl, rfl, rfl, rfl⟩ rfl rfl rfl rfl rfl (by kernel_rfl) Try.func7 (by kernel_rfl)
    (of_decide_eq_true (by kernel_rfl)) (by unfold Func.isWrapper; first | (rw [if_pos (by decide +kernel)]; kernel_rfl) | (rw [if_neg (by decide +kernel)]; exact ⟨rfl, rfl⟩))
    (fun os started H enc _ F => lifted os started H enc F)
#print axioms proved
end Go.Proofs.Ytlofehjopdhkaaa.checksumParts
