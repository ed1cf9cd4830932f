/-
  Proved: the Go function ChecksumUpdates, called with any bytes and two numbers, returns true and leaves its arguments as they were (the checksum behind the change of a word is that of the changed bytes, if the other words do not all vanish).
  Conditions: none beyond those of the given row.
-/
import Derived.Test.YtlofehjopdhkaaaSumAwake
import Derived.Test.YtlofehjopdhkaaaPush
import Derived.Test.YtlofehjopdhkaaaMod
import Derived.Test.YtlofehjopdhkaaaLift
import Derived.Test.YtlofehjopdhkaaaRows
import Derived.BigRegion
import Derived.Deep.QuietTactic
import Derived.BigQuiet
import Derived.Deep.RegionHeld3
import Derived.Deep.DrawnRows
import Derived.Deep.DeepCutAuto
namespace Go.Proofs.Ytlofehjopdhkaaa.checksumUpdates
open Go Go.RowKit Go.ChangeShapes Go.WideShapes Go.ChangeAt
attribute [local go_sem ↓] Go.wp_at_zero Go.wp_at_succ

theorem info_b : (Try.prog.info? 5).map (fun i => (i.zero, i.size, i.bytes)) = some (some (.int .u8 0), 1, 1) := by kernel_rfl
theorem nat_mod (x m : Int) (hm : 1 ≤ m) : ∃ A : Nat, (A : Int) = x % m ∧ (A : Int) < m := by
  have := Int.emod_nonneg x (show m ≠ 0 by omega)
  have := Int.emod_lt_of_pos x (show (0 : Int) < m by omega)
  exact ⟨(x % m).toNat, by omega, by omega⟩

/-- the bytes with the word i at 0, and with another there -/
def gone (zs : List Int) (i : Nat) : List Int := (zs.set (2 * i) 0).set (2 * i + 1) 0
def here (zs : List Int) (i : Nat) (v : Int) : List Int := ((gone zs i).set (2 * i) (v / 256)).set (2 * i + 1) (v % 256)
theorem upd_law (zs : List Int) (i : Nat) (v : Int) (hi : 2 * i + 1 < zs.length) (hb : Bytes zs) (hg : Bytes (gone zs i)) (h0 : 0 ≤ v) (h1 : v ≤ 65535) (h : addV 0 (gone zs i) ≠ 0) :
    updV (csV zs) (wordAt zs i) v = csV (here zs i v) ∧ updE (csV zs) (wordAt zs i) v = 0 := by
  have e1 : total (gone zs i) = total zs + (256 * 0 + 0 - wordAt zs i) := total_put zs i 0 0 hi
  have e2 : total (here zs i v) = total (gone zs i) + (256 * (v / 256) + v % 256 - wordAt (gone zs i) i) := total_put (gone zs i) i _ _ (by unfold gone; rw [List.length_set, List.length_set]; omega)
  have e3 : wordAt (gone zs i) i = 0 := by unfold gone; rw [word_put zs i 0 0 hi, if_pos rfl]; rfl
  have hw := word_range hb i
  have ht := total_range hg
  have hc := csV_range zs
  rw [addV_zero] at h
  have hn : total (gone zs i) ≠ 0 := fun e => h ((fold_zero _ ht.1).2 e)
  have hf := fold_change (total (gone zs i)) (wordAt zs i) v (by omega) hw.1 hw.2 h0
  obtain ⟨u1, u2⟩ := upd_word (csV zs) (wordAt zs i) v (word_yes hc.1 hc.2) (word_yes hw.1 hw.2) (word_yes h0 h1)
  refine ⟨?_, u2⟩
  rw [u1]
  unfold csV
  rw [addV_zero, addV_zero, show total zs = total (gone zs i) + wordAt zs i by omega, hf, show total (here zs i v) = total (gone zs i) + v by omega]

set_option maxRecDepth 100000 in
set_option maxHeartbeats 3200000 in
theorem walk (w : World) (a : Option Addr) (n cap : Nat) (zs : List Int) (hs : Sl .u8 w a n zs) (hca : a = none → cap = 0) (x0 : Int) (b0 : -9223372036854775808 ≤ x0 ∧ x0 ≤ 9223372036854775807) (x1 : Int) (b1 : -9223372036854775808 ≤ x1 ∧ x1 ≤ 9223372036854775807) :
    Calls Try.prog 6 #[.slice a n cap, .int .i64 x0, .int .i64 x1] w fun e w' => e = .returned (.bool true) ∧ Below w.heap.size w w' := by
  have hr := hs.reach
  have HL := Lib.hid hs.len
  have Hs := Lib.hid hs
  have B0 := Lib.hid (Below.refl w.heap.size w)
  clear hs
  by_cases hn : n / 2 = 0
  · have hn1 : (n : Int) / 2 = 0 := by omega
    go_enter Try.func6, Try.ntmps6
    go_wp2_with (first
      | (go_at_call 11; refine (awake04_b _ B0.out).mono ?_; rintro e w6 ⟨rfl, hb, hl⟩)
      | fail)
    go_ret
    exact ⟨rfl, hb⟩
  · obtain ⟨I, hI, hI2⟩ := nat_mod x0 ((n / 2 : Nat) : Int) (by omega)
    obtain ⟨V, hV, hV2⟩ := nat_mod x1 65536 (by omega)
    have C0 : Hid (∀ W, Calls Try.prog 10 #[.int .i64 x0, .int .i64 ((n : Int) / 2)] W fun e w' => e = .returned (.int .i64 I) ∧ W = w') := fun W => by rw [hI]; exact mod_any x0 _ W (by omega) (by omega) b0.1 b0.2
    have C1 : Hid (∀ W, Calls Try.prog 10 #[.int .i64 x1, .int .i64 65536] W fun e w' => e = .returned (.int .i64 V) ∧ W = w') := fun W => by rw [hV]; exact mod_any x1 _ W (by omega) (by omega) b1.1 b1.2
    have hIn : 2 * I + 1 < n := by omega
    have hV3 : V < 65536 := by omega
    have hnz : (n : Int) / 2 ≠ 0 := by omega
    clear hI hI2 hV hV2 b0 b1 hn
    go_enter Try.func6, Try.ntmps6
    go_upto_region 6 with (first
      | (go_at_call 10; ((with_reducible refine (C0.out _).mono ?_); rintro e w' ⟨rfl, rfl⟩))
      | (go_at_call 10; ((with_reducible refine (C1.out _).mono ?_); rintro e w' ⟨rfl, rfl⟩))
      | (at_builtin; refine wpList_append_at rfl (.const (.slice none 0 0)) (.tmp 25) 22 rfl .u8 5 w.heap.size 1 Try.underlying22 info_b (.slice none 0 0) 0 [] rfl (Mk.nil .u8 5 _ _) a n cap zs rfl Hs.out hca (by omega) (by omega) (Nat.le_refl _) ?_; intro ao cp w3 hm hg hf hn1; rw [Nat.zero_add, List.nil_append] at hm; have M1 := Lib.hid hm; have B3 := Lib.hid (Below.of_row hg (fun g h => by cases h) (Nat.le_refl _)); clear hm hg hf hn1)
      | fail)
    have SB := Lib.hid (Hs.out.keep B3.out)
    obtain ⟨gb, ob, rfl⟩ := Hs.out.head (by omega)
    obtain ⟨gc, oc, rfl⟩ := M1.out.sl.head (by omega)
    obtain rfl : oc = 0 := by
      rcases M1.out.shape with ⟨e, _⟩ | ⟨g', cap', e, _⟩
      · simp at e
      · simp at e; exact e.1.2
    have d2 := M1.out.at (j := 2 * I) (by omega)
    have d3 := M1.out.at (j := 2 * I + 1) (by omega)
    have f2 := M1.out.free (2 * I)
    have f3 := M1.out.free (2 * I + 1)
    have hI1 : (2 * (I : Int)) < (n : Int) := by omega
    have hI2 : (2 * (I : Int)) + 1 < (n : Int) := by omega
    have hgc := M1.out.block.1
    have M2 : Hid (Mk .u8 5 w.heap.size _ _ n (gone zs I)) := Lib.hid ((M1.out.stored (2 * I) 0 (by decide)).stored (2 * I + 1) 0 (by decide))
    have B2 := Lib.hid ((B3.out.setCell (p := ⟨gc, 2 * I, none⟩) hgc (.int .u8 0)).setCell (p := ⟨gc, 2 * I + 1, none⟩) hgc (.int .u8 0))
    have A2 := Lib.hid (Add_any 0 (some ⟨gc, 0, none⟩) n cp (gone zs I) _ M2.out.sl (by omega))
    by_cases hz : addV 0 (gone zs I) = 0
    · rw [hz] at A2
      clear hz
      go_wp2_with (first
        | (go_at_call 14; refine A2.out.mono ?_; rintro e w' ⟨rfl, rfl⟩)
        | (go_at_call 11; refine (awake04_b _ B2.out).mono ?_; rintro e w6 ⟨rfl, hb, hl⟩)
        | fail)
      go_ret
      exact ⟨rfl, hb⟩
    · have UL := Lib.hid (upd_law zs I V (by have := HL.out; omega) Hs.out.bytes M2.out.sl.bytes (by omega) (by omega) hz)
      have hz2 : addV 0 (gone zs I) ≠ 0 := hz
      have M4 : Hid (Mk .u8 5 w.heap.size _ _ n (here zs I V)) := Lib.hid ((M2.out.stored (2 * I) ((V : Int) / 256) (byte_wf (by omega) (by omega))).stored (2 * I + 1) ((V : Int) % 256) (byte_wf (by omega) (by omega)))
      have B4 := Lib.hid ((B2.out.setCell (p := ⟨gc, 2 * I, none⟩) hgc (.int .u8 ((V : Int) / 256))).setCell (p := ⟨gc, 2 * I + 1, none⟩) hgc (.int .u8 ((V : Int) % 256)))
      generalize addV 0 (gone zs I) = q at A2 hz2
      clear hz
      go_upto_region 10 with (first
        | (go_at_call 14; refine A2.out.mono ?_; rintro e w' ⟨rfl, rfl⟩)
        | fail)
      have S4 := Lib.hid (Hs.out.keep B4.out.drew)
      have r2 := S4.out.at (i := 2 * I) (by omega)
      have r3 := S4.out.at (i := 2 * I + 1) (by omega)
      have z2 := S4.out.u8 (2 * I)
      have z3 := S4.out.u8 (2 * I + 1)
      have SS := Lib.hid (fun W h => Sum_any (some ⟨gb, ob, none⟩) n cap zs W h)
      have SC := Lib.hid (fun W h => Sum_any (some ⟨gc, 0, none⟩) n cp (here zs I V) W h)
      have hcs := csV_range zs
      have UU := Lib.hid (fun W => Update_any (csV zs) (wordAt zs I) V W (by omega) (by have := word_range Hs.out.bytes I; omega) (by omega))
      rw [UL.out.1, UL.out.2] at UU
      unfold wordAt at UU
      generalize csV zs = s at SS UU
      generalize csV (here zs I V) = t at SC UU
      generalize here zs I V = cs at SC M4
      generalize zs.getD (2 * I) 0 = y2 at r2 z2 UU
      generalize zs.getD (2 * I + 1) 0 = y3 at r3 z3 UU
      clear UL hcs d2 d3 f2 f3 A2 hz2 SB M1 B3
      have k0 : (0 : Int) ≤ 2 * (I : Int) := by omega
      have k1 : (0 : Int) ≤ 2 * (I : Int) + 1 := by omega
      have k2 : IntKind.i64.wrap (2 * (I : Int) + 1) = 2 * (I : Int) + 1 := IntWalk.i64_in _ ⟨by omega, by omega⟩
      have k3 : IntKind.i64.wrap (256 * y2) = 256 * y2 := IntWalk.i64_in _ ⟨by omega, by omega⟩
      have k4 : IntKind.i64.wrap (256 * y2 + y3) = 256 * y2 + y3 := IntWalk.i64_in _ ⟨by omega, by omega⟩
      have k5 : IntKind.i64.wrap y2 = y2 := IntWalk.i64_in _ ⟨by omega, by omega⟩
      have k6 : IntKind.i64.wrap y3 = y3 := IntWalk.i64_in _ ⟨by omega, by omega⟩
      rw [show 2 * I = (2 * (I : Int)).toNat by omega] at r2
      rw [show 2 * I + 1 = (2 * (I : Int) + 1).toNat by omega] at r3
      go_region_held3 (fun w' => w'.cell? ⟨gb, ob + (2 * (I : Int)).toNat, none⟩ = some (.int .u8 y2) ∧ w'.cell? ⟨gb, ob + (2 * (I : Int) + 1).toNat, none⟩ = some (.int .u8 y3)) (first | exact ⟨r2, r3⟩ | go_keep)
        (first
          | (go_at_call 16; refine (SS.out _ S4.out).mono ?_; rintro e w' ⟨rfl, rfl⟩)
          | (go_at_call 8; refine (UU.out _).mono ?_; rintro e w' ⟨rfl, rfl⟩))
      go_wp2_with (first
        | (go_at_call 11; refine (awake04_b _ B4.out.drew).mono ?_; rintro e w6 ⟨rfl, hb, hl⟩; have B6 := Lib.hid hb; have M6 := Lib.hid (M4.out.drew.keep hl); clear hb hl)
        | (go_at_call 16; ((with_reducible refine (SC.out _ M6.out.sl).mono ?_); rintro e w' ⟨rfl, rfl⟩))
        | fail)
      go_ret
      exact ⟨rfl, B6.out⟩

theorem own : ownKnob Try.prog.godebug = none := by kernel_rfl
theorem laidOut : laidOutB Try.prog = true := by kernel_rfl
theorem read_bytes : Try.prog.readableRec 22 = true := by kernel_rfl
theorem read_int : Try.prog.readableRec 3 = true := by kernel_rfl
theorem cells_b : Try.prog.cellsOf 5 = 1 := by kernel_rfl
theorem bytes_b : Try.prog.bytesOf 5 = 1 := by kernel_rfl
theorem lt_bytes : 22 < Try.prog.types.size := of_decide_eq_true (by kernel_rfl)
theorem lt_int : 3 < Try.prog.types.size := of_decide_eq_true (by kernel_rfl)

set_option maxRecDepth 100000 in
theorem lifted (os : Os) (started : os.Started) (H : Type) (enc : TypeId × Value → H) :
    ReturnsInHanded {} Try.checked os 6 .any (Rows.checksumUpdatesSpec.pre6 enc Try.prog Try.f6 Rows.checksumUpdatesRow.domain false) (Rows.checksumUpdatesSpec.post enc Try.prog Try.f6 false true false false) := by
  refine law_lifted (C := Try.checked) (rt := 4) [22, 3, 3] own started (by kernel_rfl) Try.func6 laidOut (by rw [Try.params6])
    (fun t ht => by simp only [List.mem_cons, List.not_mem_nil, or_false] at ht; rcases ht with rfl | rfl | rfl <;> first | exact ⟨read_bytes, lt_bytes⟩ | exact ⟨read_int, lt_int⟩) rfl Try.underlying4 rfl
    (fun ds h => by match ds, h with | [d0, d1, d2], _ => rfl)
    (ChangeSpec.witness6 (enc := enc) (C := Try.checked) false ⟨#[], #[.slice none 0 0, .int .i64 0, .int .i64 0], []⟩ 8 (by kernel_rfl) (by kernel_rfl) (by kernel_rfl) (by kernel_rfl)) ?_
  intro W base args ds p hval hA hsz
  obtain ⟨v0, vs0, d0, ds0, p0, q0, hargs, rfl, rfl, h0, r0⟩ := trodAll_cons hA
  obtain ⟨v1, vs1, d1, ds1, p1, q1, rfl, rfl, rfl, h1, r1⟩ := trodAll_cons r0
  obtain ⟨v2, vs2, d2, ds2, p2, q2, rfl, rfl, rfl, h2, r2⟩ := trodAll_cons r1
  obtain ⟨rfl, rfl, rfl⟩ := trodAll_nil r2
  obtain rfl : args = #[v0, v1, v2] := by cases args; simp_all
  obtain ⟨a0, n0, c0, z0, rfl, s0, nn0⟩ := open_slr Try.underlying22 Try.underlying5 cells_b (by rw [bytes_b]; omega) (hval 0 _ v0 rfl rfl) h0 (fun el spa hd => sized_slice hsz (j := 0) rfl (by rw [hd]; rfl) Try.underlying22)
  obtain ⟨x1, rfl, b1⟩ := open_i64 Try.underlying3 (hval 1 _ v1 rfl rfl) h1
  obtain ⟨x2, rfl, b2⟩ := open_i64 Try.underlying3 (hval 2 _ v2 rfl rfl) h2
  exact walk W a0 n0 c0 z0 s0 nn0.1 x1 b1 x2 b2

/-- THE STATEMENT -/
theorem proved : Rows.ChecksumUpdatesSaid :=
  OpenClaim.holds_of_wide 6 Try.f6 rfl rfl rfl rfl rfl rfl rfl ⟨rfl, rfl, rfl, rfl, rfl⟩ rfl rfl rfl rfl rfl (by kernel_rfl) Try.func6 (by kernel_rfl)
    (of_decide_eq_true (by kernel_rfl)) (by unfold Func.isWrapper; first | (rw [if_pos (by decide +kernel)]; kernel_rfl) | (rw [if_neg (by decide +kernel)]; exact ⟨rfl, rfl⟩))
    (fun os started H enc _ => lifted os started H enc)
#print axioms proved
end Go.Proofs.Ytlofehjopdhkaaa.checksumUpdates
