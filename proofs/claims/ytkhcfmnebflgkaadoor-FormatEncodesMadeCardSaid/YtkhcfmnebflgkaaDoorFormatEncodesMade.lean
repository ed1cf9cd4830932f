/-
  FormatEncodesMade: the same for made parts and odd ones; true for every input.
-/
import Derived.Test.YtkhcfmnebflgkaaDoorFormatEncodes
import Derived.Test.YtkhcfmnebflgkaaDoorDiceSmall
import Derived.Test.YtkhcfmnebflgkaaDoorDiceOddSm
import Derived.Test.YtkhcfmnebflgkaaDoorDiceApart
namespace Go.Proofs.YtkhcfmnebflgkaaDoor.formatEncodesMade
open Go Go.RowKit Go.ChangeShapes Go.WideShapes Go.ChangeAt

set_option maxRecDepth 100000 in
set_option maxHeartbeats 64000000 in
theorem walk (w : World) (hst : St w) (a0 : Option Addr) (n cap : Nat) (t : List Int) (hs : Sl .i64 w a0 n t) :
    Calls Tryd.prog 4 #[.slice a0 n cap] w fun e w' => e = .returned (.bool true) ∧ Below w.heap.size w w' := by
  have hr := hs.reach
  have Hs := Lib.hid hs
  have HST := Lib.hid hst
  clear hs hst
  by_cases hn : n ≤ 400
  · have hd : decide (n ≤ 400) = true := decide_eq_true hn
    go_enter Tryd.func4, Tryd.ntmps4
    go_wp2_with (go_at_call 16; refine (light_any _ _ _ _ (by omega)).mono ?_; rintro e w' ⟨rfl, rfl⟩)
    refine (roll_in a0 n cap t _ Hs.out).mono ?_
    rintro e w1 ⟨rfl, hd1, hb1, hz1⟩
    have D1 := Lib.hid hd1
    have B1 := Lib.hid hb1
    have hz1' : w.heap.size < w1.heap.size := by omega
    clear hd1 hb1 hz1 hd Hs hr
    go_wp2_with fail
    refine (small_in _ w1 D1.out).mono ?_
    rintro e w2 ⟨s, rfl, hf, hv, hin, hd, hg⟩
    have hz2 : w.heap.size < w2.heap.size := Nat.lt_of_lt_of_le hz1' hg.size
    have B2 := Lib.hid (B1.out.trans (Below.of_row hg (fun g e => by rw [← Option.some.inj e]; exact Nat.le_refl _) (Nat.le_of_lt hz1')))
    have HF := Lib.hid hf
    have HI := Lib.hid hin
    have D2 := Lib.hid hd
    clear hf hv hin hd hg D1 B1
    dsimp only
    refine ‹∀ (a : Act) (w : World), wpList _ _ _ _ a w → _› _ _ ?_
    refine wpList_run (.pointer (some ⟨w2.heap.size, 0, none⟩)) (w2.alloc (.cells #[.int .i64 0, .int .i64 0, .int .i64 0, .int .i64 0, .int .i64 0, .int .i64 0, .int .i64 0, .int .i64 0, .int .i64 0, .int .i64 0, .int .i64 0, .int .i64 0, .int .i64 0, .int .i64 0, .int .i64 0, .int .i64 0, .int .i64 0, .int .i64 0, .int .i64 0, .int .i64 0, .int .i64 0, .int .i64 0, .int .i64 0, .int .i64 0, .int .i64 0, .slice none 0 0] 28)) rfl (by kernel_rfl) ?_
    refine wpList_store_blk (n := 26) rfl rfl _ _ rfl rfl rfl (heap_alloc_new w2 _) rfl rfl info_sm (by simp [Value.oneCell']) ?_
    intro w3 K3 G3
    simp only [Act.put, List.setIfInBounds_toArray, List.set_cons_zero, List.set_cons_succ]
    have b3 : Below w2.heap.size w2 w3 := ((Below.refl w2.heap.size w2).alloc (Nat.le_refl _) _).trans (Below.of_row G3 (fun g e => by rw [← Option.some.inj e]; exact Nat.le_refl _) (by simp))
    have B3 := Lib.hid (B2.out.trans (b3.mono B2.out.size))
    have P3 : Hid (Blk 28 w3 w2.heap.size #[.int .i64 s.ctx, .int .i64 s.fmt, .int .i64 s.num, .int .i64 s.time, .int .i64 s.mark, .int .i64 s.id, .int .i64 s.udp, .int .i64 s.h.kind, .int .i64 s.h.tos, .int .i64 s.h.id, .int .i64 s.h.fixed, .int .i64 s.h.ttl, .int .i64 s.h.frm, .int .i64 s.h.to, .int .i64 s.h.fromPort, .int .i64 s.h.toPort, .int .i64 s.h.check, .int .i64 s.h.marker, .int .i64 s.h.type, .int .i64 s.h.seq, .int .i64 s.h.time, .int .i64 s.h.source, .int .i64 s.ds, .int .i64 s.df, .int .i64 s.chk, .slice s.pa s.pn s.pc]) := Lib.hid K3
    have I3 := Lib.hid (HI.out.keep b3)
    have D3 := Lib.hid (D2.out.keep b3)
    clear K3 G3 b3 B2 HI D2
    generalize w2.heap.size = P at P3 hz2 ⊢
    have hgP : P ≠ w.heap.size := by omega
    go_wp2_with fail
    refine (one_in w.heap.size 2 _ D3.out (by omega) (by omega)).mono ?_
    rintro e w4 ⟨b, rfl, hd4, hg4⟩
    have D4 := Lib.hid hd4
    have P4 := Lib.hid (P3.out.keepRow hg4 (fun e => hgP (Option.some.inj e).symm))
    have I4 := Lib.hid (in_roll I3.out D3.out hg4)
    have B4 := Lib.hid (B3.out.trans (Below.of_row hg4 (fun g e => by rw [← Option.some.inj e]; exact Nat.le_refl _) B3.out.size))
    clear hd4 hg4 D3 P3 I3 B3
    have AE := Lib.hid (fun (W : World) (h : St W) (x : Sm) => formatEncodes.any W h x)
    cases b
    · go_upto_region 7 with fail
      refine wp_region_lit ?_
      refine wpList_load_sm P4.out rfl _ rfl rfl ?_
      go_wp2_with (first
        | (go_at_call 3; ((with_reducible refine (AE.out w4 (HST.out.keep B4.out) s HF.out (fun _ => I4.out)).mono ?_); rintro e w5 ⟨rfl, hb⟩; have B5 := Lib.hid (B4.out.trans (hb.mono B4.out.size)); clear hb))
        | fail)
      go_ret
      exact ⟨rfl, B5.out⟩
    · go_upto_region 6 with fail
      refine wp_region_lit ?_
      refine wpList_run (.pointer (some ⟨w.heap.size, 0, none⟩)) w4 rfl (by kernel_rfl) ?_
      refine wpList_load_sm P4.out rfl _ rfl rfl ?_
      go_wp2_with fail
      refine (oddsm_in _ s w4 D4.out HF.out).mono ?_
      rintro e w5 ⟨x, rfl, ⟨hxf, hxa, hxn, hxc, hxz⟩, hd5, hg5⟩
      have P5 := Lib.hid (P4.out.keepRow hg5 (fun e => hgP (Option.some.inj e).symm))
      have I5 := Lib.hid (in_roll I4.out D4.out hg5)
      have J5 : Hid (x.In w5) := Lib.hid ⟨by rw [hxa, hxn, hxz]; exact I5.out.sl, by rw [hxa, hxc]; exact I5.out.nil, by rw [hxn, hxc]; exact I5.out.cap⟩
      have B5 := Lib.hid (B4.out.trans (Below.of_row hg5 (fun g e => by rw [← Option.some.inj e]; exact Nat.le_refl _) B4.out.size))
      have FX := Lib.hid hxf
      clear hd5 hg5 D4 P4 I4 B4 I5 hxf hxa hxn hxc hxz
      dsimp only
      refine ‹∀ (a : Act) (w : World), wpList _ _ _ _ a w → _› _ _ ?_
      refine wpList_store_blk (n := 26) rfl rfl _ _ rfl rfl rfl P5.out rfl rfl info_sm (by simp [Value.oneCell']) ?_
      intro w6 K6 G6
      have P6 : Hid (Blk 28 w6 P #[.int .i64 x.ctx, .int .i64 x.fmt, .int .i64 x.num, .int .i64 x.time, .int .i64 x.mark, .int .i64 x.id, .int .i64 x.udp, .int .i64 x.h.kind, .int .i64 x.h.tos, .int .i64 x.h.id, .int .i64 x.h.fixed, .int .i64 x.h.ttl, .int .i64 x.h.frm, .int .i64 x.h.to, .int .i64 x.h.fromPort, .int .i64 x.h.toPort, .int .i64 x.h.check, .int .i64 x.h.marker, .int .i64 x.h.type, .int .i64 x.h.seq, .int .i64 x.h.time, .int .i64 x.h.source, .int .i64 x.ds, .int .i64 x.df, .int .i64 x.chk, .slice x.pa x.pn x.pc]) := Lib.hid K6
      have I6 := Lib.hid (in_put J5.out P5.out G6)
      have B6 := Lib.hid (B5.out.trans (Below.of_row G6 (fun g e => by rw [← Option.some.inj e]; omega) B5.out.size))
      clear K6 G6 P5 J5 B5
      go_upto_region 7 with fail
      refine wp_region_lit ?_
      refine wpList_load_sm P6.out rfl _ rfl rfl ?_
      go_wp2_with (first
        | (go_at_call 3; ((with_reducible refine (AE.out w6 (HST.out.keep B6.out) x FX.out (fun _ => I6.out)).mono ?_); rintro e w7 ⟨rfl, hb⟩; have B7 := Lib.hid (B6.out.trans (hb.mono B6.out.size)); clear hb))
        | fail)
      go_ret
      exact ⟨rfl, B7.out⟩
  · have hd : decide (n ≤ 400) = false := decide_eq_false hn
    have AW := Lib.hid (awake08_any w HST.out)
    go_enter Tryd.func4, Tryd.ntmps4
    go_wp2_with (first
      | (go_at_call 16; refine (light_any _ _ _ _ (by omega)).mono ?_; rintro e w' ⟨rfl, rfl⟩)
      | (go_at_call 12; refine AW.out.mono ?_; rintro e w2 ⟨rfl, hb⟩; have B2 := Lib.hid hb; clear hb)
      | fail)
    go_ret
    exact ⟨rfl, B2.out⟩

theorem own : ownKnob Tryd.prog.godebug = none := by kernel_rfl
theorem laidOut : laidOutB Tryd.prog = true := by kernel_rfl
theorem read_ints : Tryd.prog.readableRec 35 = true := by kernel_rfl
theorem cells_i : Tryd.prog.cellsOf 3 = 1 := by kernel_rfl
theorem bytes_i : Tryd.prog.bytesOf 3 = 8 := by kernel_rfl
theorem lt_ints : 35 < Tryd.prog.types.size := of_decide_eq_true (by kernel_rfl)

set_option maxRecDepth 100000 in
theorem lifted (os : Os) (started : os.Started) (H : Type) (enc : TypeId × Value → H) :
    ReturnsInHanded {} Tryd.checked os 4 .any (fun w args => (Rows.formatEncodesMadeSpec.pre enc Tryd.prog Tryd.f4 [] false w args ∧ laidMetH Tryd.prog laid08 w) ∧ sizedMet enc Tryd.prog Tryd.f4 (OpenSpec.ofChange Rows.formatEncodesMadeSpec) false w args) (Rows.formatEncodesMadeSpec.post enc Tryd.prog Tryd.f4 false true false false) := by
  refine law_lifted_laid (laid := laid08) (C := Tryd.checked) (rt := 4) [35] own started (by kernel_rfl) Tryd.func4 laidOut (by rw [Tryd.params4])
    (fun t ht => by simp only [List.mem_cons, List.not_mem_nil, or_false] at ht; rcases ht with rfl <;> first | exact ⟨read_ints, lt_ints⟩) rfl Tryd.underlying4 rfl
    (fun ds h => by match ds, h with | [d0], _ => rfl)
    (ChangeSpec.witness_shaped (enc := enc) (C := Tryd.checked) (os := os) (X := fun w _ => laidMetH Tryd.prog laid08 w) false (World.doorLaid Tryd.prog 400 os) #[.slice none 0 0] 8 rfl (World.shaped_of_RefB (by kernel_rfl) (by kernel_rfl)) (by kernel_rfl) (by kernel_rfl) (by kernel_rfl) (door_met08 os _)) ?_
  intro W base args ds p hval hA hsz hL
  obtain ⟨v0, vs0, d0, ds0, p0, q0, hargs, rfl, rfl, h0, r0⟩ := trodAll_cons hA
  obtain ⟨rfl, rfl, rfl⟩ := trodAll_nil r0
  obtain rfl : args = #[v0] := by cases args; simp_all
  obtain ⟨a0, n0, c0, z0, rfl, s0, nn0⟩ := open_slr Tryd.underlying35 Tryd.underlying3 cells_i (by rw [bytes_i]; omega) (hval 0 _ v0 rfl rfl) h0 (fun el spa hd => sized_slice hsz (j := 0) rfl (by rw [hd]; rfl) Tryd.underlying35)
  exact walk W (st_of_laid hL) a0 n0 c0 z0 s0

/-- THE ROW -/
theorem rowProved : Rows.FormatEncodesMadeSaid :=
  OpenClaim.holds_of_wide 4 Tryd.f4 rfl rfl rfl rfl rfl rfl rfl ⟨rfl, rfl, rfl, rfl, rfl⟩ rfl rfl rfl rfl rfl (by kernel_rfl) Tryd.func4 (by kernel_rfl)
    (of_decide_eq_true (by kernel_rfl)) (by unfold Func.isWrapper; first | (rw [if_pos (by decide +kernel)]; kernel_rfl) | (rw [if_neg (by decide +kernel)]; exact ⟨rfl, rfl⟩))
    (fun os started H enc _ => lifted os started H enc)
set_option maxRecDepth 100000 in
/-- THE STATEMENT: the card -/
theorem proved : Rows.FormatEncodesMadeCardSaid :=
  Claim7.holds_tied_plain_at .later [] [.data] true Rows.formatEncodesMadeCard.stood.harness false
    rowProved (fun _ h => by cases h) (by kernel_rfl) (fun _ h => by cases h) formatEncodesMade_row_tie rfl ⟨rfl, rfl⟩ (by kernel_rfl) rfl
    (fun f fn hf hfn => by
      obtain rfl : f = 4 := Option.some.inj ((show Tryd.prog.funcNamed "radiolink/radiolinklaw08.FormatEncodesMade" = some 4 by kernel_rfl).symm.trans hf) |>.symm
      obtain rfl : fn = Tryd.f4 := (Option.some.inj (Tryd.func4.symm.trans hfn)).symm
      exact ⟨by kernel_rfl, fun j t ht => by
        rw [Tryd.params4] at ht
        have hm : t ∈ [35] := by simpa using Array.mem_of_getElem? ht
        have hall : ([35].all fun u => !Tryd.prog.wantsStandIn u) = true := by kernel_rfl
        exact (show Tryd.prog.wantsStandIn t = false by simpa using List.all_eq_true.1 hall t hm)⟩)
    (by kernel_rfl)
#print axioms proved
end Go.Proofs.YtkhcfmnebflgkaaDoor.formatEncodesMade
