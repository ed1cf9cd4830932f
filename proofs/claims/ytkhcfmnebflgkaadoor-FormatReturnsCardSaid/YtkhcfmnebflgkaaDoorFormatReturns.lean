/-
  FormatReturns: parts are decoded as they were encoded; true for every input.
-/
import Derived.Test.YtkhcfmnebflgkaaDoorFmAwake
import Derived.Test.YtkhcfmnebflgkaaDoorFmBack
import Derived.Test.YtkhcfmnebflgkaaDoorFmSame
import Derived.Test.YtkhcfmnebflgkaaDoorDiceSmall
import Derived.Deep.DeepCutAuto
import Derived.Test.YtkhcfmnebflgkaaDoorFmLaid
import Derived.Test.YtkhcfmnebflgkaaDoorJBase
import Derived.Test.YtkhcfmnebflgkaaDoorTie
import Derived.Test.YtkhcfmnebflgkaaDoorCards
import Derived.SevenTiedAt
namespace Go.Proofs.YtkhcfmnebflgkaaDoor.formatReturns
open Go Go.RowKit Go.ChangeShapes Go.WideShapes Go.ChangeAt

/-- what Decode gives back of encoded parts -/
theorem back_in {s : Sm} {w w' : World} {e : Ending} {c : Bool} (hv : smB s = true) (hp : s.pz.length = s.pn) (hc : s.fmt ≤ 3 → c = (s.udp != 0)) (h : DecR s.h.kind (encL s) c w e w') :
    ∃ a cap, e = .returned (.tuple #[(.agg #[.int .i64 s.ctx, .int .i64 s.fmt, .int .i64 s.num, .int .i64 s.time, .int .i64 s.mark, .int .i64 s.id, .int .i64 s.udp, .int .i64 s.h.kind, .int .i64 s.h.tos, .int .i64 s.h.id, .int .i64 s.h.fixed, .int .i64 s.h.ttl, .int .i64 s.h.frm, .int .i64 s.h.to, .int .i64 s.h.fromPort, .int .i64 s.h.toPort, .int .i64 s.h.check, .int .i64 s.h.marker, .int .i64 s.h.type, .int .i64 s.h.seq, .int .i64 s.h.time, .int .i64 s.h.source, .int .i64 s.ds, .int .i64 s.df, .int .i64 s.chk, .slice a s.pn cap]), .int .i64 0]) ∧ ({ s with pa := a, pc := cap } : Sm).In w' ∧ Below w.heap.size w w' := by
  obtain ⟨hb, h⟩ := h
  rw [if_pos (decE_enc hv hp c hc)] at h
  obtain ⟨a, cap, hn, hm, he⟩ := h
  have d := (decS_enc (ok_of hv) hp c hc none 0).1
  have d2 := (decS_enc (ok_of hv) hp c hc a cap).1
  rw [d] at hm
  exact ⟨a, cap, by rw [he, d2], ⟨hm.sl, hn, hm.le_cap⟩, hb⟩

set_option maxRecDepth 100000 in
set_option maxHeartbeats 64000000 in
theorem walk (w : World) (hst : St w) (a0 : Option Addr) (n cap : Nat) (t : List Int) (hs : Sl .i64 w a0 n t) :
    Calls Tryd.prog 7 #[.slice a0 n cap] w fun e w' => e = .returned (.bool true) ∧ Below w.heap.size w w' := by
  have hr := hs.reach
  have Hs := Lib.hid hs
  have HST := Lib.hid hst
  clear hs hst
  by_cases hn : n ≤ 400
  · have hd : decide (n ≤ 400) = true := decide_eq_true hn
    go_enter Tryd.func7, Tryd.ntmps7
    go_wp2_with (go_at_call 16; refine (light_any _ _ _ _ (by omega)).mono ?_; rintro e w' ⟨rfl, rfl⟩)
    refine (roll_in a0 n cap t _ Hs.out).mono ?_
    rintro e w1 ⟨rfl, hd1, hb1, hz1⟩
    have D1 := Lib.hid hd1
    have B1 := Lib.hid hb1
    have hz1' : w.heap.size < w1.heap.size := by omega
    clear hd1 hb1 hz1 hd Hs hr
    go_wp2_with fail
    refine (small_in _ w1 D1.out).mono ?_
    rintro e w2 ⟨s, rfl, hf, hv, hin, hd, hg⟩
    have B2 := Lib.hid (B1.out.trans (Below.of_row hg (fun g e => by rw [← Option.some.inj e]; exact Nat.le_refl _) (Nat.le_of_lt hz1')))
    have HF := Lib.hid hf
    have HV := Lib.hid hv
    have HI := Lib.hid hin
    have H2 := Lib.hid (HST.out.keep B2.out)
    clear hf hv hin hd hg D1 B1
    dsimp only
    refine ‹∀ (a : Act) (w : World), wpList _ _ _ _ a w → _› _ _ ?_
    refine wpList_run (.pointer (some ⟨w2.heap.size, 0, none⟩)) (w2.alloc (.cells #[.int .i64 0, .int .i64 0, .int .i64 0, .int .i64 0, .int .i64 0, .int .i64 0, .int .i64 0, .int .i64 0, .int .i64 0, .int .i64 0, .int .i64 0, .int .i64 0, .int .i64 0, .int .i64 0, .int .i64 0, .int .i64 0, .int .i64 0, .int .i64 0, .int .i64 0, .int .i64 0, .int .i64 0, .int .i64 0, .int .i64 0, .int .i64 0, .int .i64 0, .slice none 0 0] 28)) rfl (by kernel_rfl) ?_
    refine wpList_store_blk (n := 26) rfl rfl _ _ rfl rfl rfl (heap_alloc_new w2 _) rfl rfl info_sm (by simp [Value.oneCell']) ?_
    intro w3 K3 G3
    simp only [Act.put, List.setIfInBounds_toArray, List.set_cons_zero, List.set_cons_succ]
    have b3 : Below w2.heap.size w2 w3 := ((Below.refl w2.heap.size w2).alloc (Nat.le_refl _) _).trans (Below.of_row G3 (fun g e => by rw [← Option.some.inj e]; exact Nat.le_refl _) (by simp))
    have B3 := Lib.hid (B2.out.trans (b3.mono B2.out.size))
    have H3 := Lib.hid (H2.out.keep b3)
    have P3 : Hid (Blk 28 w3 w2.heap.size #[.int .i64 s.ctx, .int .i64 s.fmt, .int .i64 s.num, .int .i64 s.time, .int .i64 s.mark, .int .i64 s.id, .int .i64 s.udp, .int .i64 s.h.kind, .int .i64 s.h.tos, .int .i64 s.h.id, .int .i64 s.h.fixed, .int .i64 s.h.ttl, .int .i64 s.h.frm, .int .i64 s.h.to, .int .i64 s.h.fromPort, .int .i64 s.h.toPort, .int .i64 s.h.check, .int .i64 s.h.marker, .int .i64 s.h.type, .int .i64 s.h.seq, .int .i64 s.h.time, .int .i64 s.h.source, .int .i64 s.ds, .int .i64 s.df, .int .i64 s.chk, .slice s.pa s.pn s.pc]) := Lib.hid K3
    have I3 := Lib.hid (HI.out.keep b3)
    clear K3 G3 b3 B2 H2 HI
    generalize w2.heap.size = P at P3 ⊢
    have PE := Lib.hid (peek_enc (ok_of HV.out))
    go_upto_region 4 with fail
    refine wp_region_lit ?_
    refine wpList_load_sm P3.out rfl _ rfl rfl ?_
    go_wp2_with (first
      | (go_at_call 10; ((with_reducible refine (enc_ok s w3 HF.out HV.out H3.out I3.out).mono ?_); rintro e w4 ⟨a, m, c, rfl, hn, hm, hb⟩; have P4 := Lib.hid (P3.out.keep hb); have H4 := Lib.hid (H3.out.keep hb); have I4 := Lib.hid (I3.out.keep hb); have B4 := Lib.hid (B3.out.trans (hb.mono B3.out.size)); have S4 := Lib.hid hm.sl; have N4 := Lib.hid hn; have C4 := Lib.hid hm.le_cap; clear hm hb hn P3 H3 B3 I3))
      | (go_at_call 21; ((with_reducible refine (Peek_any a m c (encL s) w4 S4.out C4.out H4.out).mono ?_); rw [PE.out]; rintro e w5 ⟨rfl, kk, hk⟩; have hb : Below w4.heap.size w4 w5 := (by rw [hk]; exact below_drewN (Below.refl _ _) _); have P5 := Lib.hid (P4.out.keep hb); have H5 := Lib.hid (H4.out.keep hb); have I5 := Lib.hid (I4.out.keep hb); have S5 := Lib.hid (S4.out.keep hb); have B5 := Lib.hid (B4.out.trans (hb.mono B4.out.size)); have c5' := cells_of P5.out; clear hb hk P4 H4 I4 S4 B4))
      | fail)
    refine (Decode_any s.h.kind a m c (encL s) (s.udp != 0) w5 S5.out C4.out N4.out H5.out).mono ?_
    rintro e w6 h6
    obtain ⟨a5, k5, rfl, hin, hb⟩ := back_in HV.out I5.out.sl.len (fun _ => rfl) h6
    have P6 := Lib.hid (P5.out.keep hb)
    have H6 := Lib.hid (H5.out.keep hb)
    have I6 := Lib.hid (I5.out.keep hb)
    have X6 := Lib.hid hin
    have B6 := Lib.hid (B5.out.trans (hb.mono B5.out.size))
    clear h6 hb hin P5 H5 I5 S5 B5 c5' C4 N4
    dsimp only
    refine ‹∀ (a : Act) (w : World), wpList _ _ _ _ a w → _› _ _ ?_
    refine wpList_run (.tuple #[(.agg #[.int .i64 s.ctx, .int .i64 s.fmt, .int .i64 s.num, .int .i64 s.time, .int .i64 s.mark, .int .i64 s.id, .int .i64 s.udp, .int .i64 s.h.kind, .int .i64 s.h.tos, .int .i64 s.h.id, .int .i64 s.h.fixed, .int .i64 s.h.ttl, .int .i64 s.h.frm, .int .i64 s.h.to, .int .i64 s.h.fromPort, .int .i64 s.h.toPort, .int .i64 s.h.check, .int .i64 s.h.marker, .int .i64 s.h.type, .int .i64 s.h.seq, .int .i64 s.h.time, .int .i64 s.h.source, .int .i64 s.ds, .int .i64 s.df, .int .i64 s.chk, .slice a5 s.pn k5]), .int .i64 0]) w6 rfl (by kernel_rfl) ?_
    refine wpList_run (.agg #[.int .i64 s.ctx, .int .i64 s.fmt, .int .i64 s.num, .int .i64 s.time, .int .i64 s.mark, .int .i64 s.id, .int .i64 s.udp, .int .i64 s.h.kind, .int .i64 s.h.tos, .int .i64 s.h.id, .int .i64 s.h.fixed, .int .i64 s.h.ttl, .int .i64 s.h.frm, .int .i64 s.h.to, .int .i64 s.h.fromPort, .int .i64 s.h.toPort, .int .i64 s.h.check, .int .i64 s.h.marker, .int .i64 s.h.type, .int .i64 s.h.seq, .int .i64 s.h.time, .int .i64 s.h.source, .int .i64 s.ds, .int .i64 s.df, .int .i64 s.chk, .slice a5 s.pn k5]) w6 rfl (by kernel_rfl) ?_
    refine wpList_run (.int .i64 0) w6 rfl (by kernel_rfl) ?_
    refine wpList_run (.pointer (some ⟨w6.heap.size, 0, none⟩)) (w6.alloc (.cells #[.int .i64 0, .int .i64 0, .int .i64 0, .int .i64 0, .int .i64 0, .int .i64 0, .int .i64 0, .int .i64 0, .int .i64 0, .int .i64 0, .int .i64 0, .int .i64 0, .int .i64 0, .int .i64 0, .int .i64 0, .int .i64 0, .int .i64 0, .int .i64 0, .int .i64 0, .int .i64 0, .int .i64 0, .int .i64 0, .int .i64 0, .int .i64 0, .int .i64 0, .slice none 0 0] 28)) rfl (by kernel_rfl) ?_
    refine wpList_store_blk (n := 26) rfl rfl _ _ rfl rfl rfl (heap_alloc_new w6 _) rfl rfl info_sm (by simp [Value.oneCell']) ?_
    intro w7 K7 G7
    refine wpList_run (.int .i64 0) w7 rfl (by kernel_rfl) ?_
    simp only [Act.put, List.setIfInBounds_toArray, List.set_cons_zero, List.set_cons_succ]
    have b7 : Below w6.heap.size w6 w7 := ((Below.refl w6.heap.size w6).alloc (Nat.le_refl _) _).trans (Below.of_row G7 (fun g e => by rw [← Option.some.inj e]; exact Nat.le_refl _) (by simp))
    have B7 := Lib.hid (B6.out.trans (b7.mono B6.out.size))
    have H7 := Lib.hid (H6.out.keep b7)
    have P7 := Lib.hid (P6.out.keep b7)
    have Q7 : Hid (Blk 28 w7 w6.heap.size #[.int .i64 s.ctx, .int .i64 s.fmt, .int .i64 s.num, .int .i64 s.time, .int .i64 s.mark, .int .i64 s.id, .int .i64 s.udp, .int .i64 s.h.kind, .int .i64 s.h.tos, .int .i64 s.h.id, .int .i64 s.h.fixed, .int .i64 s.h.ttl, .int .i64 s.h.frm, .int .i64 s.h.to, .int .i64 s.h.fromPort, .int .i64 s.h.toPort, .int .i64 s.h.check, .int .i64 s.h.marker, .int .i64 s.h.type, .int .i64 s.h.seq, .int .i64 s.h.time, .int .i64 s.h.source, .int .i64 s.ds, .int .i64 s.df, .int .i64 s.chk, .slice a5 s.pn k5]) := Lib.hid K7
    have I7 := Lib.hid (I6.out.keep b7)
    have X7 := Lib.hid (X6.out.keep b7)
    clear K7 G7 b7 B6 H6 P6 I6 X6
    generalize w6.heap.size = Q at Q7 ⊢
    have SM := Lib.hid (fun W (x : ({ s with pa := a5, pc := k5 } : Sm).In W) (y : s.In W) => rSame_eq { s with pa := a5, pc := k5 } s.pa s.pn s.pc W x y.sl)
    have VA := Lib.hid (fun W => Valid08_any s W HF.out)
    rw [HV.out] at VA
    have AK := Lib.hid (awake08_any w7 H7.out)
    clear H7 HF HV
    go_wp2_with (first
      | (go_at_call 12; ((with_reducible refine AK.out.mono ?_); rintro e w8 ⟨rfl, hb⟩; have P8 := Lib.hid (P7.out.keep hb); have Q8 := Lib.hid (Q7.out.keep hb); have I8 := Lib.hid (I7.out.keep hb); have X8 := Lib.hid (X7.out.keep hb); have B8 := Lib.hid (B7.out.trans (hb.mono B7.out.size)); clear hb AK P7 Q7 I7 X7 B7))
      | (refine wpList_unguard (by rfl) ?_; refine wpList_load_sm P8.out rfl _ rfl rfl ?_)
      | (go_at_call 13; ((with_reducible refine (VA.out w8).mono ?_); rintro e w9 ⟨rfl, hb⟩; have P9 := Lib.hid (P8.out.keep hb); have Q9 := Lib.hid (Q8.out.keep hb); have I9 := Lib.hid (I8.out.keep hb); have X9 := Lib.hid (X8.out.keep hb); have B9 := Lib.hid (B8.out.trans (hb.mono B8.out.size)); have c9 := cells_of P9.out; clear hb VA P8 Q8 I8 X8 B8))
      | (refine wpList_unguard (by rfl) ?_; refine wpList_load_sm (s := { s with pa := a5, pc := k5 }) Q9.out rfl _ rfl rfl ?_)
      | (refine wpList_unguard (by rfl) ?_; refine wpList_load_sm P9.out rfl _ rfl rfl ?_)
      | (go_at_call 25; ((with_reducible refine (SM.out w9 X9.out I9.out).mono ?_); rintro e w10 ⟨rfl, hb⟩; have B10 := Lib.hid (B9.out.trans (hb.mono B9.out.size)); clear hb))
      | fail)
    go_ret
    exact ⟨rfl, B10.out⟩
  · have hd : decide (n ≤ 400) = false := decide_eq_false hn
    have AW := Lib.hid (awake08_any w HST.out)
    go_enter Tryd.func7, Tryd.ntmps7
    go_wp2_with (first
      | (go_at_call 16; refine (light_any _ _ _ _ (by omega)).mono ?_; rintro e w' ⟨rfl, rfl⟩)
      | (go_at_call 12; refine AW.out.mono ?_; rintro e w2 ⟨rfl, hb⟩; have B2 := Lib.hid hb; clear hb)
      | fail)
    go_ret
    exact ⟨rfl, B2.out⟩

theorem own : ownKnob Tryd.prog.godebug = none := by kernel_rfl
theorem laidOut : laidOutB Tryd.prog = true := by kernel_rfl
theorem read_ints : Tryd.prog.readableRec 35 = true := by kernel_rfl
theorem cells_i : Tryd.prog.cellsOf 3 = 1 := by kernel_rfl
theorem bytes_i : Tryd.prog.bytesOf 3 = 8 := by kernel_rfl
theorem lt_ints : 35 < Tryd.prog.types.size := of_decide_eq_true (by kernel_rfl)

set_option maxRecDepth 100000 in
theorem lifted (os : Os) (started : os.Started) (H : Type) (enc : TypeId × Value → H) :
    ReturnsInHanded {} Tryd.checked os 7 .any (fun w args => (Rows.formatReturnsSpec.pre enc Tryd.prog Tryd.f7 [] false w args ∧ laidMetH Tryd.prog laid08 w) ∧ sizedMet enc Tryd.prog Tryd.f7 (OpenSpec.ofChange Rows.formatReturnsSpec) false w args) (Rows.formatReturnsSpec.post enc Tryd.prog Tryd.f7 false true false false) := by
  refine law_lifted_laid (laid := laid08) (C := Tryd.checked) (rt := 4) [35] own started (by kernel_rfl) Tryd.func7 laidOut (by rw [Tryd.params7])
    (fun t ht => by simp only [List.mem_cons, List.not_mem_nil, or_false] at ht; rcases ht with rfl <;> first | exact ⟨read_ints, lt_ints⟩) rfl Tryd.underlying4 rfl
    (fun ds h => by match ds, h with | [d0], _ => rfl)
    (ChangeSpec.witness_shaped (enc := enc) (C := Tryd.checked) (os := os) (X := fun w _ => laidMetH Tryd.prog laid08 w) false (World.doorLaid Tryd.prog 400 os) #[.slice none 0 0] 8 rfl (World.shaped_of_RefB (by kernel_rfl) (by kernel_rfl)) (by kernel_rfl) (by kernel_rfl) (by kernel_rfl) (door_met08 os _)) ?_
  intro W base args ds p hval hA hsz hL
  obtain ⟨v0, vs0, d0, ds0, p0, q0, hargs, rfl, rfl, h0, r0⟩ := trodAll_cons hA
  obtain ⟨rfl, rfl, rfl⟩ := trodAll_nil r0
  obtain rfl : args = #[v0] := by cases args; simp_all
  obtain ⟨a0, n0, c0, z0, rfl, s0, nn0⟩ := open_slr Tryd.underlying35 Tryd.underlying3 cells_i (by rw [bytes_i]; omega) (hval 0 _ v0 rfl rfl) h0 (fun el spa hd => sized_slice hsz (j := 0) rfl (by rw [hd]; rfl) Tryd.underlying35)
  exact walk W (st_of_laid hL) a0 n0 c0 z0 s0

/-- THE ROW -/
theorem rowProved : Rows.FormatReturnsSaid :=
  OpenClaim.holds_of_wide 7 Tryd.f7 rfl rfl rfl rfl rfl rfl rfl ⟨rfl, rfl, rfl, rfl, rfl⟩ rfl rfl rfl rfl rfl (by kernel_rfl) Tryd.func7 (by kernel_rfl)
    (of_decide_eq_true (by kernel_rfl)) (by unfold Func.isWrapper; first | (rw [if_pos (by decide +kernel)]; kernel_rfl) | (rw [if_neg (by decide +kernel)]; exact ⟨rfl, rfl⟩))
    (fun os started H enc _ => lifted os started H enc)
set_option maxRecDepth 100000 in
/-- THE STATEMENT: the card -/
theorem proved : Rows.FormatReturnsCardSaid :=
  Claim7.holds_tied_plain_at .later [] [.data] true Rows.formatReturnsCard.stood.harness false
    rowProved (fun _ h => by cases h) (by kernel_rfl) (fun _ h => by cases h) formatReturns_row_tie rfl ⟨rfl, rfl⟩ (by kernel_rfl) rfl
    (fun f fn hf hfn => by
      obtain rfl : f = 7 := Option.some.inj ((show Tryd.prog.funcNamed "radiolink/radiolinklaw08.FormatReturns" = some 7 by kernel_rfl).symm.trans hf) |>.symm
      obtain rfl : fn = Tryd.f7 := (Option.some.inj (Tryd.func7.symm.trans hfn)).symm
      exact ⟨by kernel_rfl, fun j t ht => by
        rw [Tryd.params7] at ht
        have hm : t ∈ [35] := by simpa using Array.mem_of_getElem? ht
        have hall : ([35].all fun u => !Tryd.prog.wantsStandIn u) = true := by kernel_rfl
        exact (show Tryd.prog.wantsStandIn t = false by simpa using List.all_eq_true.1 hall t hm)⟩)
    (by kernel_rfl)
#print axioms proved
end Go.Proofs.YtkhcfmnebflgkaaDoor.formatReturns
