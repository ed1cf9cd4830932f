/-
  FormatEncodes: whatever the parts, the program's Valid and Encode answer as the document's do; true for every input.
-/
import Derived.Test.YtkhcfmnebflgkaaDoorFmAwake
import Derived.Test.YtkhcfmnebflgkaaDoorFmREnc
import Derived.Test.YtkhcfmnebflgkaaDoorFmLaid
import Derived.Test.YtkhcfmnebflgkaaDoorJBase
import Derived.Test.YtkhcfmnebflgkaaDoorTie
import Derived.Test.YtkhcfmnebflgkaaDoorCards
import Derived.SevenTiedAt
namespace Go.Proofs.YtkhcfmnebflgkaaDoor.formatEncodes
open Go Go.RowKit Go.ChangeShapes Go.WideShapes Go.ChangeAt

/-- what both Encodes leave -/
def EnR (s : Sm) (e : Ending) (w' : World) : Prop := ∃ a m cap r, e = .returned (.tuple #[.slice a m cap, .int .i64 r]) ∧ Sl .u8 w' a m (if smB s = true then encL s else []) ∧ r = (if smB s = true then 0 else 1)
theorem enc_both (s : Sm) (w : World) (hf : s.h.Fits) (hs : St w) (hin : s.pn ≤ 1500 → s.In w) :
    Calls Tryd.prog 10 #[(.agg #[.int .i64 s.ctx, .int .i64 s.fmt, .int .i64 s.num, .int .i64 s.time, .int .i64 s.mark, .int .i64 s.id, .int .i64 s.udp, .int .i64 s.h.kind, .int .i64 s.h.tos, .int .i64 s.h.id, .int .i64 s.h.fixed, .int .i64 s.h.ttl, .int .i64 s.h.frm, .int .i64 s.h.to, .int .i64 s.h.fromPort, .int .i64 s.h.toPort, .int .i64 s.h.check, .int .i64 s.h.marker, .int .i64 s.h.type, .int .i64 s.h.seq, .int .i64 s.h.time, .int .i64 s.h.source, .int .i64 s.ds, .int .i64 s.df, .int .i64 s.chk, .slice s.pa s.pn s.pc])] w fun e w' => EnR s e w' ∧ Below w.heap.size w w' := by
  cases v : smB s with
  | false => exact (enc_no s w hf v).mono fun e w' ⟨he, hb⟩ => ⟨⟨_, _, _, _, he, by rw [v]; exact ⟨rfl, by omega, by simp, fun i hi => by omega⟩, by rw [v]; rfl⟩, hb⟩
  | true => exact (enc_ok s w hf v hs (hin (ok_of v).pn)).mono fun e w' ⟨a, m, c, he, _, hm, hb⟩ => ⟨⟨_, _, _, _, he, by rw [v]; exact hm.sl, by rw [v]; rfl⟩, hb⟩
theorem renc_both (s : Sm) (w : World) (hf : s.h.Fits) (hin : s.pn ≤ 1500 → s.In w) :
    Calls Tryd.prog 11 #[(.agg #[.int .i64 s.ctx, .int .i64 s.fmt, .int .i64 s.num, .int .i64 s.time, .int .i64 s.mark, .int .i64 s.id, .int .i64 s.udp, .int .i64 s.h.kind, .int .i64 s.h.tos, .int .i64 s.h.id, .int .i64 s.h.fixed, .int .i64 s.h.ttl, .int .i64 s.h.frm, .int .i64 s.h.to, .int .i64 s.h.fromPort, .int .i64 s.h.toPort, .int .i64 s.h.check, .int .i64 s.h.marker, .int .i64 s.h.type, .int .i64 s.h.seq, .int .i64 s.h.time, .int .i64 s.h.source, .int .i64 s.ds, .int .i64 s.df, .int .i64 s.chk, .slice s.pa s.pn s.pc])] w fun e w' => EnR s e w' ∧ Below w.heap.size w w' := by
  cases v : smB s with
  | false => exact (rEnc_no s w hf v).mono fun e w' ⟨he, hb⟩ => ⟨⟨_, _, _, _, he, by rw [v]; exact ⟨rfl, by omega, by simp, fun i hi => by omega⟩, by rw [v]; rfl⟩, hb⟩
  | true => exact (rEnc_ok s w hf v (hin (ok_of v).pn)).mono fun e w' ⟨a, m, c, he, _, hm, hb⟩ => ⟨⟨_, _, _, _, he, by rw [v]; exact hm.sl, by rw [v]; rfl⟩, hb⟩

set_option maxRecDepth 100000 in
set_option maxHeartbeats 3200000 in
theorem any (w : World) (hst : St w) (s : Sm) (hf : s.h.Fits) (hin : s.pn ≤ 1500 → s.In w) :
    Calls Tryd.prog 3 #[(.agg #[.int .i64 s.ctx, .int .i64 s.fmt, .int .i64 s.num, .int .i64 s.time, .int .i64 s.mark, .int .i64 s.id, .int .i64 s.udp, .int .i64 s.h.kind, .int .i64 s.h.tos, .int .i64 s.h.id, .int .i64 s.h.fixed, .int .i64 s.h.ttl, .int .i64 s.h.frm, .int .i64 s.h.to, .int .i64 s.h.fromPort, .int .i64 s.h.toPort, .int .i64 s.h.check, .int .i64 s.h.marker, .int .i64 s.h.type, .int .i64 s.h.seq, .int .i64 s.h.time, .int .i64 s.h.source, .int .i64 s.ds, .int .i64 s.df, .int .i64 s.chk, .slice s.pa s.pn s.pc])] w fun e w' => e = .returned (.bool true) ∧ Below w.heap.size w w' := by
  have KA := Lib.hid (show Blk 28 _ _ _ from heap_alloc_new w (.cells #[.int .i64 s.ctx, .int .i64 s.fmt, .int .i64 s.num, .int .i64 s.time, .int .i64 s.mark, .int .i64 s.id, .int .i64 s.udp, .int .i64 s.h.kind, .int .i64 s.h.tos, .int .i64 s.h.id, .int .i64 s.h.fixed, .int .i64 s.h.ttl, .int .i64 s.h.frm, .int .i64 s.h.to, .int .i64 s.h.fromPort, .int .i64 s.h.toPort, .int .i64 s.h.check, .int .i64 s.h.marker, .int .i64 s.h.type, .int .i64 s.h.seq, .int .i64 s.h.time, .int .i64 s.h.source, .int .i64 s.ds, .int .i64 s.df, .int .i64 s.chk, .slice s.pa s.pn s.pc] 28))
  have BW := Lib.hid ((Below.refl w.heap.size w).alloc (Nat.le_refl _) (.cells #[.int .i64 s.ctx, .int .i64 s.fmt, .int .i64 s.num, .int .i64 s.time, .int .i64 s.mark, .int .i64 s.id, .int .i64 s.udp, .int .i64 s.h.kind, .int .i64 s.h.tos, .int .i64 s.h.id, .int .i64 s.h.fixed, .int .i64 s.h.ttl, .int .i64 s.h.frm, .int .i64 s.h.to, .int .i64 s.h.fromPort, .int .i64 s.h.toPort, .int .i64 s.h.check, .int .i64 s.h.marker, .int .i64 s.h.type, .int .i64 s.h.seq, .int .i64 s.h.time, .int .i64 s.h.source, .int .i64 s.ds, .int .i64 s.df, .int .i64 s.chk, .slice s.pa s.pn s.pc] 28))
  have HST := Lib.hid hst
  have HF := Lib.hid hf
  have HIN := Lib.hid (fun W (h : Below w.heap.size w W) (p : s.pn ≤ 1500) => (hin p).keep h)
  clear hst hf hin
  go_enter Tryd.func3, Tryd.ntmps3
  go_upto_region 1 with fail
  generalize hW1 : w.alloc (.cells #[.int .i64 s.ctx, .int .i64 s.fmt, .int .i64 s.num, .int .i64 s.time, .int .i64 s.mark, .int .i64 s.id, .int .i64 s.udp, .int .i64 s.h.kind, .int .i64 s.h.tos, .int .i64 s.h.id, .int .i64 s.h.fixed, .int .i64 s.h.ttl, .int .i64 s.h.frm, .int .i64 s.h.to, .int .i64 s.h.fromPort, .int .i64 s.h.toPort, .int .i64 s.h.check, .int .i64 s.h.marker, .int .i64 s.h.type, .int .i64 s.h.seq, .int .i64 s.h.time, .int .i64 s.h.source, .int .i64 s.ds, .int .i64 s.df, .int .i64 s.chk, .slice s.pa s.pn s.pc] 28) = W1 at KA BW ⊢
  clear hW1
  refine wp_region_lit ?_
  refine wpList_load_sm KA.out rfl _ rfl rfl ?_
  go_upto_region 2 with (first | (go_at_call 10; ((with_reducible refine (enc_both s W1 HF.out (HST.out.keep BW.out) (HIN.out _ BW.out)).mono ?_); rintro e W2 ⟨⟨a, m, c, r, rfl, sl, hr⟩, hb⟩; have S2 := Lib.hid sl; have K2 := Lib.hid (KA.out.keep hb); have B2 := Lib.hid (BW.out.trans (hb.mono BW.out.size)); have R2 := Lib.hid hr; clear sl hb hr KA BW)) | fail)
  refine wp_region_lit ?_
  refine wpList_load_sm K2.out rfl _ rfl rfl ?_
  go_upto_region 3 with (first | (go_at_call 11; ((with_reducible refine (renc_both s W2 HF.out (HIN.out _ B2.out)).mono ?_); rintro e W3 ⟨⟨a3, m3, c3, r3, rfl, sl, hr⟩, hb⟩; have S3 := Lib.hid sl; have T3 := Lib.hid (S2.out.keep hb); have K3 := Lib.hid (K2.out.keep hb); have B3 := Lib.hid (B2.out.trans (hb.mono B2.out.size)); have R3 := Lib.hid (R2.out.trans hr.symm); clear sl hb hr K2 B2 S2 R2)) | fail)

  obtain rfl := R3.out
  have P3 := Lib.hid (show Blk 28 W3.drew w.heap.size #[.int .i64 s.ctx, .int .i64 s.fmt, .int .i64 s.num, .int .i64 s.time, .int .i64 s.mark, .int .i64 s.id, .int .i64 s.udp, .int .i64 s.h.kind, .int .i64 s.h.tos, .int .i64 s.h.id, .int .i64 s.h.fixed, .int .i64 s.h.ttl, .int .i64 s.h.frm, .int .i64 s.h.to, .int .i64 s.h.fromPort, .int .i64 s.h.toPort, .int .i64 s.h.check, .int .i64 s.h.marker, .int .i64 s.h.type, .int .i64 s.h.seq, .int .i64 s.h.time, .int .i64 s.h.source, .int .i64 s.ds, .int .i64 s.df, .int .i64 s.chk, .slice s.pa s.pn s.pc] from K3.out)
  have C3 := Lib.hid (HST.out.keep B3.out.drew)
  have D3 := Lib.hid B3.out.drew
  have E3 := Lib.hid S3.out.drew
  have F3 := Lib.hid T3.out.drew
  have VV := Lib.hid (fun W => Valid08_any s W HF.out)
  have VR := Lib.hid (fun W => rSmall_any s W HF.out)
  clear K3 B3 S3 T3 R3
  generalize (if smB s = true then encL s else []) = zs at E3 F3
  generalize smB s = bv at VV VR
  refine wp_region_noPanic ?_
  refine wp_region_held_drew (S := fun W => Blk 28 W w.heap.size #[.int .i64 s.ctx, .int .i64 s.fmt, .int .i64 s.num, .int .i64 s.time, .int .i64 s.mark, .int .i64 s.id, .int .i64 s.udp, .int .i64 s.h.kind, .int .i64 s.h.tos, .int .i64 s.h.id, .int .i64 s.h.fixed, .int .i64 s.h.ttl, .int .i64 s.h.frm, .int .i64 s.h.to, .int .i64 s.h.fromPort, .int .i64 s.h.toPort, .int .i64 s.h.check, .int .i64 s.h.marker, .int .i64 s.h.type, .int .i64 s.h.seq, .int .i64 s.h.time, .int .i64 s.h.source, .int .i64 s.ds, .int .i64 s.df, .int .i64 s.chk, .slice s.pa s.pn s.pc]) (by kernel_rfl) P3.out (fun hHeld => ?_)
  generalize hW4 : W3.drew = W4 at P3 C3 D3 E3 F3 hHeld ⊢
  clear hW4
  refine wpAnyH_ready (rs := [0]) (by kernel_rfl) (by simp) ?_
  refine AllReadyH.cons rfl (fun K hK => ?_) AllReadyH.nil
  go_simp
  go_at_call 12
  with_reducible refine (awake08_any _ C3.out).mono ?_;   rintro e W4 ⟨rfl, hb⟩; have P4 := Lib.hid (P3.out.keep hb); have D4 := Lib.hid (D3.out.trans (hb.mono D3.out.size)); have E4 := Lib.hid (E3.out.keep hb); have F4 := Lib.hid (F3.out.keep hb); clear hb P3 D3 E3 F3
  refine hK.out _ _ (P4.out) (fun hHeld => ?_)
  clear hK K
  as_aux_lemma =>
    refine take_lit (i := 1) (v := .bool true) 18 rfl rfl (by kernel_rfl) (by kernel_rfl) (by kernel_rfl) (fun _ _ _ h => h) (Or.inl ⟨by rfl, fun w hSw => by go_simp⟩) (by assumption) ?_
    simp only [Act.put, List.setIfInBounds_toArray, List.set_cons_zero, List.set_cons_succ]
    refine take_lit (i := 2) (v := (.agg #[.int .i64 s.ctx, .int .i64 s.fmt, .int .i64 s.num, .int .i64 s.time, .int .i64 s.mark, .int .i64 s.id, .int .i64 s.udp, .int .i64 s.h.kind, .int .i64 s.h.tos, .int .i64 s.h.id, .int .i64 s.h.fixed, .int .i64 s.h.ttl, .int .i64 s.h.frm, .int .i64 s.h.to, .int .i64 s.h.fromPort, .int .i64 s.h.toPort, .int .i64 s.h.check, .int .i64 s.h.marker, .int .i64 s.h.type, .int .i64 s.h.seq, .int .i64 s.h.time, .int .i64 s.h.source, .int .i64 s.ds, .int .i64 s.df, .int .i64 s.chk, .slice s.pa s.pn s.pc])) 19 rfl rfl (by kernel_rfl) (by kernel_rfl) (by kernel_rfl) (fun _ _ _ h => h) (yieldsIf_load_mid (by rfl) _ _ rfl _ _ rfl _ _ (fun W q => sm_range q) Tryd.underlying28 rfl info_sm) (by assumption) ?_
    simp only [Act.put, List.setIfInBounds_toArray, List.set_cons_zero, List.set_cons_succ]
    refine take_lit (i := 4) (v := (.agg #[.int .i64 s.ctx, .int .i64 s.fmt, .int .i64 s.num, .int .i64 s.time, .int .i64 s.mark, .int .i64 s.id, .int .i64 s.udp, .int .i64 s.h.kind, .int .i64 s.h.tos, .int .i64 s.h.id, .int .i64 s.h.fixed, .int .i64 s.h.ttl, .int .i64 s.h.frm, .int .i64 s.h.to, .int .i64 s.h.fromPort, .int .i64 s.h.toPort, .int .i64 s.h.check, .int .i64 s.h.marker, .int .i64 s.h.type, .int .i64 s.h.seq, .int .i64 s.h.time, .int .i64 s.h.source, .int .i64 s.ds, .int .i64 s.df, .int .i64 s.chk, .slice s.pa s.pn s.pc])) 21 rfl rfl (by kernel_rfl) (by kernel_rfl) (by kernel_rfl) (fun _ _ _ h => h) (yieldsIf_load_mid (by rfl) _ _ rfl _ _ rfl _ _ (fun W q => sm_range q) Tryd.underlying28 rfl info_sm) (by assumption) ?_
    simp only [Act.put, List.setIfInBounds_toArray, List.set_cons_zero, List.set_cons_succ]
    refine wpAnyH_ready (rs := [3]) (by kernel_rfl) (by simp) ?_
    refine AllReadyH.cons rfl (fun K hK => ?_) AllReadyH.nil
    go_simp
    go_at_call 13
    with_reducible refine (VV.out _).mono ?_;   rintro e W5 ⟨rfl, hb⟩; have P5 := Lib.hid (P4.out.keep hb); have D5 := Lib.hid (D4.out.trans (hb.mono D4.out.size)); have E5 := Lib.hid (E4.out.keep hb); have F5 := Lib.hid (F4.out.keep hb); clear hb P4 D4 E4 F4
    refine hK.out _ _ (P5.out) (fun hHeld => ?_)
    clear hK K
    as_aux_lemma =>
      refine wpAnyH_ready (rs := [5]) (by kernel_rfl) (by simp) ?_
      refine AllReadyH.cons rfl (fun K hK => ?_) AllReadyH.nil
      go_simp
      go_at_call 14
      with_reducible refine (VR.out _).mono ?_;   rintro e W6 ⟨rfl, hb⟩; have P6 := Lib.hid (P5.out.keep hb); have D6 := Lib.hid (D5.out.trans (hb.mono D5.out.size)); have E6 := Lib.hid (E5.out.keep hb); have F6 := Lib.hid (F5.out.keep hb); clear hb P5 D5 E5 F5
      refine hK.out _ _ (P6.out) (fun hHeld => ?_)
      clear hK K
      as_aux_lemma =>
        refine take_lit (i := 6) (v := .bool true) 23 rfl rfl (by kernel_rfl) (by kernel_rfl) (by kernel_rfl) (fun _ _ _ h => h) (Or.inl ⟨by rfl, fun w hSw => by go_simp⟩) (by assumption) ?_
        simp only [Act.put, List.setIfInBounds_toArray, List.set_cons_zero, List.set_cons_succ]
        refine take_lit (i := 7) (v := .bool true) 24 rfl rfl (by kernel_rfl) (by kernel_rfl) (by kernel_rfl) (fun _ _ _ h => h) (Or.inl ⟨by rfl, fun w hSw => by go_simp⟩) (by assumption) ?_
        simp only [Act.put, List.setIfInBounds_toArray, List.set_cons_zero, List.set_cons_succ]
        refine take_lit (i := 8) (v := .bool true) 25 rfl rfl (by kernel_rfl) (by kernel_rfl) (by kernel_rfl) (fun _ _ _ h => h) (Or.inl ⟨by rfl, fun w hSw => by go_simp⟩) (by assumption) ?_
        simp only [Act.put, List.setIfInBounds_toArray, List.set_cons_zero, List.set_cons_succ]
        refine take_lit (i := 9) (v := .int .i64 r) 26 rfl rfl (by kernel_rfl) (by kernel_rfl) (by kernel_rfl) (fun _ _ _ h => h) (Or.inl ⟨by rfl, fun w hSw => by go_simp⟩) (by assumption) ?_
        simp only [Act.put, List.setIfInBounds_toArray, List.set_cons_zero, List.set_cons_succ]
        refine take_lit (i := 10) (v := .int .i64 r) 27 rfl rfl (by kernel_rfl) (by kernel_rfl) (by kernel_rfl) (fun _ _ _ h => h) (Or.inl ⟨by rfl, fun w hSw => by go_simp⟩) (by assumption) ?_
        simp only [Act.put, List.setIfInBounds_toArray, List.set_cons_zero, List.set_cons_succ]
        refine take_lit (i := 11) (v := .bool true) 28 rfl rfl (by kernel_rfl) (by kernel_rfl) (by kernel_rfl) (fun _ _ _ h => h) (Or.inl ⟨by rfl, fun w hSw => by go_simp⟩) (by assumption) ?_
        simp only [Act.put, List.setIfInBounds_toArray, List.set_cons_zero, List.set_cons_succ]
        refine take_lit (i := 12) (v := .bool true) 29 rfl rfl (by kernel_rfl) (by kernel_rfl) (by kernel_rfl) (fun _ _ _ h => h) (Or.inl ⟨by rfl, fun w hSw => by go_simp⟩) (by assumption) ?_
        simp only [Act.put, List.setIfInBounds_toArray, List.set_cons_zero, List.set_cons_succ]
        refine take_lit (i := 13) (v := .bool true) 30 rfl rfl (by kernel_rfl) (by kernel_rfl) (by kernel_rfl) (fun _ _ _ h => h) (Or.inl ⟨by rfl, fun w hSw => by go_simp⟩) (by assumption) ?_
        simp only [Act.put, List.setIfInBounds_toArray, List.set_cons_zero, List.set_cons_succ]
        refine take_lit (i := 14) (v := .slice a m c) 31 rfl rfl (by kernel_rfl) (by kernel_rfl) (by kernel_rfl) (fun _ _ _ h => h) (Or.inl ⟨by rfl, fun w hSw => by go_simp⟩) (by assumption) ?_
        simp only [Act.put, List.setIfInBounds_toArray, List.set_cons_zero, List.set_cons_succ]
        refine take_lit (i := 15) (v := .slice a3 m3 c3) 32 rfl rfl (by kernel_rfl) (by kernel_rfl) (by kernel_rfl) (fun _ _ _ h => h) (Or.inl ⟨by rfl, fun w hSw => by go_simp⟩) (by assumption) ?_
        simp only [Act.put, List.setIfInBounds_toArray, List.set_cons_zero, List.set_cons_succ]
        refine wpAnyH_ready (rs := [16]) (by kernel_rfl) (by simp) ?_
        refine AllReadyH.cons rfl (fun K hK => ?_) AllReadyH.nil
        go_simp
        go_at_call 15
        with_reducible refine (same_any _ _ _ _ _ _ _ _ _ F6.out E6.out).mono ?_;   rintro e W7 ⟨rfl, rfl⟩
        refine hK.out _ _ (P6.out) (fun hHeld => ?_)
        clear hK K
        as_aux_lemma =>
          refine take_lit (i := 17) (v := .bool true) 34 rfl rfl (by kernel_rfl) (by kernel_rfl) (by kernel_rfl) (fun _ _ _ h => h) (Or.inl ⟨by rfl, fun w hSw => by go_simp⟩) (by assumption) ?_
          simp only [Act.put, List.setIfInBounds_toArray, List.set_cons_zero, List.set_cons_succ]
          refine take_lit (i := 18) (v := .bool true) 2 rfl rfl (by kernel_rfl) (by kernel_rfl) (by kernel_rfl) (fun _ _ _ h => h) (Or.inl ⟨by rfl, fun w hSw => by go_simp⟩) (by assumption) ?_
          simp only [Act.put, List.setIfInBounds_toArray, List.set_cons_zero, List.set_cons_succ]
          refine wpAnyH_done (by kernel_rfl) ?_ _
          refine NoPanic.normal ?_
          go_wp2_with fail
          go_ret
          exact ⟨rfl, D6.out⟩

theorem walk (w : World) (hst : St w) (s : Sm) (hf : s.Fits) (hin : s.pn ≤ 1500 → s.In w) :
    Calls Tryd.prog 3 #[(.agg #[.int .i64 s.ctx, .int .i64 s.fmt, .int .i64 s.num, .int .i64 s.time, .int .i64 s.mark, .int .i64 s.id, .int .i64 s.udp, .int .i64 s.h.kind, .int .i64 s.h.tos, .int .i64 s.h.id, .int .i64 s.h.fixed, .int .i64 s.h.ttl, .int .i64 s.h.frm, .int .i64 s.h.to, .int .i64 s.h.fromPort, .int .i64 s.h.toPort, .int .i64 s.h.check, .int .i64 s.h.marker, .int .i64 s.h.type, .int .i64 s.h.seq, .int .i64 s.h.time, .int .i64 s.h.source, .int .i64 s.ds, .int .i64 s.df, .int .i64 s.chk, .slice s.pa s.pn s.pc])] w fun e w' => e = .returned (.bool true) ∧ Below w.heap.size w w' := any w hst s hf.h hin

theorem own : ownKnob Tryd.prog.godebug = none := by kernel_rfl
theorem laidOut : laidOutB Tryd.prog = true := by kernel_rfl
theorem read_sm : Tryd.prog.readableRec 28 = true := by kernel_rfl
theorem lt_sm : 28 < Tryd.prog.types.size := of_decide_eq_true (by kernel_rfl)

set_option maxRecDepth 100000 in
theorem lifted (os : Os) (started : os.Started) (H : Type) (enc : TypeId × Value → H) :
    ReturnsInHanded {} Tryd.checked os 3 .any (fun w args => (Rows.formatEncodesSpec.pre enc Tryd.prog Tryd.f3 [] false w args ∧ laidMetH Tryd.prog laid08 w) ∧ sizedMet enc Tryd.prog Tryd.f3 (OpenSpec.ofChange Rows.formatEncodesSpec) false w args) (Rows.formatEncodesSpec.post enc Tryd.prog Tryd.f3 false true false false) := by
  refine law_lifted_laid (laid := laid08) (C := Tryd.checked) (rt := 4) [28] own started (by kernel_rfl) Tryd.func3 laidOut (by rw [Tryd.params3])
    (fun t ht => by simp only [List.mem_cons, List.not_mem_nil, or_false] at ht; rcases ht with rfl <;> first | exact ⟨read_sm, lt_sm⟩) rfl Tryd.underlying4 rfl
    (fun ds h => by match ds, h with | [d0], _ => rfl)
    (ChangeSpec.witness_shaped (enc := enc) (C := Tryd.checked) (os := os) (X := fun w _ => laidMetH Tryd.prog laid08 w) false (World.doorLaid Tryd.prog 400 os) #[.agg #[.int .i64 0, .int .i64 0, .int .i64 0, .int .i64 0, .int .i64 0, .int .i64 0, .int .i64 0, .int .i64 0, .int .i64 0, .int .i64 0, .int .i64 0, .int .i64 0, .int .i64 0, .int .i64 0, .int .i64 0, .int .i64 0, .int .i64 0, .int .i64 0, .int .i64 0, .int .i64 0, .int .i64 0, .int .i64 0, .int .i64 0, .int .i64 0, .int .i64 0, .slice none 0 0]] 8 rfl (World.shaped_of_RefB (by kernel_rfl) (by kernel_rfl)) (by kernel_rfl) (by kernel_rfl) (by kernel_rfl) (door_met08 os _)) ?_
  intro W base args ds p hval hA hsz hL
  obtain ⟨v0, vs0, d0, ds0, p0, q0, hargs, rfl, rfl, h0, r0⟩ := trodAll_cons hA
  obtain ⟨rfl, rfl, rfl⟩ := trodAll_nil r0
  obtain rfl : args = #[v0] := by cases args; simp_all
  obtain ⟨s0, rfl, f0, in0⟩ := open_sm (hval 0 _ v0 rfl rfl) h0
  exact walk W (st_of_laid hL) s0 f0 in0

/-- THE ROW -/
theorem rowProved : Rows.FormatEncodesSaid :=
  OpenClaim.holds_of_wide 3 Tryd.f3 rfl rfl rfl rfl rfl rfl rfl ⟨rfl, rfl, rfl, rfl, rfl⟩ rfl rfl rfl rfl rfl (by kernel_rfl) Tryd.func3 (by kernel_rfl)
    (of_decide_eq_true (by kernel_rfl)) (by unfold Func.isWrapper; first | (rw [if_pos (by decide +kernel)]; kernel_rfl) | (rw [if_neg (by decide +kernel)]; exact ⟨rfl, rfl⟩))
    (fun os started H enc _ => lifted os started H enc)
set_option maxRecDepth 100000 in
/-- THE STATEMENT: the card -/
theorem proved : Rows.FormatEncodesCardSaid :=
  Claim7.holds_tied_plain_at .later [] [.data] true Rows.formatEncodesCard.stood.harness false
    rowProved (fun _ h => by cases h) (by kernel_rfl) (fun _ h => by cases h) formatEncodes_row_tie rfl ⟨rfl, rfl⟩ (by kernel_rfl) rfl
    (fun f fn hf hfn => by
      obtain rfl : f = 3 := Option.some.inj ((show Tryd.prog.funcNamed "radiolink/radiolinklaw08.FormatEncodes" = some 3 by kernel_rfl).symm.trans hf) |>.symm
      obtain rfl : fn = Tryd.f3 := (Option.some.inj (Tryd.func3.symm.trans hfn)).symm
      exact ⟨by kernel_rfl, fun j t ht => by
        rw [Tryd.params3] at ht
        have hm : t ∈ [28] := by simpa using Array.mem_of_getElem? ht
        have hall : ([28].all fun u => !Tryd.prog.wantsStandIn u) = true := by kernel_rfl
        exact (show Tryd.prog.wantsStandIn t = false by simpa using List.all_eq_true.1 hall t hm)⟩)
    (by kernel_rfl)
#print axioms proved
end Go.Proofs.YtkhcfmnebflgkaaDoor.formatEncodes
