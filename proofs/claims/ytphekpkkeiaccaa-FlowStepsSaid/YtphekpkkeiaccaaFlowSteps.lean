/-
  FlowSteps: a prediction over two steps is that over one and then the other, in both directions. No condition.
-/
import Derived.Test.YtphekpkkeiaccaaFlAwake
import Derived.Test.YtphekpkkeiaccaaFlStepP
import Derived.Test.YtphekpkkeiaccaaRegion
import Derived.Test.YtphekpkkeiaccaaDiceHeader2
import Derived.Test.YtphekpkkeiaccaaLift
import Derived.Test.YtphekpkkeiaccaaRows
import Derived.Deep.DeepCutAuto
import Derived.Deep.QuietTactic
import Derived.BigQuiet
namespace Go.Proofs.Ytphekpkkeiaccaa.flowSteps
open Go Go.RowKit Go.ChangeShapes Go.WideShapes Go.ChangeAt

structure H3 (W : World) (kh kx kb : Nat) (h b : Hd) (sx fx : Int) : Prop where
  ph : W.heap[kh]? = some (.cells #[.int .i64 h.kind, .int .i64 h.tos, .int .i64 h.id, .int .i64 h.fixed, .int .i64 h.ttl, .int .i64 h.frm, .int .i64 h.to, .int .i64 h.fromPort, .int .i64 h.toPort, .int .i64 h.check, .int .i64 h.marker, .int .i64 h.type, .int .i64 h.seq, .int .i64 h.time, .int .i64 h.source] 23 (0, 0))
  px : W.heap[kx]? = some (.cells #[.int .i64 sx, .int .i64 fx] 26 (0, 0))
  pb : W.heap[kb]? = some (.cells #[.int .i64 b.kind, .int .i64 b.tos, .int .i64 b.id, .int .i64 b.fixed, .int .i64 b.ttl, .int .i64 b.frm, .int .i64 b.to, .int .i64 b.fromPort, .int .i64 b.toPort, .int .i64 b.check, .int .i64 b.marker, .int .i64 b.type, .int .i64 b.seq, .int .i64 b.time, .int .i64 b.source] 23 (0, 0))
theorem H3.below {w w' : World} {kh kx kb : Nat} {h b : Hd} {sx fx : Int} (p : H3 w kh kx kb h b sx fx) (hb : Below w.heap.size w w') : H3 w' kh kx kb h b sx fx :=
  ⟨(hb.block _ (lt_of_block p.ph)).trans p.ph, (hb.block _ (lt_of_block p.px)).trans p.px, (hb.block _ (lt_of_block p.pb)).trans p.pb⟩
theorem H3.drew {w : World} {kh kx kb : Nat} {h b : Hd} {sx fx : Int} (p : H3 w kh kx kb h b sx fx) : H3 w.drew kh kx kb h b sx fx := ⟨p.ph, p.px, p.pb⟩
theorem H3.rh {W : World} {kh kx kb : Nat} {h b : Hd} {sx fx : Int} (p : H3 W kh kx kb h b sx fx) : W.rangeAt kh 0 [.int .i64 h.kind, .int .i64 h.tos, .int .i64 h.id, .int .i64 h.fixed, .int .i64 h.ttl, .int .i64 h.frm, .int .i64 h.to, .int .i64 h.fromPort, .int .i64 h.toPort, .int .i64 h.check, .int .i64 h.marker, .int .i64 h.type, .int .i64 h.seq, .int .i64 h.time, .int .i64 h.source] := World.rangeAt_of_block p.ph 0 15
theorem H3.rx {W : World} {kh kx kb : Nat} {h b : Hd} {sx fx : Int} (p : H3 W kh kx kb h b sx fx) : W.rangeAt kx 0 [.int .i64 sx, .int .i64 fx] := World.rangeAt_of_block p.px 0 2
theorem H3.rb {W : World} {kh kx kb : Nat} {h b : Hd} {sx fx : Int} (p : H3 W kh kx kb h b sx fx) : W.rangeAt kb 0 [.int .i64 b.kind, .int .i64 b.tos, .int .i64 b.id, .int .i64 b.fixed, .int .i64 b.ttl, .int .i64 b.frm, .int .i64 b.to, .int .i64 b.fromPort, .int .i64 b.toPort, .int .i64 b.check, .int .i64 b.marker, .int .i64 b.type, .int .i64 b.seq, .int .i64 b.time, .int .i64 b.source] := World.rangeAt_of_block p.pb 0 15
theorem info_hd : (Try.prog.info? 23).map (·.size) = some 15 := by kernel_rfl
theorem info_dyn : (Try.prog.info? 26).map (·.size) = some 2 := by kernel_rfl

set_option maxRecDepth 100000 in
set_option maxHeartbeats 12800000 in
theorem walk2 (w : World) (a0 : Option Addr) (n cap : Nat) (t : List Int) (hs : Sl .i64 w a0 n t) (n0 n1 : Int) (bn0 : -9223372036854775808 ≤ n0 ∧ n0 ≤ 9223372036854775807) (bn1 : -9223372036854775808 ≤ n1 ∧ n1 ≤ 9223372036854775807) :
    Calls Try.prog 6 #[.slice a0 n cap, .agg #[.int .i64 n0, .int .i64 n1]] w fun e w' => e = .returned (.bool true) ∧ Below w.heap.size w w' := by
  have hr := hs.reach
  have AW := Lib.hid awake_any
  have Hs := Lib.hid (hs.alloc (.cells #[.int .i64 n0, .int .i64 n1] 47))
  have BW := Lib.hid ((Below.refl w.heap.size w).alloc (Nat.le_refl _) (.cells #[.int .i64 n0, .int .i64 n1] 47))
  have KN := Lib.hid (heap_alloc_new w (.cells #[.int .i64 n0, .int .i64 n1] 47))
  have hgb : w.heap.size ≤ (w.alloc (.cells #[.int .i64 n0, .int .i64 n1] 47)).heap.size := by simp
  clear hs
  by_cases hn : n ≤ 400
  · have hd : decide (n ≤ 400) = true := decide_eq_true hn
    go_enter Try.func6, Try.ntmps6
    go_wp2_with (go_at_call 21; refine (light_any _ _ _ _ (by omega)).mono ?_; rintro e w' ⟨rfl, rfl⟩)
    generalize w.alloc (.cells #[.int .i64 n0, .int .i64 n1] 47) = W0 at Hs BW KN hgb ⊢
    refine (roll_in a0 n cap t _ Hs.out).mono ?_
    rintro e w1 ⟨rfl, hd1, hb1, hz1⟩
    have D1 := Lib.hid hd1
    have B1 := Lib.hid (BW.out.trans (hb1.mono hgb))
    have K1 := Lib.hid ((hb1.block _ (lt_of_block KN.out)).trans KN.out)
    have hz1' : W0.heap.size < w1.heap.size := by omega
    have hgl : w.heap.size < W0.heap.size := lt_of_block KN.out
    clear hd1 hb1 hz1 hd Hs hr BW KN
    go_wp2_with fail
    refine (next_in W0.heap.size 4 _ D1.out (by omega) (by omega)).mono ?_
    rintro e w2 ⟨k, rfl, k0, k1, hd2, hg2⟩
    have D2 := Lib.hid hd2
    have B2 := Lib.hid (B1.out.trans (Below.of_but hg2 hgb (by omega)))
    have hz2 := Nat.lt_of_lt_of_le hz1' hg2.size
    have K2 := Lib.hid ((hg2.block _ (lt_of_block K1.out) (by simp; omega)).trans K1.out)
    clear hd2 hg2 K1 B1 D1 hz1'
    go_wp2_with fail
    refine (header_made W0.heap.size k _ D2.out k0 (by omega)).mono ?_
    rintro e w3 ⟨a, rfl, va, ma, hd3, hg3⟩
    have D3 := Lib.hid (hd3.alloc (.cells #[.int .i64 a.kind, .int .i64 a.tos, .int .i64 a.id, .int .i64 a.fixed, .int .i64 a.ttl, .int .i64 a.frm, .int .i64 a.to, .int .i64 a.fromPort, .int .i64 a.toPort, .int .i64 0, .int .i64 0, .int .i64 a.type, .int .i64 a.seq, .int .i64 a.time, .int .i64 a.source] 23))
    have B3 := Lib.hid ((B2.out.trans (Below.of_but hg3 hgb (by omega))).alloc (by have := hg3.size; omega) (.cells #[.int .i64 a.kind, .int .i64 a.tos, .int .i64 a.id, .int .i64 a.fixed, .int .i64 a.ttl, .int .i64 a.frm, .int .i64 a.to, .int .i64 a.fromPort, .int .i64 a.toPort, .int .i64 0, .int .i64 0, .int .i64 a.type, .int .i64 a.seq, .int .i64 a.time, .int .i64 a.source] 23))
    have hz3 : W0.heap.size < w3.heap.size := Nat.lt_of_lt_of_le hz2 hg3.size
    have K3 := Lib.hid ((heap_alloc_old w3 (.cells #[.int .i64 a.kind, .int .i64 a.tos, .int .i64 a.id, .int .i64 a.fixed, .int .i64 a.ttl, .int .i64 a.frm, .int .i64 a.to, .int .i64 a.fromPort, .int .i64 a.toPort, .int .i64 0, .int .i64 0, .int .i64 a.type, .int .i64 a.seq, .int .i64 a.time, .int .i64 a.source] 23) (Nat.lt_of_lt_of_le (lt_of_block K2.out) hg3.size)).trans ((hg3.block _ (lt_of_block K2.out) (by simp; omega)).trans K2.out))
    have KA := heap_alloc_new w3 (.cells #[.int .i64 a.kind, .int .i64 a.tos, .int .i64 a.id, .int .i64 a.fixed, .int .i64 a.ttl, .int .i64 a.frm, .int .i64 a.to, .int .i64 a.fromPort, .int .i64 a.toPort, .int .i64 0, .int .i64 0, .int .i64 a.type, .int .i64 a.seq, .int .i64 a.time, .int .i64 a.source] 23)
    have va' : (⟨a.kind, a.tos, a.id, a.fixed, a.ttl, a.frm, a.to, a.fromPort, a.toPort, 0, 0, a.type, a.seq, a.time, a.source⟩ : Hd).Valid := by
      refine validB_of ?_
      have y := validB_true va
      unfold validB at *
      have y := of_decide_eq_true y
      exact decide_eq_true (by dsimp only; omega)
    clear hd3 hg3 K2 B2 D2 hz2 ma
    go_upto_region 6 with fail
    generalize hW : w3.alloc (.cells #[.int .i64 a.kind, .int .i64 a.tos, .int .i64 a.id, .int .i64 a.fixed, .int .i64 a.ttl, .int .i64 a.frm, .int .i64 a.to, .int .i64 a.fromPort, .int .i64 a.toPort, .int .i64 0, .int .i64 0, .int .i64 a.type, .int .i64 a.seq, .int .i64 a.time, .int .i64 a.source] 23) = w4 at D3 B3 K3 KA ⊢
    have hz4 : W0.heap.size < w4.heap.size := by rw [← hW]; simp; omega
    clear hW
    obtain ⟨h, vh, hm, hc, hk, K4⟩ : ∃ h : Hd, h.Valid ∧ h.marker = 0 ∧ h.check = 0 ∧ h.kind = a.kind ∧ w4.heap[w3.heap.size]? = some (.cells #[.int .i64 h.kind, .int .i64 h.tos, .int .i64 h.id, .int .i64 h.fixed, .int .i64 h.ttl, .int .i64 h.frm, .int .i64 h.to, .int .i64 h.fromPort, .int .i64 h.toPort, .int .i64 h.check, .int .i64 h.marker, .int .i64 h.type, .int .i64 h.seq, .int .i64 h.time, .int .i64 h.source] 23 (0, 0)) := ⟨_, va', rfl, rfl, rfl, KA⟩
    clear KA va va' hk
    generalize w3.heap.size = ka at K4 hz3 ⊢
    have VH := Lib.hid vh
    clear vh
    have ch := cells_of K4
    replace K4 := Lib.hid K4
    go_wp2_with fail
    refine (dynamic_in W0.heap.size _ _ D3.out).mono ?_
    rintro e w5 ⟨s, f, rfl, hd5, hD5, hg5⟩
    have DY := Lib.hid (dynB_of hd5)
    have K5 := Lib.hid ((heap_alloc_old w5 (.cells #[.int .i64 s, .int .i64 f] 26) (Nat.lt_of_lt_of_le (lt_of_block K3.out) hg5.size)).trans ((hg5.block _ (lt_of_block K3.out) (by simp; omega)).trans K3.out))
    have H5 := Lib.hid ((heap_alloc_old w5 (.cells #[.int .i64 s, .int .i64 f] 26) (Nat.lt_of_lt_of_le (lt_of_block K4.out) hg5.size)).trans ((hg5.block _ (lt_of_block K4.out) (by simp; omega)).trans K4.out))
    have P5 := Lib.hid (heap_alloc_new w5 (.cells #[.int .i64 s, .int .i64 f] 26))
    have B5 := Lib.hid ((B3.out.trans (Below.of_but hg5 hgb (by omega))).alloc (by have := hg5.size; omega) (.cells #[.int .i64 s, .int .i64 f] 26))
    clear hd5 hD5 hg5 ch K3 K4 B3 D3 hz3 hz4
    go_upto_region 7 with fail
    generalize w5.alloc (.cells #[.int .i64 s, .int .i64 f] 26) = w6 at K5 H5 P5 B5 ⊢
    generalize w5.heap.size = kd at P5 ⊢
    have hi0 := Int.emod_nonneg n0 (show (2000 : Int) ≠ 0 by omega)
    have hi1 := Int.emod_lt_of_pos n0 (show (0 : Int) < 2000 by omega)
    have hj0 := Int.emod_nonneg n1 (show (2000 : Int) ≠ 0 by omega)
    have hj1 := Int.emod_lt_of_pos n1 (show (0 : Int) < 2000 by omega)
    have C0 := Lib.hid (fun W => mod_any n0 2000 W (by omega) (by omega) bn0.1 bn0.2)
    have C1 := Lib.hid (fun W => mod_any n1 2000 W (by omega) (by omega) bn1.1 bn1.2)
    generalize n0 % 2000 = m0 at hi0 hi1 C0
    generalize n1 % 2000 = m1 at hj0 hj1 C1
    obtain ⟨i, hi⟩ : ∃ i : Int, IntKind.i64.wrap (m0 - 1000) = i ∧ i = m0 - 1000 := ⟨_, IntWalk.i64_in _ ⟨by omega, by omega⟩, rfl⟩
    obtain ⟨j, hj⟩ : ∃ j : Int, IntKind.i64.wrap (m1 - 1000) = j ∧ j = m1 - 1000 := ⟨_, IntWalk.i64_in _ ⟨by omega, by omega⟩, rfl⟩
    have bi : -1000 ≤ i ∧ i ≤ 999 := by omega
    have bj : -1000 ≤ j ∧ j ≤ 1000 := by omega
    have wi := hi.1
    have wj := hj.1
    clear hi hj hi0 hi1 hj0 hj1
    have cn := cells_of K5.out
    go_quiet ((first
      | (go_at_call 29; with_reducible exact Calls.quiet_of_same ((C0.out _).mono (fun e w' h => ⟨h.1, h.2.symm⟩)))
      | (go_at_call 29; with_reducible exact Calls.quiet_of_same ((C1.out _).mono (fun e w' h => ⟨h.1, h.2.symm⟩)))))
    clear cn wi wj C0 C1
    have H6 := Lib.hid (show (w6.drewN nq).heap[ka]? = _ from H5.out)
    have P6 := Lib.hid (show (w6.drewN nq).heap[kd]? = _ from P5.out)
    have B6 := Lib.hid (below_drewN B5.out nq)
    generalize w6.drewN nq = w7 at H6 P6 B6 ⊢
    clear H5 P5 B5 K5
    have ca := cells_of H6.out
    have nb := numV_bd h
    have CN := Lib.hid (Number_any h)
    have E2 := pred_two (k := j) VH.out DY.out bi bj
    have E3 := pred_back (s := s) (f := f) VH.out DY.out bi hm hc
    have E4 := pred_number (s := s) (f := f) VH.out DY.out bi
    have VB := predH_valid (s := s) (f := f) (n := numV h + i) VH.out DY.out
    have CP := Lib.hid (fun W => Predict_any s f (numV h + i) h W VH.out.fits)
    have CP2 := Lib.hid (fun W => Predict_any s f (numV h + i + j) h W VH.out.fits)
    generalize predH s f h (numV h + i) = b at E2 E3 E4 VB CP
    have CP1 := Lib.hid (fun W => Predict_any s f (numV h + i + j) b W VB.fits)
    have CP3 := Lib.hid (fun W => Predict_any s f (numV h) b W VB.fits)
    have CV := Lib.hid (fun W => rValid_any b W VB.fits)
    have CB := Lib.hid (Number_any b)
    have CS := Lib.hid (fun W => refSigned_any 16 (numV h) (numV b) W)
    rw [E4] at CS
    rw [E3] at CP3
    rw [E2] at CP1
    rw [validB_true VB] at CV
    have X1 := eql_hd (predH s f h (numV h + i + j)) (predH s f h (numV h + i + j))
    have X2 := eql_hd h h
    rw [eqB_self] at X1 X2
    generalize predH s f h (numV h + i + j) = y at CP1 CP2 X1
    generalize numV b = m at CB CS
    generalize numV h = sn at CN CP CP1 CP2 CP3 CS nb
    clear E2 E3 E4 VB hm hc
    have hw1 : IntKind.i64.wrap (sn + i) = sn + i := IntWalk.i64_in _ ⟨by omega, by omega⟩
    have hw2 : IntKind.i64.wrap (sn + i + j) = sn + i + j := IntWalk.i64_in _ ⟨by omega, by omega⟩
    have hv1 := Lib.hid hw1
    have hv2 := Lib.hid hw2
    clear hw1 hw2
    go_upto_region 9 with (go_at_call 13; refine (CN.out _).mono ?_; rintro e w8 ⟨rfl, hb⟩; have H8 := Lib.hid ((hb.block _ (lt_of_block H6.out)).trans H6.out); have P8 := Lib.hid ((hb.block _ (lt_of_block P6.out)).trans P6.out); have B8 := Lib.hid (B6.out.trans (hb.mono B6.out.size)); clear hb ca)
    clear H6 P6 B6
    have ca := cells_of H8.out
    have cd := cells_of P8.out
    go_upto_region 10 with (go_at_call 17; refine (CP.out _).mono ?_; rintro e w9 ⟨rfl, hb⟩; have H9 := Lib.hid ((hb.block _ (lt_of_block H8.out)).trans H8.out); have P9 := Lib.hid ((hb.block _ (lt_of_block P8.out)).trans P8.out); have B9 := Lib.hid (B8.out.trans (hb.mono B8.out.size)); clear hb ca cd)
    have A0 := Lib.hid (show H3 (w9.alloc (.cells #[.int .i64 b.kind, .int .i64 b.tos, .int .i64 b.id, .int .i64 b.fixed, .int .i64 b.ttl, .int .i64 b.frm, .int .i64 b.to, .int .i64 b.fromPort, .int .i64 b.toPort, .int .i64 b.check, .int .i64 b.marker, .int .i64 b.type, .int .i64 b.seq, .int .i64 b.time, .int .i64 b.source] 23)) ka kd w9.heap.size h b s f from ⟨(heap_alloc_old _ _ (lt_of_block H9.out)).trans H9.out, (heap_alloc_old _ _ (lt_of_block P9.out)).trans P9.out, heap_alloc_new w9 _⟩)
    have B0 := Lib.hid (B9.out.alloc B9.out.size (.cells #[.int .i64 b.kind, .int .i64 b.tos, .int .i64 b.id, .int .i64 b.fixed, .int .i64 b.ttl, .int .i64 b.frm, .int .i64 b.to, .int .i64 b.fromPort, .int .i64 b.toPort, .int .i64 b.check, .int .i64 b.marker, .int .i64 b.type, .int .i64 b.seq, .int .i64 b.time, .int .i64 b.source] 23))
    clear H8 P8 B8 H9 P9 B9
    generalize w9.alloc (.cells #[.int .i64 b.kind, .int .i64 b.tos, .int .i64 b.id, .int .i64 b.fixed, .int .i64 b.ttl, .int .i64 b.frm, .int .i64 b.to, .int .i64 b.fromPort, .int .i64 b.toPort, .int .i64 b.check, .int .i64 b.marker, .int .i64 b.type, .int .i64 b.seq, .int .i64 b.time, .int .i64 b.source] 23) = w10 at A0 B0 ⊢
    generalize w9.heap.size = kb at A0 ⊢
    have hw1 := hv1.out
    have hw2 := hv2.out
    clear hv1 hv2
    as_aux_lemma =>
      refine wp_region_noPanic ?_
      refine wp_region_held_drew (S := (fun W => H3 W ka kd kb h b s f)) (by kernel_rfl) A0.out.drew (fun hHeld => ?_)
      refine wpAnyH_ready (rs := [0]) (by kernel_rfl) (by simp) ?_
      refine AllReadyH.cons rfl (fun K hK => ?_) AllReadyH.nil
      go_simp
      go_at_call 8
      refine (AW.out _).mono ?_; rintro e v1 ⟨rfl, hb⟩; have A1 := Lib.hid (A0.out.drew.below hb); have B1 := Lib.hid (B0.out.drew.trans (hb.mono B0.out.drew.size)); clear hb A0 B0
      refine hK.out _ _ (A1.out) (fun hHeld => ?_)
      clear hK K
      as_aux_lemma =>
        refine take_lit (i := 1) (v := (.bool true)) 45 rfl rfl (by kernel_rfl) (by kernel_rfl) (by kernel_rfl) (fun _ _ _ h => h) (Or.inl ⟨by rfl, fun w hSw => by go_simp⟩) (by assumption) ?_
        simp only [Act.put, List.setIfInBounds_toArray, List.set_cons_zero, List.set_cons_succ]
        refine take_lit (i := 2) (v := (.agg #[.int .i64 b.kind, .int .i64 b.tos, .int .i64 b.id, .int .i64 b.fixed, .int .i64 b.ttl, .int .i64 b.frm, .int .i64 b.to, .int .i64 b.fromPort, .int .i64 b.toPort, .int .i64 b.check, .int .i64 b.marker, .int .i64 b.type, .int .i64 b.seq, .int .i64 b.time, .int .i64 b.source])) 46 rfl rfl (by kernel_rfl) (by kernel_rfl) (by kernel_rfl) (fun _ _ _ h => h) (yieldsIf_load_mid (by rfl) _ _ rfl _ _ rfl _ _ (fun W p => H3.rb p) Try.underlying23 rfl info_hd) (by assumption) ?_
        simp only [Act.put, List.setIfInBounds_toArray, List.set_cons_zero, List.set_cons_succ]
        refine wpAnyH_ready (rs := [3]) (by kernel_rfl) (by simp) ?_
        refine AllReadyH.cons rfl (fun K hK => ?_) AllReadyH.nil
        go_simp
        go_at_call 31
        refine (CV.out _).mono ?_; rintro e v2 ⟨rfl, hb⟩; have A2 := Lib.hid (A1.out.below hb); have B2 := Lib.hid (B1.out.trans (hb.mono B1.out.size)); clear hb A1 B1
        refine hK.out _ _ (A2.out) (fun hHeld => ?_)
        clear hK K
        as_aux_lemma =>
          refine take_lit (i := 4) (v := (.bool true)) 48 rfl rfl (by kernel_rfl) (by kernel_rfl) (by kernel_rfl) (fun _ _ _ h => h) (Or.inl ⟨by rfl, fun w hSw => by go_simp⟩) (by assumption) ?_
          simp only [Act.put, List.setIfInBounds_toArray, List.set_cons_zero, List.set_cons_succ]
          refine take_lit (i := 5) (v := (.bool true)) 49 rfl rfl (by kernel_rfl) (by kernel_rfl) (by kernel_rfl) (fun _ _ _ h => h) (Or.inl ⟨by rfl, fun w hSw => by go_simp⟩) (by assumption) ?_
          simp only [Act.put, List.setIfInBounds_toArray, List.set_cons_zero, List.set_cons_succ]
          refine take_lit (i := 6) (v := (.agg #[.int .i64 s, .int .i64 f])) 50 rfl rfl (by kernel_rfl) (by kernel_rfl) (by kernel_rfl) (fun _ _ _ h => h) (yieldsIf_load_mid (by rfl) _ _ rfl _ _ rfl _ _ (fun W p => H3.rx p) Try.underlying26 rfl info_dyn) (by assumption) ?_
          simp only [Act.put, List.setIfInBounds_toArray, List.set_cons_zero, List.set_cons_succ]
          refine take_lit (i := 7) (v := (.agg #[.int .i64 b.kind, .int .i64 b.tos, .int .i64 b.id, .int .i64 b.fixed, .int .i64 b.ttl, .int .i64 b.frm, .int .i64 b.to, .int .i64 b.fromPort, .int .i64 b.toPort, .int .i64 b.check, .int .i64 b.marker, .int .i64 b.type, .int .i64 b.seq, .int .i64 b.time, .int .i64 b.source])) 51 rfl rfl (by kernel_rfl) (by kernel_rfl) (by kernel_rfl) (fun _ _ _ h => h) (yieldsIf_load_mid (by rfl) _ _ rfl _ _ rfl _ _ (fun W p => H3.rb p) Try.underlying23 rfl info_hd) (by assumption) ?_
          simp only [Act.put, List.setIfInBounds_toArray, List.set_cons_zero, List.set_cons_succ]
          refine take_lit (i := 8) (v := (.int .i64 (sn))) 52 rfl rfl (by kernel_rfl) (by kernel_rfl) (by kernel_rfl) (fun _ _ _ h => h) (Or.inl ⟨by rfl, fun w hSw => by go_simp⟩) (by assumption) ?_
          simp only [Act.put, List.setIfInBounds_toArray, List.set_cons_zero, List.set_cons_succ]
          refine take_lit (i := 9) (v := (.int .i64 (i))) 53 rfl rfl (by kernel_rfl) (by kernel_rfl) (by kernel_rfl) (fun _ _ _ h => h) (Or.inl ⟨by rfl, fun w hSw => by go_simp⟩) (by assumption) ?_
          simp only [Act.put, List.setIfInBounds_toArray, List.set_cons_zero, List.set_cons_succ]
          refine take_lit (i := 10) (v := (.int .i64 (sn + i))) 54 rfl rfl (by kernel_rfl) (by kernel_rfl) (by kernel_rfl) (fun _ _ _ h => h) (Or.inl ⟨by rfl, fun w hSw => by go_simp⟩) (by assumption) ?_
          simp only [Act.put, List.setIfInBounds_toArray, List.set_cons_zero, List.set_cons_succ]
          refine take_lit (i := 11) (v := (.int .i64 (j))) 55 rfl rfl (by kernel_rfl) (by kernel_rfl) (by kernel_rfl) (fun _ _ _ h => h) (Or.inl ⟨by rfl, fun w hSw => by go_simp⟩) (by assumption) ?_
          simp only [Act.put, List.setIfInBounds_toArray, List.set_cons_zero, List.set_cons_succ]
          refine take_lit (i := 12) (v := (.int .i64 (sn + i + j))) 56 rfl rfl (by kernel_rfl) (by kernel_rfl) (by kernel_rfl) (fun _ _ _ h => h) (Or.inl ⟨by rfl, fun w hSw => by go_simp⟩) (by assumption) ?_
          simp only [Act.put, List.setIfInBounds_toArray, List.set_cons_zero, List.set_cons_succ]
          refine take_lit (i := 14) (v := (.agg #[.int .i64 s, .int .i64 f])) 58 rfl rfl (by kernel_rfl) (by kernel_rfl) (by kernel_rfl) (fun _ _ _ h => h) (yieldsIf_load_mid (by rfl) _ _ rfl _ _ rfl _ _ (fun W p => H3.rx p) Try.underlying26 rfl info_dyn) (by assumption) ?_
          simp only [Act.put, List.setIfInBounds_toArray, List.set_cons_zero, List.set_cons_succ]
          refine take_lit (i := 15) (v := (.agg #[.int .i64 h.kind, .int .i64 h.tos, .int .i64 h.id, .int .i64 h.fixed, .int .i64 h.ttl, .int .i64 h.frm, .int .i64 h.to, .int .i64 h.fromPort, .int .i64 h.toPort, .int .i64 h.check, .int .i64 h.marker, .int .i64 h.type, .int .i64 h.seq, .int .i64 h.time, .int .i64 h.source])) 59 rfl rfl (by kernel_rfl) (by kernel_rfl) (by kernel_rfl) (fun _ _ _ h => h) (yieldsIf_load_mid (by rfl) _ _ rfl _ _ rfl _ _ (fun W p => H3.rh p) Try.underlying23 rfl info_hd) (by assumption) ?_
          simp only [Act.put, List.setIfInBounds_toArray, List.set_cons_zero, List.set_cons_succ]
          refine take_lit (i := 16) (v := (.int .i64 (sn))) 60 rfl rfl (by kernel_rfl) (by kernel_rfl) (by kernel_rfl) (fun _ _ _ h => h) (Or.inl ⟨by rfl, fun w hSw => by go_simp⟩) (by assumption) ?_
          simp only [Act.put, List.setIfInBounds_toArray, List.set_cons_zero, List.set_cons_succ]
          refine take_lit (i := 17) (v := (.int .i64 (i))) 61 rfl rfl (by kernel_rfl) (by kernel_rfl) (by kernel_rfl) (fun _ _ _ h => h) (Or.inl ⟨by rfl, fun w hSw => by go_simp⟩) (by assumption) ?_
          simp only [Act.put, List.setIfInBounds_toArray, List.set_cons_zero, List.set_cons_succ]
          refine take_lit (i := 18) (v := (.int .i64 (sn + i))) 62 rfl rfl (by kernel_rfl) (by kernel_rfl) (by kernel_rfl) (fun _ _ _ h => h) (Or.inl ⟨by rfl, fun w hSw => by go_simp⟩) (by assumption) ?_
          simp only [Act.put, List.setIfInBounds_toArray, List.set_cons_zero, List.set_cons_succ]
          refine take_lit (i := 19) (v := (.int .i64 (j))) 63 rfl rfl (by kernel_rfl) (by kernel_rfl) (by kernel_rfl) (fun _ _ _ h => h) (Or.inl ⟨by rfl, fun w hSw => by go_simp⟩) (by assumption) ?_
          simp only [Act.put, List.setIfInBounds_toArray, List.set_cons_zero, List.set_cons_succ]
          refine take_lit (i := 20) (v := (.int .i64 (sn + i + j))) 64 rfl rfl (by kernel_rfl) (by kernel_rfl) (by kernel_rfl) (fun _ _ _ h => h) (Or.inl ⟨by rfl, fun w hSw => by go_simp⟩) (by assumption) ?_
          simp only [Act.put, List.setIfInBounds_toArray, List.set_cons_zero, List.set_cons_succ]
          refine wpAnyH_ready (rs := [13]) (by kernel_rfl) (by simp) ?_
          refine AllReadyH.cons rfl (fun K hK => ?_) AllReadyH.nil
          go_simp
          go_at_call 17
          refine (CP1.out _).mono ?_; rintro e v3 ⟨rfl, hb⟩; have A3 := Lib.hid (A2.out.below hb); have B3 := Lib.hid (B2.out.trans (hb.mono B2.out.size)); clear hb A2 B2
          refine hK.out _ _ (A3.out) (fun hHeld => ?_)
          clear hK K
          as_aux_lemma =>
            refine wpAnyH_ready (rs := [21]) (by kernel_rfl) (by simp) ?_
            refine AllReadyH.cons rfl (fun K hK => ?_) AllReadyH.nil
            go_simp
            go_at_call 17
            refine (CP2.out _).mono ?_; rintro e v4 ⟨rfl, hb⟩; have A4 := Lib.hid (A3.out.below hb); have B4 := Lib.hid (B3.out.trans (hb.mono B3.out.size)); clear hb A3 B3
            refine hK.out _ _ (A4.out) (fun hHeld => ?_)
            clear hK K
            as_aux_lemma =>
              refine take_lit (i := 22) (v := (.bool true)) 66 rfl rfl (by kernel_rfl) (by kernel_rfl) (by kernel_rfl) (fun _ _ _ h => h) (Or.inl ⟨by rfl, fun w hSw => by go_simp⟩) (by assumption) ?_
              simp only [Act.put, List.setIfInBounds_toArray, List.set_cons_zero, List.set_cons_succ]
              refine take_lit (i := 23) (v := (.bool true)) 67 rfl rfl (by kernel_rfl) (by kernel_rfl) (by kernel_rfl) (fun _ _ _ h => h) (Or.inl ⟨by rfl, fun w hSw => by go_simp⟩) (by assumption) ?_
              simp only [Act.put, List.setIfInBounds_toArray, List.set_cons_zero, List.set_cons_succ]
              refine take_lit (i := 24) (v := (.bool true)) 68 rfl rfl (by kernel_rfl) (by kernel_rfl) (by kernel_rfl) (fun _ _ _ h => h) (Or.inl ⟨by rfl, fun w hSw => by go_simp⟩) (by assumption) ?_
              simp only [Act.put, List.setIfInBounds_toArray, List.set_cons_zero, List.set_cons_succ]
              refine take_lit (i := 25) (v := (.agg #[.int .i64 s, .int .i64 f])) 69 rfl rfl (by kernel_rfl) (by kernel_rfl) (by kernel_rfl) (fun _ _ _ h => h) (yieldsIf_load_mid (by rfl) _ _ rfl _ _ rfl _ _ (fun W p => H3.rx p) Try.underlying26 rfl info_dyn) (by assumption) ?_
              simp only [Act.put, List.setIfInBounds_toArray, List.set_cons_zero, List.set_cons_succ]
              refine take_lit (i := 26) (v := (.agg #[.int .i64 b.kind, .int .i64 b.tos, .int .i64 b.id, .int .i64 b.fixed, .int .i64 b.ttl, .int .i64 b.frm, .int .i64 b.to, .int .i64 b.fromPort, .int .i64 b.toPort, .int .i64 b.check, .int .i64 b.marker, .int .i64 b.type, .int .i64 b.seq, .int .i64 b.time, .int .i64 b.source])) 70 rfl rfl (by kernel_rfl) (by kernel_rfl) (by kernel_rfl) (fun _ _ _ h => h) (yieldsIf_load_mid (by rfl) _ _ rfl _ _ rfl _ _ (fun W p => H3.rb p) Try.underlying23 rfl info_hd) (by assumption) ?_
              simp only [Act.put, List.setIfInBounds_toArray, List.set_cons_zero, List.set_cons_succ]
              refine take_lit (i := 27) (v := (.int .i64 (sn))) 71 rfl rfl (by kernel_rfl) (by kernel_rfl) (by kernel_rfl) (fun _ _ _ h => h) (Or.inl ⟨by rfl, fun w hSw => by go_simp⟩) (by assumption) ?_
              simp only [Act.put, List.setIfInBounds_toArray, List.set_cons_zero, List.set_cons_succ]
              refine take_lit (i := 29) (v := (.agg #[.int .i64 h.kind, .int .i64 h.tos, .int .i64 h.id, .int .i64 h.fixed, .int .i64 h.ttl, .int .i64 h.frm, .int .i64 h.to, .int .i64 h.fromPort, .int .i64 h.toPort, .int .i64 h.check, .int .i64 h.marker, .int .i64 h.type, .int .i64 h.seq, .int .i64 h.time, .int .i64 h.source])) 73 rfl rfl (by kernel_rfl) (by kernel_rfl) (by kernel_rfl) (fun _ _ _ h => h) (yieldsIf_load_mid (by rfl) _ _ rfl _ _ rfl _ _ (fun W p => H3.rh p) Try.underlying23 rfl info_hd) (by assumption) ?_
              simp only [Act.put, List.setIfInBounds_toArray, List.set_cons_zero, List.set_cons_succ]
              refine wpAnyH_ready (rs := [28]) (by kernel_rfl) (by simp) ?_
              refine AllReadyH.cons rfl (fun K hK => ?_) AllReadyH.nil
              go_simp
              go_at_call 17
              refine (CP3.out _).mono ?_; rintro e v5 ⟨rfl, hb⟩; have A5 := Lib.hid (A4.out.below hb); have B5 := Lib.hid (B4.out.trans (hb.mono B4.out.size)); clear hb A4 B4
              refine hK.out _ _ (A5.out) (fun hHeld => ?_)
              clear hK K
              as_aux_lemma =>
                refine take_lit (i := 30) (v := (.bool true)) 74 rfl rfl (by kernel_rfl) (by kernel_rfl) (by kernel_rfl) (fun _ _ _ h => h) (Or.inl ⟨by rfl, fun w hSw => by go_simp⟩) (by assumption) ?_
                simp only [Act.put, List.setIfInBounds_toArray, List.set_cons_zero, List.set_cons_succ]
                refine take_lit (i := 31) (v := (.bool true)) 75 rfl rfl (by kernel_rfl) (by kernel_rfl) (by kernel_rfl) (fun _ _ _ h => h) (Or.inl ⟨by rfl, fun w hSw => by go_simp⟩) (by assumption) ?_
                simp only [Act.put, List.setIfInBounds_toArray, List.set_cons_zero, List.set_cons_succ]
                refine take_lit (i := 32) (v := (.bool true)) 76 rfl rfl (by kernel_rfl) (by kernel_rfl) (by kernel_rfl) (fun _ _ _ h => h) (Or.inl ⟨by rfl, fun w hSw => by go_simp⟩) (by assumption) ?_
                simp only [Act.put, List.setIfInBounds_toArray, List.set_cons_zero, List.set_cons_succ]
                refine take_lit (i := 33) (v := (.int .i64 (sn))) 77 rfl rfl (by kernel_rfl) (by kernel_rfl) (by kernel_rfl) (fun _ _ _ h => h) (Or.inl ⟨by rfl, fun w hSw => by go_simp⟩) (by assumption) ?_
                simp only [Act.put, List.setIfInBounds_toArray, List.set_cons_zero, List.set_cons_succ]
                refine take_lit (i := 34) (v := (.agg #[.int .i64 b.kind, .int .i64 b.tos, .int .i64 b.id, .int .i64 b.fixed, .int .i64 b.ttl, .int .i64 b.frm, .int .i64 b.to, .int .i64 b.fromPort, .int .i64 b.toPort, .int .i64 b.check, .int .i64 b.marker, .int .i64 b.type, .int .i64 b.seq, .int .i64 b.time, .int .i64 b.source])) 78 rfl rfl (by kernel_rfl) (by kernel_rfl) (by kernel_rfl) (fun _ _ _ h => h) (yieldsIf_load_mid (by rfl) _ _ rfl _ _ rfl _ _ (fun W p => H3.rb p) Try.underlying23 rfl info_hd) (by assumption) ?_
                simp only [Act.put, List.setIfInBounds_toArray, List.set_cons_zero, List.set_cons_succ]
                refine take_lit (i := 37) (v := (.int .i64 (i))) 81 rfl rfl (by kernel_rfl) (by kernel_rfl) (by kernel_rfl) (fun _ _ _ h => h) (Or.inl ⟨by rfl, fun w hSw => by go_simp⟩) (by assumption) ?_
                simp only [Act.put, List.setIfInBounds_toArray, List.set_cons_zero, List.set_cons_succ]
                refine wpAnyH_ready (rs := [35]) (by kernel_rfl) (by simp) ?_
                refine AllReadyH.cons rfl (fun K hK => ?_) AllReadyH.nil
                go_simp
                go_at_call 13
                refine (CB.out _).mono ?_; rintro e v6 ⟨rfl, hb⟩; have A6 := Lib.hid (A5.out.below hb); have B6 := Lib.hid (B5.out.trans (hb.mono B5.out.size)); clear hb A5 B5
                refine hK.out _ _ (A6.out) (fun hHeld => ?_)
                clear hK K
                as_aux_lemma =>
                  refine wpAnyH_ready (rs := [36]) (by kernel_rfl) (by simp) ?_
                  refine AllReadyH.cons rfl (fun K hK => ?_) AllReadyH.nil
                  go_simp
                  go_at_call 32
                  refine (CS.out _).mono ?_; rintro e w' ⟨rfl, rfl⟩
                  refine hK.out _ _ (A6.out) (fun hHeld => ?_)
                  clear hK K
                  as_aux_lemma =>
                    refine take_lit (i := 38) (v := (.bool true)) 82 rfl rfl (by kernel_rfl) (by kernel_rfl) (by kernel_rfl) (fun _ _ _ h => h) (Or.inl ⟨by rfl, fun w hSw => by go_simp⟩) (by assumption) ?_
                    simp only [Act.put, List.setIfInBounds_toArray, List.set_cons_zero, List.set_cons_succ]
                    refine take_lit (i := 39) (v := (.bool true)) 83 rfl rfl (by kernel_rfl) (by kernel_rfl) (by kernel_rfl) (fun _ _ _ h => h) (Or.inl ⟨by rfl, fun w hSw => by go_simp⟩) (by assumption) ?_
                    simp only [Act.put, List.setIfInBounds_toArray, List.set_cons_zero, List.set_cons_succ]
                    refine take_lit (i := 40) (v := (.bool true)) 4 rfl rfl (by kernel_rfl) (by kernel_rfl) (by kernel_rfl) (fun _ _ _ h => h) (Or.inl ⟨by rfl, fun w hSw => by go_simp⟩) (by assumption) ?_
                    simp only [Act.put, List.setIfInBounds_toArray, List.set_cons_zero, List.set_cons_succ]
                    refine wpAnyH_done (by kernel_rfl) ?_ _
                    refine NoPanic.normal ?_
                    go_wp2
                    go_ret
                    exact ⟨rfl, B6.out⟩
  · have hd : decide (n ≤ 400) = false := decide_eq_false hn
    go_enter Try.func6, Try.ntmps6
    go_wp2_with (first
      | (go_at_call 21; refine (light_any _ _ _ _ (by omega)).mono ?_; rintro e w' ⟨rfl, rfl⟩)
      | (go_at_call 8; refine (AW.out _).mono ?_; rintro e w2 ⟨rfl, hb⟩; have B2 := Lib.hid (BW.out.trans (hb.mono (by simp))); clear hb)
      | fail)
    go_ret
    exact ⟨rfl, B2.out⟩

theorem walk (w : World) (a0 : Option Addr) (n cap : Nat) (t : List Int) (hs : Sl .i64 w a0 n t) (y : List Int) (l : y.length = 2) (hy : ∀ z ∈ y, (Lit.int .i64 z).wf = true) :
    Calls Try.prog 6 #[.slice a0 n cap, .agg (y.map (Value.int .i64)).toArray] w fun e w' => e = .returned (.bool true) ∧ Below w.heap.size w w' := by
  match y, l with
  | [n0, n1], _ => exact walk2 w a0 n cap t hs n0 n1 (wf_i64 (hy n0 (by simp))) (wf_i64 (hy n1 (by simp)))

theorem own : ownKnob Try.prog.godebug = none := by kernel_rfl
theorem laidOut : laidOutB Try.prog = true := by kernel_rfl
theorem read_ints : Try.prog.readableRec 35 = true := by kernel_rfl
theorem read_arr2 : Try.prog.readableRec 47 = true := by kernel_rfl
theorem cells_i : Try.prog.cellsOf 3 = 1 := by kernel_rfl
theorem bytes_i : Try.prog.bytesOf 3 = 8 := by kernel_rfl
theorem cells_a2 : Try.prog.cellsOf 47 = 2 := by kernel_rfl
theorem lt_ints : 35 < Try.prog.types.size := of_decide_eq_true (by kernel_rfl)
theorem lt_arr2 : 47 < Try.prog.types.size := of_decide_eq_true (by kernel_rfl)

set_option maxRecDepth 100000 in
theorem lifted (os : Os) (started : os.Started) (H : Type) (enc : TypeId × Value → H) :
    ReturnsInHanded {} Try.checked os 6 .any (Rows.flowStepsSpec.pre6 enc Try.prog Try.f6 Rows.flowStepsRow.domain false) (Rows.flowStepsSpec.post enc Try.prog Try.f6 false true false false) := by
  refine law_lifted (C := Try.checked) (rt := 4) [35, 47] own started (by kernel_rfl) Try.func6 laidOut (by rw [Try.params6])
    (fun t ht => by simp only [List.mem_cons, List.not_mem_nil, or_false] at ht; rcases ht with rfl | rfl <;> first | exact ⟨read_ints, lt_ints⟩ | exact ⟨read_arr2, lt_arr2⟩) rfl Try.underlying4 rfl
    (fun ds h => by match ds, h with | [d0, d1], _ => rfl)
    (ChangeSpec.witness6 (enc := enc) (C := Try.checked) false ⟨#[], #[.slice none 0 0, .agg #[.int .i64 0, .int .i64 0]], []⟩ 8 (by kernel_rfl) (by kernel_rfl) (by kernel_rfl) (by kernel_rfl)) ?_
  intro W base args ds p hval hA hsz
  obtain ⟨v0, vs0, d0, ds0, p0, q0, hargs, rfl, rfl, h0, r0⟩ := trodAll_cons hA
  obtain ⟨v1, vs1, d1, ds1, p1, q1, rfl, rfl, rfl, h1, r1⟩ := trodAll_cons r0
  obtain ⟨rfl, rfl, rfl⟩ := trodAll_nil r1
  obtain rfl : args = #[v0, v1] := by cases args; simp_all
  obtain ⟨a0, n0, c0, z0, rfl, s0, nn0⟩ := open_slr Try.underlying35 Try.underlying3 cells_i (by rw [bytes_i]; omega) (hval 0 _ v0 rfl rfl) h0 (fun el spa hd => sized_slice hsz (j := 0) rfl (by rw [hd]; rfl) Try.underlying35)
  obtain ⟨y1, rfl, l1, w1⟩ := open_arr Try.underlying47 Try.underlying3 cells_i cells_a2 (hval 1 _ v1 rfl rfl) h1
  exact walk W a0 n0 c0 z0 s0 y1 l1 w1

/-- THE STATEMENT -/
theorem proved : Rows.FlowStepsSaid :=
  OpenClaim.holds_of_wide 6 Try.f6 rfl rfl rfl rfl rfl rfl rfl ⟨rfl, rfl, rfl, rfl, rfl⟩ rfl rfl rfl rfl rfl (by kernel_rfl) Try.func6 (by kernel_rfl)
    (of_decide_eq_true (by kernel_rfl)) (by unfold Func.isWrapper; first | (rw [if_pos (by decide +kernel)]; kernel_rfl) | (rw [if_neg (by decide +kernel)]; exact ⟨rfl, rfl⟩))
    (fun os started H enc _ => lifted os started H enc)
#print axioms proved
end Go.Proofs.Ytphekpkkeiaccaa.flowSteps
