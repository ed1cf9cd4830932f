/-
  FormatOnce: whatever is decoded is encoded to the same bytes; true for every input.
-/
import Derived.Test.YtkhcfmnebflgkaaDoorFmAwake
import Derived.Test.YtkhcfmnebflgkaaDoorFmREnc
import Derived.Test.YtkhcfmnebflgkaaDoorFmBack
import Derived.Test.YtkhcfmnebflgkaaDoorFmRDecP
import Derived.Test.YtkhcfmnebflgkaaDoorDiceSmall
import Derived.Test.YtkhcfmnebflgkaaDoorDiceSpoil
import Derived.Test.YtkhcfmnebflgkaaDoorDiceApart
import Derived.Test.YtkhcfmnebflgkaaDoorJBase
import Derived.Deep.DeepCutAuto
import Derived.Test.YtkhcfmnebflgkaaDoorFmLaid
import Derived.Test.YtkhcfmnebflgkaaDoorTie
import Derived.Test.YtkhcfmnebflgkaaDoorCards
import Derived.SevenTiedAt
namespace Go.Proofs.YtkhcfmnebflgkaaDoor.formatOnce
open Go Go.RowKit Go.ChangeShapes Go.WideShapes Go.ChangeAt

theorem encL_size {s : Sm} (v : OkS s) (hp : s.pz.length = s.pn) : 1 ≤ (encL s).length ∧ (encL s).length ≤ 4000 := by
  have h := encH_hlen v
  have hn := v.pn
  have b : 1 ≤ hlen s.fmt s.h.kind ∧ hlen s.fmt s.h.kind ≤ 33 := by
    unfold hlen
    (repeat' split) <;> omega
  unfold encL
  rw [List.length_append, List.length_append, List.length_append, h, hp]
  unfold ctxL ckL
  (repeat' split) <;> simp <;> omega
theorem once_ok {k : Int} {zs : List Int} {c : Bool} (h : decE k zs c = 0) : smB (decS k zs c none 0) = true ∧ encL (decS k zs c none 0) = zs := by
  unfold decE at h
  by_cases h1 : (peekV zs).2.2 ≠ 0
  · rw [if_pos h1] at h; exact absurd h h1
  rw [if_neg h1] at h
  by_cases h2 : (kindV (decR zs) (decF zs) k).2 ≠ 0
  · rw [if_pos h2] at h; exact absurd h h2
  rw [if_neg h2] at h
  by_cases h3 : ¬ decD k zs c ≤ (decR zs).length
  · rw [if_pos h3] at h; cases h
  rw [if_neg h3] at h
  by_cases h4 : smB (decS k zs c none 0) = true ∧ encL (decS k zs c none 0) = zs
  · exact h4
  · rw [if_neg h4] at h; cases h
/-- what Decode gives, error or not -/
theorem dec_once {k : Int} {zs : List Int} {c : Bool} {w w' : World} {e : Ending} (hz : Bytes zs) (h : DecR k zs c w e w') : ∃ (s : Sm) (er : Int), e = .returned (.tuple #[(.agg #[.int .i64 s.ctx, .int .i64 s.fmt, .int .i64 s.num, .int .i64 s.time, .int .i64 s.mark, .int .i64 s.id, .int .i64 s.udp, .int .i64 s.h.kind, .int .i64 s.h.tos, .int .i64 s.h.id, .int .i64 s.h.fixed, .int .i64 s.h.ttl, .int .i64 s.h.frm, .int .i64 s.h.to, .int .i64 s.h.fromPort, .int .i64 s.h.toPort, .int .i64 s.h.check, .int .i64 s.h.marker, .int .i64 s.h.type, .int .i64 s.h.seq, .int .i64 s.h.time, .int .i64 s.h.source, .int .i64 s.ds, .int .i64 s.df, .int .i64 s.chk, .slice s.pa s.pn s.pc]), .int .i64 er]) ∧ Below w.heap.size w w' ∧ (er = 0 → s.h.Fits ∧ smB s = true ∧ encL s = zs ∧ s.In w') := by
  obtain ⟨hb, h⟩ := h
  by_cases he : decE k zs c = 0
  · rw [if_pos he] at h
    obtain ⟨a, cap, hn, hm, rfl⟩ := h
    obtain ⟨o1, o2⟩ := once_ok he
    refine ⟨decS k zs c a cap, 0, rfl, hb, fun _ => ⟨decS_fits k zs c a cap (fun i => ?_), o1, o2, ⟨hm.sl, hn, hm.le_cap⟩⟩⟩
    unfold decR restL
    split
    · rw [drop_getD]; exact hz _
    · exact hz _
  · rw [if_neg he] at h
    exact ⟨zeroS, decE k zs c, h, hb, fun e0 => absurd e0 he⟩
/-- what stands in a round -/
structure OnS (w W : World) (g : Nat) (pa : Option Addr) (pn : Nat) (pz : List Int) (qa : Option Addr) (qn : Nat) (qz : List Int) (B pc qc : Nat) : Prop where
  k : Blk 52 W B #[.slice pa pn pc, .slice qa qn qc]
  hB : g < B
  d : DiceIn W g
  t : St W
  p : Sl .u8 W pa pn pz
  q : Sl .u8 W qa qn qz
  b : Below w.heap.size w W
theorem OnS.keep {w W W' : World} {g : Nat} {pa : Option Addr} {pn : Nat} {pz : List Int} {qa : Option Addr} {qn : Nat} {qz : List Int} {B pc qc : Nat} (h : OnS w W g pa pn pz qa qn qz B pc qc) (hb : Below W.heap.size W W') : OnS w W' g pa pn pz qa qn qz B pc qc :=
  ⟨h.k.keep hb, h.hB, h.d.keep hb, h.t.keep hb, h.p.keep hb, h.q.keep hb, h.b.trans (hb.mono h.b.size)⟩
theorem OnS.roll {w W W' : World} {g : Nat} {pa : Option Addr} {pn : Nat} {pz : List Int} {qa : Option Addr} {qn : Nat} {qz : List Int} {B pc qc : Nat} (h : OnS w W g pa pn pz qa qn qz B pc qc) (hst : St w) (hg : w.heap.size ≤ g) (hd : DiceIn W' g) (hb : W.grownBy W' (some g)) : OnS w W' g pa pn pz qa qn qz B pc qc := by
  have b := h.b.trans (Below.of_row hb (fun k e => by rw [← Option.some.inj e]; exact hg) h.b.size)
  exact ⟨h.k.keepRow hb (fun e => by have := Option.some.inj e; have := h.hB; omega), h.hB, hd, hst.keep b, sl_roll h.p h.d hb, sl_roll h.q h.d hb, b⟩
theorem OnS.row {w W W' : World} {g : Nat} {pa : Option Addr} {pn : Nat} {pz : List Int} {qa : Option Addr} {qn : Nat} {qz : List Int} {B pc qc Q : Nat} {x : Sm} (h : OnS w W g pa pn pz qa qn qz B pc qc) (hst : St w) (hw : w.heap.size ≤ g) (hk : Blk 28 W Q #[.int .i64 x.ctx, .int .i64 x.fmt, .int .i64 x.num, .int .i64 x.time, .int .i64 x.mark, .int .i64 x.id, .int .i64 x.udp, .int .i64 x.h.kind, .int .i64 x.h.tos, .int .i64 x.h.id, .int .i64 x.h.fixed, .int .i64 x.h.ttl, .int .i64 x.h.frm, .int .i64 x.h.to, .int .i64 x.h.fromPort, .int .i64 x.h.toPort, .int .i64 x.h.check, .int .i64 x.h.marker, .int .i64 x.h.type, .int .i64 x.h.seq, .int .i64 x.h.time, .int .i64 x.h.source, .int .i64 x.ds, .int .i64 x.df, .int .i64 x.chk, .slice x.pa x.pn x.pc]) (hQ : B < Q) (hb : W.grownBy W' (some Q)) : OnS w W' g pa pn pz qa qn qz B pc qc := by
  have hg := h.hB
  have b := h.b.trans (Below.of_row hb (fun k e => by rw [← Option.some.inj e]; omega) h.b.size)
  exact ⟨h.k.keepRow hb (fun e => by have := Option.some.inj e; omega), hg, h.d.keepRow hb (fun k e => by rw [← Option.some.inj e]; omega), hst.keep b, h.p.keepRow hb (fun y hy hn e => small_apart hk h.p y hy hn (Option.some.inj e)), h.q.keepRow hb (fun y hy hn e => small_apart hk h.q y hy hn (Option.some.inj e)), b⟩
/-- what is known of decoded parts -/
def Onc (x : Sm) (er : Int) (zs : List Int) (W : World) : Prop := er = 0 → x.h.Fits ∧ smB x = true ∧ encL x = zs ∧ x.In W
theorem Onc.keep {x : Sm} {er : Int} {zs : List Int} {W W' : World} (h : Onc x er zs W) (hb : Below W.heap.size W W') : Onc x er zs W' := fun e => ⟨(h e).1, (h e).2.1, (h e).2.2.1, (h e).2.2.2.keep hb⟩
theorem Onc.put {x y : Sm} {er : Int} {zs : List Int} {W W' : World} {Q : Nat} (h : Onc x er zs W) (hk : Blk 28 W Q #[.int .i64 y.ctx, .int .i64 y.fmt, .int .i64 y.num, .int .i64 y.time, .int .i64 y.mark, .int .i64 y.id, .int .i64 y.udp, .int .i64 y.h.kind, .int .i64 y.h.tos, .int .i64 y.h.id, .int .i64 y.h.fixed, .int .i64 y.h.ttl, .int .i64 y.h.frm, .int .i64 y.h.to, .int .i64 y.h.fromPort, .int .i64 y.h.toPort, .int .i64 y.h.check, .int .i64 y.h.marker, .int .i64 y.h.type, .int .i64 y.h.seq, .int .i64 y.h.time, .int .i64 y.h.source, .int .i64 y.ds, .int .i64 y.df, .int .i64 y.chk, .slice y.pa y.pn y.pc]) (hb : W.grownBy W' (some Q)) : Onc x er zs W' := fun e => ⟨(h e).1, (h e).2.1, (h e).2.2.1, in_put (h e).2.2.2 hk hb⟩

set_option maxRecDepth 100000 in
set_option maxHeartbeats 64000000 in
theorem walk (w : World) (hst : St w) (pa : Option Addr) (pn pc : Nat) (pz : List Int) (hp : Sl .u8 w pa pn pz) (hpn : pa = none → pc = 0) (hpc : pn ≤ pc) (a0 : Option Addr) (n cap : Nat) (t : List Int) (hs : Sl .i64 w a0 n t) (_hn0 : a0 = none → cap = 0) (_hc0 : n ≤ cap) (ck : Bool) :
    Calls Tryd.prog 8 #[.slice pa pn pc, .slice a0 n cap, .bool ck] w fun e w' => e = .returned (.bool true) ∧ Below w.heap.size w w' := by
  have hr := hs.reach
  have Hs := Lib.hid hs
  have HST := Lib.hid hst
  have HP := Lib.hid hp
  have NP := Lib.hid hpn
  have CP := Lib.hid hpc
  clear hs hst hp hpn hpc
  by_cases hn : n ≤ 400
  · have hd : decide (n ≤ 400) = true := decide_eq_true hn
    go_enter Tryd.func8, Tryd.ntmps8
    go_wp2_with (go_at_call 16; refine (light_any _ _ _ _ (by omega)).mono ?_; rintro e w' ⟨rfl, rfl⟩)
    refine (roll_in a0 n cap t _ Hs.out).mono ?_
    rintro e w1 ⟨rfl, hd1, hb1, hz1⟩
    have D1 := Lib.hid hd1
    have B1 := Lib.hid hb1
    have hz1' : w.heap.size < w1.heap.size := by omega
    clear hd1 hb1 hz1 hd Hs hr
    go_wp2_with fail
    refine (small_in _ w1 D1.out).mono ?_
    rintro e w2 ⟨s, rfl, hf, hv, hin, hd, hg⟩
    have B2 := Lib.hid (B1.out.trans (Below.of_row hg (fun g e => by rw [← Option.some.inj e]; exact Nat.le_refl _) (Nat.le_of_lt hz1')))
    have D2 := Lib.hid hd
    have EN := Lib.hid (rEnc_ok s w2 hf hv hin)
    have EZ := Lib.hid (encL_size (ok_of hv) hin.sl.len)
    clear hf hv hin hd hg D1 B1 hz1'
    go_wp2_with fail
    refine EN.out.mono ?_
    rintro e w3 ⟨a, m, c, rfl, hcn, hm, hb⟩
    have hm1 : 1 ≤ m ∧ m ≤ 4000 := by have := hm.len; have := EZ.out; omega
    have D3 := Lib.hid (D2.out.keep hb)
    have B3 := Lib.hid (B2.out.trans (hb.mono B2.out.size))
    have M3 := Lib.hid hm.sl
    have N3 := Lib.hid hcn
    clear hm hb hcn EN EZ D2 B2
    go_wp2_with fail
    refine (spoil_in2 w.heap.size a m c (encL s) w3 D3.out M3.out N3.out hm1.1 hm1.2).mono ?_
    rintro e w4 ⟨qa, qn, qc, qz, rfl, hq, hqn, hq1, hg, hd⟩
    have b4 := B3.out.trans (Below.of_row hg (fun g e => by rw [← Option.some.inj e]; exact Nat.le_refl _) B3.out.size)
    have hgz : w.heap.size < w4.heap.size := hd.lt
    have O4 : Hid (OnS w (w4.alloc (.cells #[.slice pa pn pc, .slice qa qn qc] 52)) w.heap.size pa pn pz qa qn qz w4.heap.size pc qc) := Lib.hid ⟨heap_alloc_new w4 _, hgz, hd.alloc _, HST.out.keep (b4.alloc b4.size _), HP.out.keep (b4.alloc b4.size _), hq.sl.keep ((Below.refl _ _).alloc (Nat.le_refl _) _), b4.alloc b4.size _⟩
    have NQ := Lib.hid hqn
    have CQ := Lib.hid hq.le_cap
    clear hq hqn hq1 hg hd b4 D3 B3 M3 N3 hm1
    go_wp2_with fail
    generalize w4.heap.size = B at O4 ⊢
    go_loopw [11] (fun i wr => ∃ j : Nat, j ≤ 2 ∧ i = .int .i64 j ∧ OnS w wr w.heap.size pa pn pz qa qn qz B pc qc) (fun i _ => 2 - (intOf i).toNat)
    case atStart => exact ⟨0, by omega, by simp, O4.out⟩
    case round =>
      obtain ⟨j, hj, rfl, o⟩ := hrel
      have OR := Lib.hid o
      clear o O4
      by_cases hlt : j < 2
      · obtain ⟨la, ln, lc, lz, hl1, hl2, hl3⟩ : ∃ la ln lc lz, (∀ W, OnS w W w.heap.size pa pn pz qa qn qz B pc qc → W.cell? ⟨B, j, none⟩ = some (.slice la ln lc) ∧ Sl .u8 W la ln lz) ∧ (la = none → lc = 0) ∧ ln ≤ lc := by
          rcases (show j = 0 ∨ j = 1 by omega) with rfl | rfl
          · exact ⟨pa, pn, pc, pz, fun W o => ⟨cells_of o.k 0, o.p⟩, NP.out, CP.out⟩
          · exact ⟨qa, qn, qc, qz, fun W o => ⟨cells_of o.k 1, o.q⟩, NQ.out, CQ.out⟩
        have HL := Lib.hid hl1
        have cj := (hl1 _ OR.out).1
        have h64 : (j : Int) < 2 := by omega
        clear hl1 NP CP NQ CQ
        go_wp2_with fail
        go_cut [12, 13] (fun s12 s13 wx => ∃ (Q : Nat) (x : Sm) (er : Int) (wc : World), s12 = .pointer (some ⟨Q, 0, none⟩) ∧ s13 = .int .i64 er ∧ wc = wx ∧ OnS w wc w.heap.size pa pn pz qa qn qz B pc qc ∧ Blk 28 wc Q #[.int .i64 x.ctx, .int .i64 x.fmt, .int .i64 x.num, .int .i64 x.time, .int .i64 x.mark, .int .i64 x.id, .int .i64 x.udp, .int .i64 x.h.kind, .int .i64 x.h.tos, .int .i64 x.h.id, .int .i64 x.h.fixed, .int .i64 x.h.ttl, .int .i64 x.h.frm, .int .i64 x.h.to, .int .i64 x.h.fromPort, .int .i64 x.h.toPort, .int .i64 x.h.check, .int .i64 x.h.marker, .int .i64 x.h.type, .int .i64 x.h.seq, .int .i64 x.h.time, .int .i64 x.h.source, .int .i64 x.ds, .int .i64 x.df, .int .i64 x.chk, .slice x.pa x.pn x.pc] ∧ Onc x er lz wc)
        case first =>
          have O5 : Hid (OnS w wr.drew w.heap.size pa pn pz qa qn qz B pc qc) := Lib.hid (OR.out.keep (Below.refl _ _).drew)
          refine wp_region_noPanic ?_
          refine wp_region_held_drew (S := fun W => W.cell? ⟨B, j, none⟩ = some (.slice la ln lc)) (by kernel_rfl) (HL.out _ O5.out).1 (fun hHeld => ?_)
          generalize hW5 : wr.drew = W5 at O5 hHeld ⊢
          clear hW5 OR cj
          refine take_lit (i := 0) (v := .int .i64 j) 38 rfl rfl (by kernel_rfl) (by kernel_rfl) (by kernel_rfl) (fun _ _ _ h => h) (Or.inl ⟨by rfl, fun W hS => by clear hS; go_simp⟩) (by assumption) ?_
          simp only [Act.put, List.setIfInBounds_toArray, List.set_cons_zero, List.set_cons_succ]
          refine take_lit (i := 1) (v := .pointer (some ⟨B, j, none⟩)) 39 rfl rfl (by kernel_rfl) (by kernel_rfl) (by kernel_rfl) (fun _ _ _ h => h) (Or.inl ⟨by rfl, fun W hS => by clear hS; go_simp⟩) (by assumption) ?_
          simp only [Act.put, List.setIfInBounds_toArray, List.set_cons_zero, List.set_cons_succ]
          refine take_lit (i := 2) (v := .slice la ln lc) 40 rfl rfl (by kernel_rfl) (by kernel_rfl) (by kernel_rfl) (fun _ _ _ h => h) (Or.inl ⟨by rfl, fun W hS => by have h9 := hS; clear hS; go_simp⟩) (by assumption) ?_
          simp only [Act.put, List.setIfInBounds_toArray, List.set_cons_zero, List.set_cons_succ]
          refine take_lit (i := 3) (v := .pointer (some ⟨w.heap.size, 0, none⟩)) 41 rfl rfl (by kernel_rfl) (by kernel_rfl) (by kernel_rfl) (fun _ _ _ h => h) (Or.inl ⟨by rfl, fun W hS => by clear hS; go_simp⟩) (by assumption) ?_
          simp only [Act.put, List.setIfInBounds_toArray, List.set_cons_zero, List.set_cons_succ]
          refine take_lit (i := 6) (v := .bool ck) 44 rfl rfl (by kernel_rfl) (by kernel_rfl) (by kernel_rfl) (fun _ _ _ h => h) (Or.inl ⟨by rfl, fun W hS => by clear hS; go_simp⟩) (by assumption) ?_
          simp only [Act.put, List.setIfInBounds_toArray, List.set_cons_zero, List.set_cons_succ]
          refine wpAnyH_ready (rs := [4, 11]) (by kernel_rfl) (by simp) ?_
          refine AllReadyH.cons rfl (fun K hK => ?_) (AllReadyH.cons rfl (fun K hK => ?_) (AllReadyH.nil))
          · skip
            refine step_call 42 rfl 26 #[.pointer (some ⟨w.heap.size, 0, none⟩), .int .i64 2] (by kernel_rfl) (by kernel_rfl) (next_in w.heap.size 2 _ O5.out.d (by omega) (by omega)) ?_
            rintro e W6 ⟨r, rfl, r0, r1, hd, hg⟩
            have O6 := Lib.hid (O5.out.roll HST.out (Nat.le_refl _) hd hg)
            refine ⟨_, rfl, ?_⟩
            refine hK.out _ _ (HL.out _ O6.out).1 (fun hHeld => ?_)
            simp only [Act.put, List.setIfInBounds_toArray, List.set_cons_zero, List.set_cons_succ]
            clear hK K hd hg O5
            have hwr : IntKind.i64.wrap (1 + r) = 1 + r := IntWalk.i64_in _ ⟨by omega, by omega⟩
            refine take_lit (i := 5) (v := .int .i64 (1 + r)) 43 rfl rfl (by kernel_rfl) (by kernel_rfl) (by kernel_rfl) (fun _ _ _ h => h) (Or.inl ⟨by rfl, fun W hS => by clear hS; go_simp⟩) (by assumption) ?_
            simp only [Act.put, List.setIfInBounds_toArray, List.set_cons_zero, List.set_cons_succ]
            refine wpAnyH_ready (rs := [7, 11]) (by kernel_rfl) (by simp) ?_
            refine AllReadyH.cons rfl (fun K hK => ?_) (AllReadyH.cons rfl (fun K hK => ?_) (AllReadyH.nil))
            · skip
              refine step_call 45 rfl 23 #[.slice la ln lc, .int .i64 (1 + r), .bool ck] (by kernel_rfl) (by kernel_rfl) (Decode_any (1 + r) la ln lc lz ck _ (HL.out _ O6.out).2 hl3 hl2 O6.out.t) ?_
              rintro e W7 h6
              obtain ⟨x, er, rfl, hb, hx⟩ := dec_once (fun i => (HL.out _ O6.out).2.u8 i) h6
              have O7 := Lib.hid (O6.out.keep hb)
              have X7 : Hid (Onc x er lz W7) := Lib.hid hx
              refine ⟨_, rfl, ?_⟩
              refine hK.out _ _ (HL.out _ O7.out).1 (fun hHeld => ?_)
              simp only [Act.put, List.setIfInBounds_toArray, List.set_cons_zero, List.set_cons_succ]
              clear hK K h6 hb hx O6
              refine take_lit (i := 8) (v := .tuple #[(.agg #[.int .i64 x.ctx, .int .i64 x.fmt, .int .i64 x.num, .int .i64 x.time, .int .i64 x.mark, .int .i64 x.id, .int .i64 x.udp, .int .i64 x.h.kind, .int .i64 x.h.tos, .int .i64 x.h.id, .int .i64 x.h.fixed, .int .i64 x.h.ttl, .int .i64 x.h.frm, .int .i64 x.h.to, .int .i64 x.h.fromPort, .int .i64 x.h.toPort, .int .i64 x.h.check, .int .i64 x.h.marker, .int .i64 x.h.type, .int .i64 x.h.seq, .int .i64 x.h.time, .int .i64 x.h.source, .int .i64 x.ds, .int .i64 x.df, .int .i64 x.chk, .slice x.pa x.pn x.pc]), .int .i64 er]) 37 rfl rfl (by kernel_rfl) (by kernel_rfl) (by kernel_rfl) (fun _ _ _ h => h) (Or.inl ⟨by rfl, fun w _ => by kernel_rfl⟩) (by assumption) ?_
              simp only [Act.put, List.setIfInBounds_toArray, List.set_cons_zero, List.set_cons_succ]
              refine take_lit (i := 9) (v := (.agg #[.int .i64 x.ctx, .int .i64 x.fmt, .int .i64 x.num, .int .i64 x.time, .int .i64 x.mark, .int .i64 x.id, .int .i64 x.udp, .int .i64 x.h.kind, .int .i64 x.h.tos, .int .i64 x.h.id, .int .i64 x.h.fixed, .int .i64 x.h.ttl, .int .i64 x.h.frm, .int .i64 x.h.to, .int .i64 x.h.fromPort, .int .i64 x.h.toPort, .int .i64 x.h.check, .int .i64 x.h.marker, .int .i64 x.h.type, .int .i64 x.h.seq, .int .i64 x.h.time, .int .i64 x.h.source, .int .i64 x.ds, .int .i64 x.df, .int .i64 x.chk, .slice x.pa x.pn x.pc])) 46 rfl rfl (by kernel_rfl) (by kernel_rfl) (by kernel_rfl) (fun _ _ _ h => h) (Or.inl ⟨by rfl, fun w _ => by kernel_rfl⟩) (by assumption) ?_
              simp only [Act.put, List.setIfInBounds_toArray, List.set_cons_zero, List.set_cons_succ]
              refine take_lit (i := 10) (v := .int .i64 er) 47 rfl rfl (by kernel_rfl) (by kernel_rfl) (by kernel_rfl) (fun _ _ _ h => h) (Or.inl ⟨by rfl, fun w _ => by kernel_rfl⟩) (by assumption) ?_
              simp only [Act.put, List.setIfInBounds_toArray, List.set_cons_zero, List.set_cons_succ]
              refine wpAnyH_ready (rs := [11]) (by kernel_rfl) (by simp) ?_
              refine AllReadyH.cons rfl (fun K hK => ?_) (AllReadyH.nil)
              · skip
                have hB := O7.out.k.lt
                have b9 : Below W7.heap.size W7 (W7.alloc (.cells #[.int .i64 0, .int .i64 0, .int .i64 0, .int .i64 0, .int .i64 0, .int .i64 0, .int .i64 0, .int .i64 0, .int .i64 0, .int .i64 0, .int .i64 0, .int .i64 0, .int .i64 0, .int .i64 0, .int .i64 0, .int .i64 0, .int .i64 0, .int .i64 0, .int .i64 0, .int .i64 0, .int .i64 0, .int .i64 0, .int .i64 0, .int .i64 0, .int .i64 0, .slice none 0 0] 28)) := (Below.refl _ _).alloc (Nat.le_refl _) _
                have O8 := Lib.hid (O7.out.keep b9)
                have X8 := Lib.hid (X7.out.keep b9)
                have Z8 := Lib.hid (show Blk 28 _ _ #[.int .i64 0, .int .i64 0, .int .i64 0, .int .i64 0, .int .i64 0, .int .i64 0, .int .i64 0, .int .i64 0, .int .i64 0, .int .i64 0, .int .i64 0, .int .i64 0, .int .i64 0, .int .i64 0, .int .i64 0, .int .i64 0, .int .i64 0, .int .i64 0, .int .i64 0, .int .i64 0, .int .i64 0, .int .i64 0, .int .i64 0, .int .i64 0, .int .i64 0, .slice none 0 0] from heap_alloc_new W7 (.cells #[.int .i64 0, .int .i64 0, .int .i64 0, .int .i64 0, .int .i64 0, .int .i64 0, .int .i64 0, .int .i64 0, .int .i64 0, .int .i64 0, .int .i64 0, .int .i64 0, .int .i64 0, .int .i64 0, .int .i64 0, .int .i64 0, .int .i64 0, .int .i64 0, .int .i64 0, .int .i64 0, .int .i64 0, .int .i64 0, .int .i64 0, .int .i64 0, .int .i64 0, .slice none 0 0] 28))
                refine step_run2 12 rfl (.pointer (some ⟨W7.heap.size, 0, none⟩)) (W7.alloc (.cells #[.int .i64 0, .int .i64 0, .int .i64 0, .int .i64 0, .int .i64 0, .int .i64 0, .int .i64 0, .int .i64 0, .int .i64 0, .int .i64 0, .int .i64 0, .int .i64 0, .int .i64 0, .int .i64 0, .int .i64 0, .int .i64 0, .int .i64 0, .int .i64 0, .int .i64 0, .int .i64 0, .int .i64 0, .int .i64 0, .int .i64 0, .int .i64 0, .int .i64 0, .slice none 0 0] 28)) (by kernel_rfl) (by kernel_rfl) ?_
                refine hK.out _ _ (HL.out _ O8.out).1 (fun hHeld => ?_)
                simp only [Act.put, List.setIfInBounds_toArray, List.set_cons_zero, List.set_cons_succ]
                clear hK K b9 O7 X7
                generalize hW8 : W7.alloc (.cells #[.int .i64 0, .int .i64 0, .int .i64 0, .int .i64 0, .int .i64 0, .int .i64 0, .int .i64 0, .int .i64 0, .int .i64 0, .int .i64 0, .int .i64 0, .int .i64 0, .int .i64 0, .int .i64 0, .int .i64 0, .int .i64 0, .int .i64 0, .int .i64 0, .int .i64 0, .int .i64 0, .int .i64 0, .int .i64 0, .int .i64 0, .int .i64 0, .int .i64 0, .slice none 0 0] 28) = W8 at O8 Z8 X8 hHeld ⊢
                clear hW8
                generalize W7.heap.size = Q at Z8 hB ⊢
                have hQ : B < Q := hB
                clear hB
                refine wpAnyH_ready (rs := [12]) (by kernel_rfl) (by simp) ?_
                refine AllReadyH.cons rfl (fun K hK => ?_) AllReadyH.nil
                refine step_store_blk (n := 26) rfl rfl _ _ rfl rfl rfl Z8.out rfl rfl info_sm (by simp [Value.oneCell']) ?_
                intro W9 K9 G9
                have O9 := Lib.hid (O8.out.row (x := zeroS) HST.out (Nat.le_refl _) Z8.out hQ G9)
                have X9 := Lib.hid (X8.out.put (y := zeroS) Z8.out G9)
                have P9 := Lib.hid (show Blk 28 W9 _ _ from K9)
                refine hK.out _ _ (HL.out _ O9.out).1 (fun hHeld => ?_)
                clear hK K K9 G9 O8 X8 Z8
                refine take_lit (i := 13) (v := .int .i64 er) 13 rfl rfl (by kernel_rfl) (by kernel_rfl) (by kernel_rfl) (fun _ _ _ h => h) (Or.inl ⟨by rfl, fun W hS => by clear hS; go_simp⟩) (by assumption) ?_
                simp only [Act.put, List.setIfInBounds_toArray, List.set_cons_zero, List.set_cons_succ]
                refine wpAnyH_done (by kernel_rfl) ?_ _
                refine NoPanic.normal ?_
                go_wp2_with fail
                go_meet
                exact ⟨_, x, er, _, rfl, rfl, rfl, O9.out, P9.out, X9.out⟩
            · skip
              have hB := O6.out.k.lt
              have b9 : Below W6.heap.size W6 (W6.alloc (.cells #[.int .i64 0, .int .i64 0, .int .i64 0, .int .i64 0, .int .i64 0, .int .i64 0, .int .i64 0, .int .i64 0, .int .i64 0, .int .i64 0, .int .i64 0, .int .i64 0, .int .i64 0, .int .i64 0, .int .i64 0, .int .i64 0, .int .i64 0, .int .i64 0, .int .i64 0, .int .i64 0, .int .i64 0, .int .i64 0, .int .i64 0, .int .i64 0, .int .i64 0, .slice none 0 0] 28)) := (Below.refl _ _).alloc (Nat.le_refl _) _
              have O7 := Lib.hid (O6.out.keep b9)
              have Z7 := Lib.hid (show Blk 28 _ _ #[.int .i64 0, .int .i64 0, .int .i64 0, .int .i64 0, .int .i64 0, .int .i64 0, .int .i64 0, .int .i64 0, .int .i64 0, .int .i64 0, .int .i64 0, .int .i64 0, .int .i64 0, .int .i64 0, .int .i64 0, .int .i64 0, .int .i64 0, .int .i64 0, .int .i64 0, .int .i64 0, .int .i64 0, .int .i64 0, .int .i64 0, .int .i64 0, .int .i64 0, .slice none 0 0] from heap_alloc_new W6 (.cells #[.int .i64 0, .int .i64 0, .int .i64 0, .int .i64 0, .int .i64 0, .int .i64 0, .int .i64 0, .int .i64 0, .int .i64 0, .int .i64 0, .int .i64 0, .int .i64 0, .int .i64 0, .int .i64 0, .int .i64 0, .int .i64 0, .int .i64 0, .int .i64 0, .int .i64 0, .int .i64 0, .int .i64 0, .int .i64 0, .int .i64 0, .int .i64 0, .int .i64 0, .slice none 0 0] 28))
              refine step_run2 12 rfl (.pointer (some ⟨W6.heap.size, 0, none⟩)) (W6.alloc (.cells #[.int .i64 0, .int .i64 0, .int .i64 0, .int .i64 0, .int .i64 0, .int .i64 0, .int .i64 0, .int .i64 0, .int .i64 0, .int .i64 0, .int .i64 0, .int .i64 0, .int .i64 0, .int .i64 0, .int .i64 0, .int .i64 0, .int .i64 0, .int .i64 0, .int .i64 0, .int .i64 0, .int .i64 0, .int .i64 0, .int .i64 0, .int .i64 0, .int .i64 0, .slice none 0 0] 28)) (by kernel_rfl) (by kernel_rfl) ?_
              refine hK.out _ _ (HL.out _ O7.out).1 (fun hHeld => ?_)
              simp only [Act.put, List.setIfInBounds_toArray, List.set_cons_zero, List.set_cons_succ]
              clear hK K b9 O6
              generalize hW7 : W6.alloc (.cells #[.int .i64 0, .int .i64 0, .int .i64 0, .int .i64 0, .int .i64 0, .int .i64 0, .int .i64 0, .int .i64 0, .int .i64 0, .int .i64 0, .int .i64 0, .int .i64 0, .int .i64 0, .int .i64 0, .int .i64 0, .int .i64 0, .int .i64 0, .int .i64 0, .int .i64 0, .int .i64 0, .int .i64 0, .int .i64 0, .int .i64 0, .int .i64 0, .int .i64 0, .slice none 0 0] 28) = W7 at O7 Z7 hHeld ⊢
              clear hW7
              generalize W6.heap.size = Q at Z7 hB ⊢
              have hQ : B < Q := hB
              clear hB
              refine wpAnyH_ready (rs := [7]) (by kernel_rfl) (by simp) ?_
              refine AllReadyH.cons rfl (fun K hK => ?_) (AllReadyH.nil)
              · skip
                refine step_call 45 rfl 23 #[.slice la ln lc, .int .i64 (1 + r), .bool ck] (by kernel_rfl) (by kernel_rfl) (Decode_any (1 + r) la ln lc lz ck _ (HL.out _ O7.out).2 hl3 hl2 O7.out.t) ?_
                rintro e W8 h6
                obtain ⟨x, er, rfl, hb, hx⟩ := dec_once (fun i => (HL.out _ O7.out).2.u8 i) h6
                have O8 := Lib.hid (O7.out.keep hb)
                have X8 : Hid (Onc x er lz W8) := Lib.hid hx
                have Z8 := Lib.hid (Z7.out.keep hb)
                refine ⟨_, rfl, ?_⟩
                refine hK.out _ _ (HL.out _ O8.out).1 (fun hHeld => ?_)
                simp only [Act.put, List.setIfInBounds_toArray, List.set_cons_zero, List.set_cons_succ]
                clear hK K h6 hb hx O7 Z7
                refine take_lit (i := 8) (v := .tuple #[(.agg #[.int .i64 x.ctx, .int .i64 x.fmt, .int .i64 x.num, .int .i64 x.time, .int .i64 x.mark, .int .i64 x.id, .int .i64 x.udp, .int .i64 x.h.kind, .int .i64 x.h.tos, .int .i64 x.h.id, .int .i64 x.h.fixed, .int .i64 x.h.ttl, .int .i64 x.h.frm, .int .i64 x.h.to, .int .i64 x.h.fromPort, .int .i64 x.h.toPort, .int .i64 x.h.check, .int .i64 x.h.marker, .int .i64 x.h.type, .int .i64 x.h.seq, .int .i64 x.h.time, .int .i64 x.h.source, .int .i64 x.ds, .int .i64 x.df, .int .i64 x.chk, .slice x.pa x.pn x.pc]), .int .i64 er]) 37 rfl rfl (by kernel_rfl) (by kernel_rfl) (by kernel_rfl) (fun _ _ _ h => h) (Or.inl ⟨by rfl, fun w _ => by kernel_rfl⟩) (by assumption) ?_
                simp only [Act.put, List.setIfInBounds_toArray, List.set_cons_zero, List.set_cons_succ]
                refine take_lit (i := 9) (v := (.agg #[.int .i64 x.ctx, .int .i64 x.fmt, .int .i64 x.num, .int .i64 x.time, .int .i64 x.mark, .int .i64 x.id, .int .i64 x.udp, .int .i64 x.h.kind, .int .i64 x.h.tos, .int .i64 x.h.id, .int .i64 x.h.fixed, .int .i64 x.h.ttl, .int .i64 x.h.frm, .int .i64 x.h.to, .int .i64 x.h.fromPort, .int .i64 x.h.toPort, .int .i64 x.h.check, .int .i64 x.h.marker, .int .i64 x.h.type, .int .i64 x.h.seq, .int .i64 x.h.time, .int .i64 x.h.source, .int .i64 x.ds, .int .i64 x.df, .int .i64 x.chk, .slice x.pa x.pn x.pc])) 46 rfl rfl (by kernel_rfl) (by kernel_rfl) (by kernel_rfl) (fun _ _ _ h => h) (Or.inl ⟨by rfl, fun w _ => by kernel_rfl⟩) (by assumption) ?_
                simp only [Act.put, List.setIfInBounds_toArray, List.set_cons_zero, List.set_cons_succ]
                refine take_lit (i := 10) (v := .int .i64 er) 47 rfl rfl (by kernel_rfl) (by kernel_rfl) (by kernel_rfl) (fun _ _ _ h => h) (Or.inl ⟨by rfl, fun w _ => by kernel_rfl⟩) (by assumption) ?_
                simp only [Act.put, List.setIfInBounds_toArray, List.set_cons_zero, List.set_cons_succ]
                refine wpAnyH_ready (rs := [12]) (by kernel_rfl) (by simp) ?_
                refine AllReadyH.cons rfl (fun K hK => ?_) AllReadyH.nil
                refine step_store_blk (n := 26) rfl rfl _ _ rfl rfl rfl Z8.out rfl rfl info_sm (by simp [Value.oneCell']) ?_
                intro W9 K9 G9
                have O9 := Lib.hid (O8.out.row (x := zeroS) HST.out (Nat.le_refl _) Z8.out hQ G9)
                have X9 := Lib.hid (X8.out.put (y := zeroS) Z8.out G9)
                have P9 := Lib.hid (show Blk 28 W9 _ _ from K9)
                refine hK.out _ _ (HL.out _ O9.out).1 (fun hHeld => ?_)
                clear hK K K9 G9 O8 X8 Z8
                refine take_lit (i := 13) (v := .int .i64 er) 13 rfl rfl (by kernel_rfl) (by kernel_rfl) (by kernel_rfl) (fun _ _ _ h => h) (Or.inl ⟨by rfl, fun W hS => by clear hS; go_simp⟩) (by assumption) ?_
                simp only [Act.put, List.setIfInBounds_toArray, List.set_cons_zero, List.set_cons_succ]
                refine wpAnyH_done (by kernel_rfl) ?_ _
                refine NoPanic.normal ?_
                go_wp2_with fail
                go_meet
                exact ⟨_, x, er, _, rfl, rfl, rfl, O9.out, P9.out, X9.out⟩
          · skip
            have hB := O5.out.k.lt
            have b9 : Below W5.heap.size W5 (W5.alloc (.cells #[.int .i64 0, .int .i64 0, .int .i64 0, .int .i64 0, .int .i64 0, .int .i64 0, .int .i64 0, .int .i64 0, .int .i64 0, .int .i64 0, .int .i64 0, .int .i64 0, .int .i64 0, .int .i64 0, .int .i64 0, .int .i64 0, .int .i64 0, .int .i64 0, .int .i64 0, .int .i64 0, .int .i64 0, .int .i64 0, .int .i64 0, .int .i64 0, .int .i64 0, .slice none 0 0] 28)) := (Below.refl _ _).alloc (Nat.le_refl _) _
            have O6 := Lib.hid (O5.out.keep b9)
            have Z6 := Lib.hid (show Blk 28 _ _ #[.int .i64 0, .int .i64 0, .int .i64 0, .int .i64 0, .int .i64 0, .int .i64 0, .int .i64 0, .int .i64 0, .int .i64 0, .int .i64 0, .int .i64 0, .int .i64 0, .int .i64 0, .int .i64 0, .int .i64 0, .int .i64 0, .int .i64 0, .int .i64 0, .int .i64 0, .int .i64 0, .int .i64 0, .int .i64 0, .int .i64 0, .int .i64 0, .int .i64 0, .slice none 0 0] from heap_alloc_new W5 (.cells #[.int .i64 0, .int .i64 0, .int .i64 0, .int .i64 0, .int .i64 0, .int .i64 0, .int .i64 0, .int .i64 0, .int .i64 0, .int .i64 0, .int .i64 0, .int .i64 0, .int .i64 0, .int .i64 0, .int .i64 0, .int .i64 0, .int .i64 0, .int .i64 0, .int .i64 0, .int .i64 0, .int .i64 0, .int .i64 0, .int .i64 0, .int .i64 0, .int .i64 0, .slice none 0 0] 28))
            refine step_run2 12 rfl (.pointer (some ⟨W5.heap.size, 0, none⟩)) (W5.alloc (.cells #[.int .i64 0, .int .i64 0, .int .i64 0, .int .i64 0, .int .i64 0, .int .i64 0, .int .i64 0, .int .i64 0, .int .i64 0, .int .i64 0, .int .i64 0, .int .i64 0, .int .i64 0, .int .i64 0, .int .i64 0, .int .i64 0, .int .i64 0, .int .i64 0, .int .i64 0, .int .i64 0, .int .i64 0, .int .i64 0, .int .i64 0, .int .i64 0, .int .i64 0, .slice none 0 0] 28)) (by kernel_rfl) (by kernel_rfl) ?_
            refine hK.out _ _ (HL.out _ O6.out).1 (fun hHeld => ?_)
            simp only [Act.put, List.setIfInBounds_toArray, List.set_cons_zero, List.set_cons_succ]
            clear hK K b9 O5
            generalize hW6 : W5.alloc (.cells #[.int .i64 0, .int .i64 0, .int .i64 0, .int .i64 0, .int .i64 0, .int .i64 0, .int .i64 0, .int .i64 0, .int .i64 0, .int .i64 0, .int .i64 0, .int .i64 0, .int .i64 0, .int .i64 0, .int .i64 0, .int .i64 0, .int .i64 0, .int .i64 0, .int .i64 0, .int .i64 0, .int .i64 0, .int .i64 0, .int .i64 0, .int .i64 0, .int .i64 0, .slice none 0 0] 28) = W6 at O6 Z6 hHeld ⊢
            clear hW6
            generalize W5.heap.size = Q at Z6 hB ⊢
            have hQ : B < Q := hB
            clear hB
            refine wpAnyH_ready (rs := [4]) (by kernel_rfl) (by simp) ?_
            refine AllReadyH.cons rfl (fun K hK => ?_) (AllReadyH.nil)
            · skip
              refine step_call 42 rfl 26 #[.pointer (some ⟨w.heap.size, 0, none⟩), .int .i64 2] (by kernel_rfl) (by kernel_rfl) (next_in w.heap.size 2 _ O6.out.d (by omega) (by omega)) ?_
              rintro e W7 ⟨r, rfl, r0, r1, hd, hg⟩
              have O7 := Lib.hid (O6.out.roll HST.out (Nat.le_refl _) hd hg)
              have Z7 := Lib.hid (Z6.out.keepRow hg (fun e => by have := Option.some.inj e; have := O7.out.hB; omega))
              refine ⟨_, rfl, ?_⟩
              refine hK.out _ _ (HL.out _ O7.out).1 (fun hHeld => ?_)
              simp only [Act.put, List.setIfInBounds_toArray, List.set_cons_zero, List.set_cons_succ]
              clear hK K hd hg O6 Z6
              have hwr : IntKind.i64.wrap (1 + r) = 1 + r := IntWalk.i64_in _ ⟨by omega, by omega⟩
              refine take_lit (i := 5) (v := .int .i64 (1 + r)) 43 rfl rfl (by kernel_rfl) (by kernel_rfl) (by kernel_rfl) (fun _ _ _ h => h) (Or.inl ⟨by rfl, fun W hS => by clear hS; go_simp⟩) (by assumption) ?_
              simp only [Act.put, List.setIfInBounds_toArray, List.set_cons_zero, List.set_cons_succ]
              refine wpAnyH_ready (rs := [7]) (by kernel_rfl) (by simp) ?_
              refine AllReadyH.cons rfl (fun K hK => ?_) (AllReadyH.nil)
              · skip
                refine step_call 45 rfl 23 #[.slice la ln lc, .int .i64 (1 + r), .bool ck] (by kernel_rfl) (by kernel_rfl) (Decode_any (1 + r) la ln lc lz ck _ (HL.out _ O7.out).2 hl3 hl2 O7.out.t) ?_
                rintro e W8 h6
                obtain ⟨x, er, rfl, hb, hx⟩ := dec_once (fun i => (HL.out _ O7.out).2.u8 i) h6
                have O8 := Lib.hid (O7.out.keep hb)
                have X8 : Hid (Onc x er lz W8) := Lib.hid hx
                have Z8 := Lib.hid (Z7.out.keep hb)
                refine ⟨_, rfl, ?_⟩
                refine hK.out _ _ (HL.out _ O8.out).1 (fun hHeld => ?_)
                simp only [Act.put, List.setIfInBounds_toArray, List.set_cons_zero, List.set_cons_succ]
                clear hK K h6 hb hx O7 Z7
                refine take_lit (i := 8) (v := .tuple #[(.agg #[.int .i64 x.ctx, .int .i64 x.fmt, .int .i64 x.num, .int .i64 x.time, .int .i64 x.mark, .int .i64 x.id, .int .i64 x.udp, .int .i64 x.h.kind, .int .i64 x.h.tos, .int .i64 x.h.id, .int .i64 x.h.fixed, .int .i64 x.h.ttl, .int .i64 x.h.frm, .int .i64 x.h.to, .int .i64 x.h.fromPort, .int .i64 x.h.toPort, .int .i64 x.h.check, .int .i64 x.h.marker, .int .i64 x.h.type, .int .i64 x.h.seq, .int .i64 x.h.time, .int .i64 x.h.source, .int .i64 x.ds, .int .i64 x.df, .int .i64 x.chk, .slice x.pa x.pn x.pc]), .int .i64 er]) 37 rfl rfl (by kernel_rfl) (by kernel_rfl) (by kernel_rfl) (fun _ _ _ h => h) (Or.inl ⟨by rfl, fun w _ => by kernel_rfl⟩) (by assumption) ?_
                simp only [Act.put, List.setIfInBounds_toArray, List.set_cons_zero, List.set_cons_succ]
                refine take_lit (i := 9) (v := (.agg #[.int .i64 x.ctx, .int .i64 x.fmt, .int .i64 x.num, .int .i64 x.time, .int .i64 x.mark, .int .i64 x.id, .int .i64 x.udp, .int .i64 x.h.kind, .int .i64 x.h.tos, .int .i64 x.h.id, .int .i64 x.h.fixed, .int .i64 x.h.ttl, .int .i64 x.h.frm, .int .i64 x.h.to, .int .i64 x.h.fromPort, .int .i64 x.h.toPort, .int .i64 x.h.check, .int .i64 x.h.marker, .int .i64 x.h.type, .int .i64 x.h.seq, .int .i64 x.h.time, .int .i64 x.h.source, .int .i64 x.ds, .int .i64 x.df, .int .i64 x.chk, .slice x.pa x.pn x.pc])) 46 rfl rfl (by kernel_rfl) (by kernel_rfl) (by kernel_rfl) (fun _ _ _ h => h) (Or.inl ⟨by rfl, fun w _ => by kernel_rfl⟩) (by assumption) ?_
                simp only [Act.put, List.setIfInBounds_toArray, List.set_cons_zero, List.set_cons_succ]
                refine take_lit (i := 10) (v := .int .i64 er) 47 rfl rfl (by kernel_rfl) (by kernel_rfl) (by kernel_rfl) (fun _ _ _ h => h) (Or.inl ⟨by rfl, fun w _ => by kernel_rfl⟩) (by assumption) ?_
                simp only [Act.put, List.setIfInBounds_toArray, List.set_cons_zero, List.set_cons_succ]
                refine wpAnyH_ready (rs := [12]) (by kernel_rfl) (by simp) ?_
                refine AllReadyH.cons rfl (fun K hK => ?_) AllReadyH.nil
                refine step_store_blk (n := 26) rfl rfl _ _ rfl rfl rfl Z8.out rfl rfl info_sm (by simp [Value.oneCell']) ?_
                intro W9 K9 G9
                have O9 := Lib.hid (O8.out.row (x := zeroS) HST.out (Nat.le_refl _) Z8.out hQ G9)
                have X9 := Lib.hid (X8.out.put (y := zeroS) Z8.out G9)
                have P9 := Lib.hid (show Blk 28 W9 _ _ from K9)
                refine hK.out _ _ (HL.out _ O9.out).1 (fun hHeld => ?_)
                clear hK K K9 G9 O8 X8 Z8
                refine take_lit (i := 13) (v := .int .i64 er) 13 rfl rfl (by kernel_rfl) (by kernel_rfl) (by kernel_rfl) (fun _ _ _ h => h) (Or.inl ⟨by rfl, fun W hS => by clear hS; go_simp⟩) (by assumption) ?_
                simp only [Act.put, List.setIfInBounds_toArray, List.set_cons_zero, List.set_cons_succ]
                refine wpAnyH_done (by kernel_rfl) ?_ _
                refine NoPanic.normal ?_
                go_wp2_with fail
                go_meet
                exact ⟨_, x, er, _, rfl, rfl, rfl, O9.out, P9.out, X9.out⟩
        case rest =>
          obtain ⟨Q, x, er, w7, rfl, rfl, rfl, o7, p7, hx⟩ := hcut
          have O7 := Lib.hid o7
          have P7 := Lib.hid p7
          have HX := Lib.hid hx
          clear o7 p7 hx OR cj
          by_cases he : er = 0
          · have hE : (er != 0) = false := by rw [he]; rfl
            have xf := Lib.hid (HX.out he).1
            have xv := Lib.hid (HX.out he).2.1
            have xe := Lib.hid (HX.out he).2.2.1
            have xin := Lib.hid (HX.out he).2.2.2
            clear HX he
            go_upto_region 11 with fail
            refine wp_region_lit ?_
            refine wpList_load_sm P7.out rfl _ rfl rfl ?_
            go_wp2_with (first
              | (go_at_call 10; ((with_reducible refine (enc_ok x w7 xf.out xv.out O7.out.t xin.out).mono ?_); rintro e w8 ⟨ea, em, ec, rfl, _, hm, hb⟩; have O8 := Lib.hid (O7.out.keep hb); have S8 := Lib.hid hm.sl; rw [xe.out] at S8; have c8 := (HL.out _ O8.out).1; clear hm hb O7 P7))
              | (go_at_call 15; ((with_reducible refine (same_any _ _ _ _ _ _ _ _ _ S8.out (HL.out _ O8.out).2).mono ?_); rintro e w9 ⟨rfl, rfl⟩))
              | fail)
            go_roundw
            case rel => exact ⟨j + 1, by omega, by go_num, O8.out⟩
            case measure => simp [intOf]; omega
          · have hE : (er != 0) = true := by simpa using he
            clear HX he
            go_wp2_with fail
            go_roundw
            case rel => exact ⟨j + 1, by omega, by go_num, O7.out⟩
            case measure => simp [intOf]; omega
      · obtain rfl : j = 2 := by omega
        go_wp2_with (first
          | (go_at_call 12; refine (awake08_any _ OR.out.t).mono ?_; rintro e w2 ⟨rfl, hb⟩; have B2 := Lib.hid (OR.out.b.trans (hb.mono OR.out.b.size)); clear hb)
          | fail)
        go_ret
        exact ⟨rfl, B2.out⟩
  · have hd : decide (n ≤ 400) = false := decide_eq_false hn
    have AW := Lib.hid (awake08_any w HST.out)
    go_enter Tryd.func8, Tryd.ntmps8
    go_wp2_with (first
      | (go_at_call 16; refine (light_any _ _ _ _ (by omega)).mono ?_; rintro e w' ⟨rfl, rfl⟩)
      | (go_at_call 12; refine AW.out.mono ?_; rintro e w2 ⟨rfl, hb⟩; have B2 := Lib.hid hb; clear hb)
      | fail)
    go_ret
    exact ⟨rfl, B2.out⟩

theorem own : ownKnob Tryd.prog.godebug = none := by kernel_rfl
theorem laidOut : laidOutB Tryd.prog = true := by kernel_rfl
theorem read_bytes : Tryd.prog.readableRec 26 = true := by kernel_rfl
theorem read_ints : Tryd.prog.readableRec 35 = true := by kernel_rfl
theorem read_bool : Tryd.prog.readableRec 4 = true := by kernel_rfl
theorem cells_b : Tryd.prog.cellsOf 5 = 1 := by kernel_rfl
theorem bytes_b : Tryd.prog.bytesOf 5 = 1 := by kernel_rfl
theorem cells_i : Tryd.prog.cellsOf 3 = 1 := by kernel_rfl
theorem bytes_i : Tryd.prog.bytesOf 3 = 8 := by kernel_rfl
theorem lt_bytes : 26 < Tryd.prog.types.size := of_decide_eq_true (by kernel_rfl)
theorem lt_ints : 35 < Tryd.prog.types.size := of_decide_eq_true (by kernel_rfl)
theorem lt_bool : 4 < Tryd.prog.types.size := of_decide_eq_true (by kernel_rfl)

set_option maxRecDepth 100000 in
theorem lifted (os : Os) (started : os.Started) (H : Type) (enc : TypeId × Value → H) :
    ReturnsInHanded {} Tryd.checked os 8 .any (fun w args => (Rows.formatOnceSpec.pre enc Tryd.prog Tryd.f8 [] false w args ∧ laidMetH Tryd.prog laid08 w) ∧ sizedMet enc Tryd.prog Tryd.f8 (OpenSpec.ofChange Rows.formatOnceSpec) false w args) (Rows.formatOnceSpec.post enc Tryd.prog Tryd.f8 false true false false) := by
  refine law_lifted_laid (laid := laid08) (C := Tryd.checked) (rt := 4) [26, 35, 4] own started (by kernel_rfl) Tryd.func8 laidOut (by rw [Tryd.params8])
    (fun t ht => by simp only [List.mem_cons, List.not_mem_nil, or_false] at ht; rcases ht with rfl | rfl | rfl <;> first | exact ⟨read_bytes, lt_bytes⟩ | exact ⟨read_ints, lt_ints⟩ | exact ⟨read_bool, lt_bool⟩) rfl Tryd.underlying4 rfl
    (fun ds h => by match ds, h with | [d0, d1, d2], _ => rfl)
    (ChangeSpec.witness_shaped (enc := enc) (C := Tryd.checked) (os := os) (X := fun w _ => laidMetH Tryd.prog laid08 w) false (World.doorLaid Tryd.prog 400 os) #[.slice none 0 0, .slice none 0 0, .bool false] 8 rfl (World.shaped_of_RefB (by kernel_rfl) (by kernel_rfl)) (by kernel_rfl) (by kernel_rfl) (by kernel_rfl) (door_met08 os _)) ?_
  intro W base args ds p hval hA hsz hL
  obtain ⟨v0, vs0, d0, ds0, p0, q0, hargs, rfl, rfl, h0, r0⟩ := trodAll_cons hA
  obtain ⟨v1, vs1, d1, ds1, p1, q1, rfl, rfl, rfl, h1, r1⟩ := trodAll_cons r0
  obtain ⟨v2, vs2, d2, ds2, p2, q2, rfl, rfl, rfl, h2, r2⟩ := trodAll_cons r1
  obtain ⟨rfl, rfl, rfl⟩ := trodAll_nil r2
  obtain rfl : args = #[v0, v1, v2] := by cases args; simp_all
  obtain ⟨a0, n0, c0, z0, rfl, s0, nn0⟩ := open_slr Tryd.underlying26 Tryd.underlying5 cells_b (by rw [bytes_b]; omega) (hval 0 _ v0 rfl rfl) h0 (fun el spa hd => sized_slice hsz (j := 0) rfl (by rw [hd]; rfl) Tryd.underlying26)
  obtain ⟨a1, n1, c1, z1, rfl, s1, nn1⟩ := open_slr Tryd.underlying35 Tryd.underlying3 cells_i (by rw [bytes_i]; omega) (hval 1 _ v1 rfl rfl) h1 (fun el spa hd => sized_slice hsz (j := 1) rfl (by rw [hd]; rfl) Tryd.underlying35)
  obtain ⟨x2, rfl, _, _⟩ := open_bool Tryd.underlying4 (hval 2 _ v2 rfl rfl) h2
  exact walk W (st_of_laid hL) a0 n0 c0 z0 s0 nn0.1 nn0.2.1 a1 n1 c1 z1 s1 nn1.1 nn1.2.1 x2

/-- THE ROW -/
theorem rowProved : Rows.FormatOnceSaid :=
  OpenClaim.holds_of_wide 8 Tryd.f8 rfl rfl rfl rfl rfl rfl rfl ⟨rfl, rfl, rfl, rfl, rfl⟩ rfl rfl rfl rfl rfl (by kernel_rfl) Tryd.func8 (by kernel_rfl)
    (of_decide_eq_true (by kernel_rfl)) (by unfold Func.isWrapper; first | (rw [if_pos (by decide +kernel)]; kernel_rfl) | (rw [if_neg (by decide +kernel)]; exact ⟨rfl, rfl⟩))
    (fun os started H enc _ => lifted os started H enc)
set_option maxRecDepth 100000 in
/-- THE STATEMENT: the card -/
theorem proved : Rows.FormatOnceCardSaid :=
  Claim7.holds_tied_plain_at .later [] [.data] true Rows.formatOnceCard.stood.harness false
    rowProved (fun _ h => by cases h) (by kernel_rfl) (fun _ h => by cases h) formatOnce_row_tie rfl ⟨rfl, rfl⟩ (by kernel_rfl) rfl
    (fun f fn hf hfn => by
      obtain rfl : f = 8 := Option.some.inj ((show Tryd.prog.funcNamed "radiolink/radiolinklaw08.FormatOnce" = some 8 by kernel_rfl).symm.trans hf) |>.symm
      obtain rfl : fn = Tryd.f8 := (Option.some.inj (Tryd.func8.symm.trans hfn)).symm
      exact ⟨by kernel_rfl, fun j t ht => by
        rw [Tryd.params8] at ht
        have hm : t ∈ [26, 35, 4] := by simpa using Array.mem_of_getElem? ht
        have hall : ([26, 35, 4].all fun u => !Tryd.prog.wantsStandIn u) = true := by kernel_rfl
        exact (show Tryd.prog.wantsStandIn t = false by simpa using List.all_eq_true.1 hall t hm)⟩)
    (by kernel_rfl)
#print axioms proved
end Go.Proofs.YtkhcfmnebflgkaaDoor.formatOnce
