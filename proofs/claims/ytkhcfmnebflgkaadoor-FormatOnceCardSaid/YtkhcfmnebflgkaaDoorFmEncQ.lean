/-
  The program's Encode of layer 8, for valid parts.
-/
import Derived.Test.YtkhcfmnebflgkaaDoorFmEncP
import Derived.Test.YtkhcfmnebflgkaaDoorJBase
import Derived.Deep.DeepCutAuto
import Derived.Deep.RegionHeld3
namespace Go.Proofs.YtkhcfmnebflgkaaDoor
open Go Go.RowKit

theorem or_ctx (c : Int) (h0 : 0 < c) (h1 : c ≤ 15) : bits .or .i64 224 c = 224 + c := by
  rcases (show c = 1 ∨ c = 2 ∨ c = 3 ∨ c = 4 ∨ c = 5 ∨ c = 6 ∨ c = 7 ∨ c = 8 ∨ c = 9 ∨ c = 10 ∨ c = 11 ∨ c = 12 ∨ c = 13 ∨ c = 14 ∨ c = 15 by omega) with rfl | rfl | rfl | rfl | rfl | rfl | rfl | rfl | rfl | rfl | rfl | rfl | rfl | rfl | rfl <;> decide
/-- the fields that are packed, the checksum among them -/
def encF (s : Sm) : List (Int × Nat) := fldL s.fmt s.h.kind ++ if ckV s = 0 then [] else [(16, ckAt s.fmt)]
/-- a draft in a block, and the packet in parts that it was made of in another one -/
structure DrS (w W : World) (D g : Nat) (s : Sm) (st ck : Int) : Prop where
  d : Blk 59 W D #[.int .i64 s.ctx, .int .i64 s.fmt, .int .i64 s.num, .int .i64 s.time, .int .i64 s.mark, .int .i64 s.id, .int .i64 s.udp, .int .i64 s.h.kind, .int .i64 s.h.tos, .int .i64 s.h.id, .int .i64 s.h.fixed, .int .i64 s.h.ttl, .int .i64 s.h.frm, .int .i64 s.h.to, .int .i64 s.h.fromPort, .int .i64 s.h.toPort, .int .i64 s.h.check, .int .i64 s.h.marker, .int .i64 s.h.type, .int .i64 s.h.seq, .int .i64 s.h.time, .int .i64 s.h.source, .int .i64 s.ds, .int .i64 s.df, .int .i64 s.chk, .slice s.pa s.pn s.pc, .int .i64 st, .int .i64 ck, .int .i64 0]
  p : Blk 28 W g #[.int .i64 s.ctx, .int .i64 s.fmt, .int .i64 s.num, .int .i64 s.time, .int .i64 s.mark, .int .i64 s.id, .int .i64 s.udp, .int .i64 s.h.kind, .int .i64 s.h.tos, .int .i64 s.h.id, .int .i64 s.h.fixed, .int .i64 s.h.ttl, .int .i64 s.h.frm, .int .i64 s.h.to, .int .i64 s.h.fromPort, .int .i64 s.h.toPort, .int .i64 s.h.check, .int .i64 s.h.marker, .int .i64 s.h.type, .int .i64 s.h.seq, .int .i64 s.h.time, .int .i64 s.h.source, .int .i64 s.ds, .int .i64 s.df, .int .i64 s.chk, .slice s.pa s.pn s.pc]
  t : St W
  b : Below w.heap.size w W
  h : w.heap.size ≤ D ∧ g < D
theorem DrS.keep {w W W' : World} {D g : Nat} {s : Sm} {st ck : Int} (q : DrS w W D g s st ck) (hb : Below W.heap.size W W') : DrS w W' D g s st ck :=
  ⟨q.d.keep hb, q.p.keep hb, q.t.keep hb, q.b.trans (hb.mono q.b.size), q.h⟩
theorem DrS.row {w W W' : World} {D g : Nat} {s : Sm} {st ck : Int} {row : Option Nat} (q : DrS w W D g s st ck) (hb : W.grownBy W' row) (hr : ∀ k, row = some k → (w.heap.size ≤ k ∧ g < k) ∧ k ≠ D) : DrS w W' D g s st ck := by
  refine ⟨q.d.keepRow hb (fun e => (hr _ e).2 rfl), q.p.keepRow hb (fun e => by have := (hr _ e).1.2; omega), fun i v hv => hb.cell (q.t i v hv) (fun e => ?_), q.b.trans (Below.of_row hb (fun k e => (hr k e).1.1) q.b.size), q.h⟩
  have := (hr _ e.symm).1.2
  exact absurd this (Nat.not_lt_zero _)
theorem DrS.cell {w W : World} {D g : Nat} {s : Sm} {st ck : Int} (q : DrS w W D g s st ck) (i : Nat) : W.cell? ⟨D, i, none⟩ = (#[.int .i64 s.ctx, .int .i64 s.fmt, .int .i64 s.num, .int .i64 s.time, .int .i64 s.mark, .int .i64 s.id, .int .i64 s.udp, .int .i64 s.h.kind, .int .i64 s.h.tos, .int .i64 s.h.id, .int .i64 s.h.fixed, .int .i64 s.h.ttl, .int .i64 s.h.frm, .int .i64 s.h.to, .int .i64 s.h.fromPort, .int .i64 s.h.toPort, .int .i64 s.h.check, .int .i64 s.h.marker, .int .i64 s.h.type, .int .i64 s.h.seq, .int .i64 s.h.time, .int .i64 s.h.source, .int .i64 s.ds, .int .i64 s.df, .int .i64 s.chk, .slice s.pa s.pn s.pc, .int .i64 st, .int .i64 ck, .int .i64 0] : Array Value)[i]? := cells_of q.d i
theorem DrS.ck {w W : World} {D g : Nat} {s : Sm} {st ck : Int} (q : DrS w W D g s st ck) : W.cell? ⟨D, ckAt s.fmt, none⟩ = some (.int .i64 (ckV s)) := by
  rw [q.cell]; unfold ckAt ckV; split <;> rfl
theorem DrS.val {w W : World} {D g : Nat} {s : Sm} {st ck : Int} (q : DrS w W D g s st ck) : ∀ p ∈ fldL s.fmt s.h.kind, W.cell? ⟨D, p.2, none⟩ = some (.int .i64 ((dvL s st ck).getD p.2 0)) := by
  intro p hp
  rw [q.cell]
  have e : ∀ l : List (Int × Nat), p ∈ l → (∀ x ∈ l, x.2 < 29 ∧ x.2 ≠ 25) → (#[.int .i64 s.ctx, .int .i64 s.fmt, .int .i64 s.num, .int .i64 s.time, .int .i64 s.mark, .int .i64 s.id, .int .i64 s.udp, .int .i64 s.h.kind, .int .i64 s.h.tos, .int .i64 s.h.id, .int .i64 s.h.fixed, .int .i64 s.h.ttl, .int .i64 s.h.frm, .int .i64 s.h.to, .int .i64 s.h.fromPort, .int .i64 s.h.toPort, .int .i64 s.h.check, .int .i64 s.h.marker, .int .i64 s.h.type, .int .i64 s.h.seq, .int .i64 s.h.time, .int .i64 s.h.source, .int .i64 s.ds, .int .i64 s.df, .int .i64 s.chk, .slice s.pa s.pn s.pc, .int .i64 st, .int .i64 ck, .int .i64 0] : Array Value)[p.2]? = some (.int .i64 ((dvL s st ck).getD p.2 0)) := by
    intro l hl h
    obtain ⟨h1, h2⟩ := h p hl
    match p.2, h1, h2 with
    | 0, _, _ => rfl
    | 1, _, _ => rfl
    | 2, _, _ => rfl
    | 3, _, _ => rfl
    | 4, _, _ => rfl
    | 5, _, _ => rfl
    | 6, _, _ => rfl
    | 7, _, _ => rfl
    | 8, _, _ => rfl
    | 9, _, _ => rfl
    | 10, _, _ => rfl
    | 11, _, _ => rfl
    | 12, _, _ => rfl
    | 13, _, _ => rfl
    | 14, _, _ => rfl
    | 15, _, _ => rfl
    | 16, _, _ => rfl
    | 17, _, _ => rfl
    | 18, _, _ => rfl
    | 19, _, _ => rfl
    | 20, _, _ => rfl
    | 21, _, _ => rfl
    | 22, _, _ => rfl
    | 23, _, _ => rfl
    | 24, _, _ => rfl
    | 25, _, h => exact absurd rfl h
    | 26, _, _ => rfl
    | 27, _, _ => rfl
    | 28, _, _ => rfl
    | n + 29, h, _ => omega
  refine e _ hp ?_
  unfold fldL
  (repeat' split) <;> decide

theorem getD_pair_left {xs ys : List (Int × Nat)} {k : Nat} (h : k < xs.length) : (xs ++ ys).getD k (0, 0) = xs.getD k (0, 0) := by
  rw [List.getD_eq_getElem?_getD, List.getD_eq_getElem?_getD, List.getElem?_append_left h]
theorem getD_pair_right {xs ys : List (Int × Nat)} {k : Nat} (h : xs.length ≤ k) : (xs ++ ys).getD k (0, 0) = ys.getD (k - xs.length) (0, 0) := by
  rw [List.getD_eq_getElem?_getD, List.getD_eq_getElem?_getD, List.getElem?_append_right h]
theorem DrS.all {w W : World} {D g : Nat} {s : Sm} {st ck : Int} (q : DrS w W D g s st ck) (i : Nat) (hi : i < (encF s).length) :
    W.cell? ⟨D, ((encF s).getD i (0, 0)).2, none⟩ = some (.int .i64 ((fVs s st ck s.fmt s.h.kind ++ if ckV s = 0 then [] else [ckV s]).getD i 0)) := by
  have hl : (fVs s st ck s.fmt s.h.kind).length = (fldL s.fmt s.h.kind).length := by unfold fVs; simp
  by_cases h : i < (fldL s.fmt s.h.kind).length
  · unfold encF
    rw [getD_pair_left h, getD_app_left (by omega)]
    have m : (fldL s.fmt s.h.kind).getD i (0, 0) ∈ fldL s.fmt s.h.kind := by
      rw [List.getD_eq_getElem?_getD, List.getElem?_eq_getElem h]; exact List.getElem_mem h
    rw [q.val _ m]
    have e : (fVs s st ck s.fmt s.h.kind).getD i 0 = (dvL s st ck).getD ((fldL s.fmt s.h.kind).getD i (0, 0)).2 0 := by
      unfold fVs
      rw [List.getD_eq_getElem?_getD (l := List.map _ _), List.getElem?_map, List.getElem?_eq_getElem h, List.getD_eq_getElem?_getD (l := fldL s.fmt s.h.kind), List.getElem?_eq_getElem h]; rfl
    rw [e]
  · unfold encF at hi ⊢
    by_cases hc : ckV s = 0
    · rw [if_pos hc, List.append_nil] at hi; omega
    · rw [if_neg hc] at hi ⊢
      simp at hi
      obtain rfl : i = (fldL s.fmt s.h.kind).length := by omega
      rw [getD_pair_right (Nat.le_refl _), if_neg hc, getD_app_right (by omega), hl, Nat.sub_self]
      exact q.ck
theorem enc_wf (s : Sm) (v : OkS s) (ck : Int) (hck : ck = if s.h.check = 0 then 0 else 1) (i : Nat) (hi : i < (encF s).length) :
    (-9223372036854775808 ≤ (fWs s.fmt s.h.kind ++ if ckV s = 0 then [] else [16]).getD i 0 ∧ (fWs s.fmt s.h.kind ++ if ckV s = 0 then [] else [16]).getD i 0 ≤ 9223372036854775807) ∧
    -9223372036854775808 ≤ (fVs s (startV s.fmt) ck s.fmt s.h.kind ++ if ckV s = 0 then [] else [ckV s]).getD i 0 ∧ (fVs s (startV s.fmt) ck s.fmt s.h.kind ++ if ckV s = 0 then [] else [ckV s]).getD i 0 ≤ 9223372036854775807 := by
  have p := pack_ok s v ck hck
  have c := ckV_range v
  have hw : (fWs s.fmt s.h.kind).length = (fldL s.fmt s.h.kind).length := by unfold fWs; simp
  have hl : (fVs s (startV s.fmt) ck s.fmt s.h.kind).length = (fldL s.fmt s.h.kind).length := by unfold fVs; simp
  by_cases h : i < (fldL s.fmt s.h.kind).length
  · rw [getD_app_left (by omega), getD_app_left (by omega)]
    obtain ⟨a, b1, b2, b3⟩ := fitsAt_yes (fitsTo_all p.fits i (by omega))
    obtain ⟨a1, a2, a3, a4⟩ := widthAt_yes a
    have h32 : (2 : Nat) ^ wid (fWs s.fmt s.h.kind) i ≤ 2 ^ 32 := Nat.pow_le_pow_right (by decide) a4
    simp only [Nat.reducePow] at h32
    omega
  · unfold encF at hi
    by_cases hc : ckV s = 0
    · rw [if_pos hc, List.append_nil] at hi; omega
    · rw [if_neg hc] at hi
      rw [if_neg hc, if_neg hc]
      simp at hi
      obtain rfl : i = (fldL s.fmt s.h.kind).length := by omega
      rw [getD_app_right (by omega), getD_app_right (by omega), hw, hl, Nat.sub_self]
      simp
      omega

theorem encH_len (s : Sm) (v : OkS s) : (encH s).length ≤ 100 := by
  have p := pack_ok s v _ rfl
  have h := sumTo_le (fitsTo_width p.fits)
  have e := p.sum
  have n : (fWs s.fmt s.h.kind).length ≤ 20 := by
    unfold fWs; rw [List.length_map]; unfold fldL; (repeat' split) <;> decide
  omega
theorem ckL_len (s : Sm) : (ckL s).length ≤ 2 := by unfold ckL; split <;> simp

def zeroD : Array Value := #[.int .i64 0, .int .i64 0, .int .i64 0, .int .i64 0, .int .i64 0, .int .i64 0, .int .i64 0, .int .i64 0, .int .i64 0, .int .i64 0, .int .i64 0, .int .i64 0, .int .i64 0, .int .i64 0, .int .i64 0, .int .i64 0, .int .i64 0, .int .i64 0, .int .i64 0, .int .i64 0, .int .i64 0, .int .i64 0, .int .i64 0, .int .i64 0, .int .i64 0, .slice none 0 0, .int .i64 0, .int .i64 0, .int .i64 0]
set_option maxRecDepth 100000 in
set_option maxHeartbeats 6400000 in
theorem enc_ok (s : Sm) (w : World) (hf : s.h.Fits) (hv : smB s = true) (hs : St w) (hin : s.In w) :
    Calls Tryd.prog 10 #[(.agg #[.int .i64 s.ctx, .int .i64 s.fmt, .int .i64 s.num, .int .i64 s.time, .int .i64 s.mark, .int .i64 s.id, .int .i64 s.udp, .int .i64 s.h.kind, .int .i64 s.h.tos, .int .i64 s.h.id, .int .i64 s.h.fixed, .int .i64 s.h.ttl, .int .i64 s.h.frm, .int .i64 s.h.to, .int .i64 s.h.fromPort, .int .i64 s.h.toPort, .int .i64 s.h.check, .int .i64 s.h.marker, .int .i64 s.h.type, .int .i64 s.h.seq, .int .i64 s.h.time, .int .i64 s.h.source, .int .i64 s.ds, .int .i64 s.df, .int .i64 s.chk, .slice s.pa s.pn s.pc])] w (EncR (encL s) w) := by
  have v := ok_of hv
  have KA := Lib.hid (heap_alloc_new w (.cells #[.int .i64 s.ctx, .int .i64 s.fmt, .int .i64 s.num, .int .i64 s.time, .int .i64 s.mark, .int .i64 s.id, .int .i64 s.udp, .int .i64 s.h.kind, .int .i64 s.h.tos, .int .i64 s.h.id, .int .i64 s.h.fixed, .int .i64 s.h.ttl, .int .i64 s.h.frm, .int .i64 s.h.to, .int .i64 s.h.fromPort, .int .i64 s.h.toPort, .int .i64 s.h.check, .int .i64 s.h.marker, .int .i64 s.h.type, .int .i64 s.h.seq, .int .i64 s.h.time, .int .i64 s.h.source, .int .i64 s.ds, .int .i64 s.df, .int .i64 s.chk, .slice s.pa s.pn s.pc] 28))
  have BW := Lib.hid ((Below.refl w.heap.size w).alloc (Nat.le_refl _) (.cells #[.int .i64 s.ctx, .int .i64 s.fmt, .int .i64 s.num, .int .i64 s.time, .int .i64 s.mark, .int .i64 s.id, .int .i64 s.udp, .int .i64 s.h.kind, .int .i64 s.h.tos, .int .i64 s.h.id, .int .i64 s.h.fixed, .int .i64 s.h.ttl, .int .i64 s.h.frm, .int .i64 s.h.to, .int .i64 s.h.fromPort, .int .i64 s.h.toPort, .int .i64 s.h.check, .int .i64 s.h.marker, .int .i64 s.h.type, .int .i64 s.h.seq, .int .i64 s.h.time, .int .i64 s.h.source, .int .i64 s.ds, .int .i64 s.df, .int .i64 s.chk, .slice s.pa s.pn s.pc] 28))
  have CV := Lib.hid (fun W => Valid08_any s W hf)
  rw [hv] at CV
  have HS := Lib.hid hs
  have HI := Lib.hid hin
  have V := Lib.hid v
  have f0 := v.fmt.1
  have f6 := v.fmt.2
  clear hv hf hs hin v
  go_enter Tryd.func10, Tryd.ntmps10
  go_upto_region 1 with fail
  refine wp_region_lit ?_
  refine wpList_load_sm KA.out rfl _ rfl rfl ?_
  go_upto_region 3 with (first | (go_at_call 13; ((with_reducible refine (CV.out _).mono ?_); rintro e w2 ⟨rfl, hb⟩)) | fail)
  have B2 := Lib.hid (BW.out.trans (hb.mono BW.out.size))
  have HS2 := Lib.hid ((HS.out.keep B2.out).at V.out.fmt)
  have KK : Hid (Blk 28 w2 w.heap.size #[.int .i64 s.ctx, .int .i64 s.fmt, .int .i64 s.num, .int .i64 s.time, .int .i64 s.mark, .int .i64 s.id, .int .i64 s.udp, .int .i64 s.h.kind, .int .i64 s.h.tos, .int .i64 s.h.id, .int .i64 s.h.fixed, .int .i64 s.h.ttl, .int .i64 s.h.frm, .int .i64 s.h.to, .int .i64 s.h.fromPort, .int .i64 s.h.toPort, .int .i64 s.h.check, .int .i64 s.h.marker, .int .i64 s.h.type, .int .i64 s.h.seq, .int .i64 s.h.time, .int .i64 s.h.source, .int .i64 s.ds, .int .i64 s.df, .int .i64 s.chk, .slice s.pa s.pn s.pc]) := Lib.hid ((hb.block _ (lt_of_block KA.out)).trans KA.out)
  clear hb
  generalize hst : startV s.fmt = st at HS2
  have HST := Lib.hid hst
  clear hst
  have hgl : w.heap.size < w2.heap.size := KK.out.lt
  have HSS := Lib.hid (HS.out.keep B2.out)
  go_cut [4] (fun s4 wc => ∃ D wx, s4 = .pointer (some ⟨D, 0, none⟩) ∧ wx = wc ∧ DrS w wx D w.heap.size s st 0)
  case first =>
    have A0 : Hid (Blk 28 w2.drew w.heap.size #[.int .i64 s.ctx, .int .i64 s.fmt, .int .i64 s.num, .int .i64 s.time, .int .i64 s.mark, .int .i64 s.id, .int .i64 s.udp, .int .i64 s.h.kind, .int .i64 s.h.tos, .int .i64 s.h.id, .int .i64 s.h.fixed, .int .i64 s.h.ttl, .int .i64 s.h.frm, .int .i64 s.h.to, .int .i64 s.h.fromPort, .int .i64 s.h.toPort, .int .i64 s.h.check, .int .i64 s.h.marker, .int .i64 s.h.type, .int .i64 s.h.seq, .int .i64 s.h.time, .int .i64 s.h.source, .int .i64 s.ds, .int .i64 s.df, .int .i64 s.chk, .slice s.pa s.pn s.pc] ∧ w2.drew.cell? ⟨0, s.fmt.toNat * 2 + 1, none⟩ = some (.int .i64 st)) := Lib.hid ⟨KK.out, HS2.out⟩
    have KG := KK
    generalize hg0 : w.heap.size = g0 at A0 KG ⊢
    refine wp_region_noPanic ?_
    refine wp_region_held_drew (S := fun W => Blk 28 W g0 #[.int .i64 s.ctx, .int .i64 s.fmt, .int .i64 s.num, .int .i64 s.time, .int .i64 s.mark, .int .i64 s.id, .int .i64 s.udp, .int .i64 s.h.kind, .int .i64 s.h.tos, .int .i64 s.h.id, .int .i64 s.h.fixed, .int .i64 s.h.ttl, .int .i64 s.h.frm, .int .i64 s.h.to, .int .i64 s.h.fromPort, .int .i64 s.h.toPort, .int .i64 s.h.check, .int .i64 s.h.marker, .int .i64 s.h.type, .int .i64 s.h.seq, .int .i64 s.h.time, .int .i64 s.h.source, .int .i64 s.ds, .int .i64 s.df, .int .i64 s.chk, .slice s.pa s.pn s.pc] ∧ W.cell? ⟨0, s.fmt.toNat * 2 + 1, none⟩ = some (.int .i64 st)) (by kernel_rfl) A0.out (fun hHeld => ?_)
    refine take_lit (i := 0) (v := (.agg #[.int .i64 s.ctx, .int .i64 s.fmt, .int .i64 s.num, .int .i64 s.time, .int .i64 s.mark, .int .i64 s.id, .int .i64 s.udp, .int .i64 s.h.kind, .int .i64 s.h.tos, .int .i64 s.h.id, .int .i64 s.h.fixed, .int .i64 s.h.ttl, .int .i64 s.h.frm, .int .i64 s.h.to, .int .i64 s.h.fromPort, .int .i64 s.h.toPort, .int .i64 s.h.check, .int .i64 s.h.marker, .int .i64 s.h.type, .int .i64 s.h.seq, .int .i64 s.h.time, .int .i64 s.h.source, .int .i64 s.ds, .int .i64 s.df, .int .i64 s.chk, .slice s.pa s.pn s.pc])) 10 rfl rfl (by kernel_rfl) (by kernel_rfl) (by kernel_rfl) (fun _ _ _ h => h) (yieldsIf_load_mid (by rfl) _ _ rfl _ _ rfl [.int .i64 s.ctx, .int .i64 s.fmt, .int .i64 s.num, .int .i64 s.time, .int .i64 s.mark, .int .i64 s.id, .int .i64 s.udp, .int .i64 s.h.kind, .int .i64 s.h.tos, .int .i64 s.h.id, .int .i64 s.h.fixed, .int .i64 s.h.ttl, .int .i64 s.h.frm, .int .i64 s.h.to, .int .i64 s.h.fromPort, .int .i64 s.h.toPort, .int .i64 s.h.check, .int .i64 s.h.marker, .int .i64 s.h.type, .int .i64 s.h.seq, .int .i64 s.h.time, .int .i64 s.h.source, .int .i64 s.ds, .int .i64 s.df, .int .i64 s.chk, .slice s.pa s.pn s.pc] _ (fun w h => sm_range h.1) Tryd.underlying28 rfl info_sm) (by assumption) ?_
    simp only [Act.put, List.setIfInBounds_toArray, List.set_cons_zero, List.set_cons_succ]
    refine take_lit (i := 1) (v := .pointer (some ⟨g0, 1, none⟩)) 11 rfl rfl (by kernel_rfl) (by kernel_rfl) (by kernel_rfl) (fun _ _ _ h => h) (Or.inl ⟨by rfl, fun w hSw => by go_simp⟩) (by assumption) ?_
    simp only [Act.put, List.setIfInBounds_toArray, List.set_cons_zero, List.set_cons_succ]
    refine take_lit (i := 2) (v := .int .i64 s.fmt) 12 rfl rfl (by kernel_rfl) (by kernel_rfl) (by kernel_rfl) (fun _ _ _ h => h) (Or.inl ⟨by rfl, fun w hSw => by have c1 := cells_of hSw.1 1; clear hSw; go_simp⟩) (by assumption) ?_
    simp only [Act.put, List.setIfInBounds_toArray, List.set_cons_zero, List.set_cons_succ]
    refine take_lit (i := 3) (v := .pointer (some ⟨0, s.fmt.toNat * 2, none⟩)) 13 rfl rfl (by kernel_rfl) (by kernel_rfl) (by kernel_rfl) (fun _ _ _ h => h) (Or.inl ⟨by rfl, fun w hSw => by clear hSw; go_simp; intro h9; exact absurd (h9 (by omega)) (by omega)⟩) (by assumption) ?_
    simp only [Act.put, List.setIfInBounds_toArray, List.set_cons_zero, List.set_cons_succ]
    refine take_lit (i := 4) (v := .pointer (some ⟨0, s.fmt.toNat * 2 + 1, none⟩)) 14 rfl rfl (by kernel_rfl) (by kernel_rfl) (by kernel_rfl) (fun _ _ _ h => h) (Or.inl ⟨by rfl, fun w hSw => by clear hSw; go_simp⟩) (by assumption) ?_
    simp only [Act.put, List.setIfInBounds_toArray, List.set_cons_zero, List.set_cons_succ]
    refine take_lit (i := 5) (v := .int .i64 st) 15 rfl rfl (by kernel_rfl) (by kernel_rfl) (by kernel_rfl) (fun _ _ _ h => h) (Or.inl ⟨by rfl, fun w hSw => by have c2 := hSw.2; clear hSw; go_simp⟩) (by assumption) ?_
    simp only [Act.put, List.setIfInBounds_toArray, List.set_cons_zero, List.set_cons_succ]
    refine take_lit (i := 6) (v := (.agg #[.int .i64 s.ctx, .int .i64 s.fmt, .int .i64 s.num, .int .i64 s.time, .int .i64 s.mark, .int .i64 s.id, .int .i64 s.udp, .int .i64 s.h.kind, .int .i64 s.h.tos, .int .i64 s.h.id, .int .i64 s.h.fixed, .int .i64 s.h.ttl, .int .i64 s.h.frm, .int .i64 s.h.to, .int .i64 s.h.fromPort, .int .i64 s.h.toPort, .int .i64 s.h.check, .int .i64 s.h.marker, .int .i64 s.h.type, .int .i64 s.h.seq, .int .i64 s.h.time, .int .i64 s.h.source, .int .i64 s.ds, .int .i64 s.df, .int .i64 s.chk, .slice s.pa s.pn s.pc, .int .i64 st, .int .i64 0, .int .i64 0])) 16 rfl rfl (by kernel_rfl) (by kernel_rfl) (by kernel_rfl) (fun _ _ _ h => h) (Or.inl ⟨by rfl, fun w _ => by kernel_rfl⟩) (by assumption) ?_
    simp only [Act.put, List.setIfInBounds_toArray, List.set_cons_zero, List.set_cons_succ]
    refine wpAnyH_ready (rs := [7]) (by kernel_rfl) (by simp) ?_
    refine AllReadyH.cons rfl (fun K hK => ?_) AllReadyH.nil
    go_simp
    have KZ : ((w2.alloc (.cells zeroD 59)).drew).heap[w2.heap.size]? = some (.cells zeroD 59 (0, 0)) := heap_alloc_new w2 (.cells zeroD 59)
    have B3 := (Below.refl w2.heap.size w2).alloc (Nat.le_refl _) (.cells zeroD 59)
    have A1 : Hid (Blk 28 ((w2.alloc (.cells zeroD 59)).drew) g0 #[.int .i64 s.ctx, .int .i64 s.fmt, .int .i64 s.num, .int .i64 s.time, .int .i64 s.mark, .int .i64 s.id, .int .i64 s.udp, .int .i64 s.h.kind, .int .i64 s.h.tos, .int .i64 s.h.id, .int .i64 s.h.fixed, .int .i64 s.h.ttl, .int .i64 s.h.frm, .int .i64 s.h.to, .int .i64 s.h.fromPort, .int .i64 s.h.toPort, .int .i64 s.h.check, .int .i64 s.h.marker, .int .i64 s.h.type, .int .i64 s.h.seq, .int .i64 s.h.time, .int .i64 s.h.source, .int .i64 s.ds, .int .i64 s.df, .int .i64 s.chk, .slice s.pa s.pn s.pc] ∧ ((w2.alloc (.cells zeroD 59)).drew).cell? ⟨0, s.fmt.toNat * 2 + 1, none⟩ = some (.int .i64 st)) := Lib.hid ⟨(KG.out.keep B3.drew), (B3.drew.cell (p := ⟨0, s.fmt.toNat * 2 + 1, none⟩) (World.block_lt_of_cell? w2 _ HS2.out)).trans HS2.out⟩
    refine hK.out _ _ A1.out (fun hHeld => ?_)
    clear hK K
    refine wpAnyH_ready (rs := [8]) (by kernel_rfl) (by simp) ?_
    refine AllReadyH.cons rfl (fun K hK => ?_) AllReadyH.nil
    refine step_store_blk (n := 29) rfl rfl _ _ rfl rfl rfl KZ rfl rfl info_draft (by simp [Value.oneCell']) ?_
    intro w3 K3 G3
    have hlt2 : g0 < w2.heap.size := KG.out.lt
    have P3 := A1.out.1.keepRow G3 (fun e => by have := Option.some.inj e; omega)
    have B4 : Below w2.heap.size w2 w3 := B3.drew.trans (Below.of_row G3 (fun g e => by rw [← Option.some.inj e]; exact Nat.le_refl _) (by simp))
    refine hK.out _ _ ⟨P3, (B4.cell (p := ⟨0, s.fmt.toNat * 2 + 1, none⟩) (World.block_lt_of_cell? w2 _ HS2.out)).trans HS2.out⟩ (fun hHeld => ?_)
    clear hK K
    refine wpAnyH_done (by kernel_rfl) ?_ _
    refine NoPanic.normal ?_
    have Q3 : DrS w w3 w2.heap.size g0 s st 0 := ⟨K3, P3, HSS.out.keep B4, B2.out.trans (B4.mono B2.out.size), B2.out.size, hlt2⟩
    have Q4 := Lib.hid Q3
    clear Q3 P3 K3 G3 B4 A1 KZ B3 A0
    subst hg0
    go_wp2
    go_meet
    exact ⟨_, _, rfl, rfl, Q4.out⟩
  case rest =>
    obtain ⟨D, wx, rfl, rfl, q⟩ := hcut
    have Q := Lib.hid q
    clear q KA BW CV B2 HS2 KK HSS
    have c16 := cells_of Q.out.p 16
    go_upto_if 20 with fail
    go_cut [] (fun wc => ∃ wx, wx = wc ∧ DrS w wx D w.heap.size s st (if s.h.check = 0 then 0 else 1))
    case first =>
      by_cases hk : s.h.check = 0
      · have k1 : (s.h.check != 0) = false := by rw [hk]; rfl
        have Q2 : Hid (DrS w wx D w.heap.size s st (if s.h.check = 0 then 0 else 1)) := by rw [if_pos hk]; exact Q
        clear hk
        go_wp2_with fail
        go_meet
        exact ⟨_, rfl, Q2.out⟩
      · have k1 : (s.h.check != 0) = true := by simpa using hk
        have fz := frozen_of Q.out.d 27
        have c27 := Q.out.cell 27
        have Q2 : Hid (DrS w (wx.setCell ⟨D, 27, none⟩ (.int .i64 1)) D w.heap.size s st (if s.h.check = 0 then 0 else 1)) := by
          rw [if_neg hk]
          have q := Q.out
          have g := setCell_but wx D 27 (.int .i64 1)
          have hd := q.h.2
          refine Lib.hid ⟨?_, q.p.keepRow g (fun e => by have := Option.some.inj e; omega), ?_, q.b.trans (Below.of_row g (fun k e => by rw [← Option.some.inj e]; exact q.h.1) q.b.size), q.h⟩
          · have k := blk_set q.d 27 (.int .i64 1)
            simp only [List.setIfInBounds_toArray, List.set_cons_succ, List.set_cons_zero] at k
            exact k
          · intro i v hv
            have c := q.t i v hv
            exact g.cell c (fun e => by have e2 : (0 : Nat) = D := Option.some.inj e; omega)
        clear hk
        go_wp2_with fail
        go_meet
        exact ⟨_, rfl, Q2.out⟩
    case rest =>
      obtain ⟨wy, rfl, q⟩ := hcut
      clear Q c16
      have Q := Lib.hid q
      clear q
      generalize hckd : (if s.h.check = 0 then (0 : Int) else 1) = ck at Q
      have HCK := Lib.hid hckd.symm
      clear hckd
      have CF := Lib.hid (fields_any2 D s.fmt s.h.kind wy V.out.fk (cells_of Q.out.d 1) (cells_of Q.out.d 7) Q.out.t)
      go_wp2_with fail
      refine CF.out.mono ?_
      rintro e w4 ⟨gf, cf, rfl, hfr, hb4⟩
      have HFM := Lib.hid (hfr.mono Q.out.b.size)
      have hgf : wy.heap.size ≤ gf := (hfr.ge gf rfl).1
      have hDy : D < wy.heap.size := Q.out.d.lt
      have hgy := Q.out.h
      have Q4 := Lib.hid (Q.out.keep hb4)
      clear hfr hb4 CF Q
      have CC := Lib.hid (fun W h => checksum_any D s.fmt W h)
      have hck := Q4.out.ck
      have hf4 := Q4.out.cell 1
      go_upto_if 26 with (first | (go_at_call 29; ((with_reducible refine (CC.out _ hf4).mono ?_); rintro e w' ⟨rfl, rfl⟩)) | fail)
      have hlen : (fldL s.fmt s.h.kind).length ≤ 20 := by unfold fldL; (repeat' split) <;> decide
      go_cut [5] (fun s5 wc => ∃ g5 c5 wx, s5 = .slice (some ⟨g5, 0, none⟩) (encF s).length c5 ∧ wx = wc ∧ FR D w.heap.size wx (.slice (some ⟨g5, 0, none⟩) (encF s).length c5) (encF s).length (encF s) ∧ DrS w wx D w.heap.size s st ck)
      case first =>
        by_cases hk : ckV s = 0
        · have k1 : (ckV s != 0) = false := by rw [hk]; rfl
          have e : encF s = fldL s.fmt s.h.kind := by unfold encF; rw [if_pos hk, List.append_nil]
          have HE := Lib.hid e
          clear hk e
          go_wp2_with fail
          go_meet
          exact ⟨_, _, _, by rw [HE.out], rfl, by rw [HE.out]; exact HFM.out, Q4.out⟩
        · have k1 : (ckV s != 0) = true := by simpa using hk
          have e : encF s = fldL s.fmt s.h.kind ++ [(16, ckAt s.fmt)] := by unfold encF; rw [if_neg hk]
          have el : (encF s).length = (fldL s.fmt s.h.kind).length + 1 := by rw [e]; simp
          have HE := Lib.hid e
          have HEL := Lib.hid el
          clear hk e el
          have LIT := FR.lit D w4.heap.size w4 [(16, ckAt s.fmt)] 1 (Nat.le_refl _) rfl (by omega)
          simp only [fCells] at LIT
          have LIT := Lib.hid LIT
          generalize fldL s.fmt s.h.kind = L0 at HFM hlen HE HEL ⊢
          go_wp2_with (first
            | (go_at_call 29; ((with_reducible refine (CC.out _ hf4).mono ?_); rintro e w' ⟨rfl, rfl⟩))
            | (at_builtin; ((with_reducible refine wpList_append_fr rfl (.tmp 27) (.tmp 30) rfl D w.heap.size w4.heap.size (.slice (some ⟨gf, 0, none⟩) L0.length cf) L0.length L0 rfl (HFM.out.alloc _) w4.heap.size 1 1 [(16, ckAt s.fmt)] LIT.out rfl (by omega) (by omega) (by simp; exact Nat.le_succ_of_le Q4.out.b.size) ?_); intro g9 c9 w9 hf hg _; have HF9 := Lib.hid hf; have Q9 := Lib.hid ((Q4.out.keep ((Below.refl w4.heap.size w4).alloc (Nat.le_refl _) _)).row hg (fun k e => by have e2 : gf = k := Option.some.inj e; omega)); clear hf hg))
            | fail)
          go_meet
          exact ⟨_, _, _, by rw [HEL.out], rfl, by rw [HEL.out, HE.out]; exact HF9.out, Q9.out⟩
      case rest =>
        obtain ⟨g5, c5, wz, rfl, rfl, hfr5, q5⟩ := hcut
        have hb9 := (Below.refl wz.heap.size wz).alloc (Nat.le_refl _) (.cells #[] 5)
        have ME := Lib.hid (Mk.empty .u8 5 w.heap.size wz q5.b.size)
        have FA := Lib.hid (hfr5.alloc (.cells #[] 5))
        have QA := Lib.hid (q5.keep hb9)
        have hDz : D < wz.heap.size := q5.d.lt
        have hgz := q5.h
        have hbz := q5.b.size
        have h5z : g5 < wz.heap.size := (hfr5.ge g5 rfl).2
        have hsa : (wz.alloc (.cells #[] 5)).heap.size = wz.heap.size + 1 := by simp
        have HSA := Lib.hid hsa
        clear hsa
        have hn21 : (encF s).length ≤ 21 := by unfold encF; split <;> simp <;> omega
        generalize hN : (encF s).length = N at FA hn21 ⊢
        have HN := Lib.hid hN
        clear hb9 hfr5 q5 hN
        have ca0 := cells_of QA.out.p 0
        go_upto_if 35 with fail
        go_cut [6] (fun s6 wc => ∃ a n c wx, s6 = .slice a n c ∧ wx = wc ∧ (a = none → c = 0) ∧ (∀ x, a = some x → D < x.block) ∧ Mk .u8 5 w.heap.size wx (.slice a n c) n (ctxL s) ∧ n ≤ 1 ∧ FR D w.heap.size wx (.slice (some ⟨g5, 0, none⟩) N c5) N (encF s) ∧ DrS w wx D w.heap.size s st ck)
        case first =>
          by_cases hc : 0 < s.ctx
          · have HC : Hid (ctxL s = [224 + s.ctx]) := Lib.hid (by unfold ctxL; rw [if_pos hc])
            have c15 := V.out.ctx.2
            have hor := or_ctx s.ctx hc c15
            have hwf : (Lit.int .u8 (224 + s.ctx)).wf = true := byte_wf (by omega) (by omega)
            have hwr : IntKind.u8.wrap (224 + s.ctx) = 224 + s.ctx := by simp [IntKind.wrap, IntKind.signed, IntKind.bits]; omega
            have LX := (Mk.lit .u8 5 w.heap.size (wz.alloc (.cells #[] 5)) [224 + s.ctx] 1 (by rw [HSA.out]; omega) rfl (by omega) (fun z hz => by simp at hz; subst hz; exact hwf)).sl
            simp only [List.map_cons, List.map_nil] at LX
            rw [HSA.out] at LX
            have LX := Lib.hid LX
            have ca0' := (World.cell?_of_block (heap_alloc_old (wz.alloc (.cells #[] 5)) (.cells #[.int .u8 (224 + s.ctx)] 5) QA.out.p.lt)).trans ca0
            have hb8 := (Below.refl (wz.alloc (.cells #[] 5)).heap.size (wz.alloc (.cells #[] 5))).alloc (Nat.le_refl _) (.cells #[.int .u8 (224 + s.ctx)] 5)
            have QB := Lib.hid (QA.out.keep hb8)
            have FB := Lib.hid (FA.out.keep hb8)
            clear hb8
            go_wp2_with (first
              | (at_builtin; refine wpList_push_at rfl (.tmp 36) (.tmp 41) 26 rfl .u8 5 w.heap.size 1 Tryd.underlying26 info_u8 (.slice (some ⟨wz.heap.size, 0, none⟩) 0 0) 0 [] rfl (ME.out.alloc _) (224 + s.ctx) (wz.heap.size + 1) 0 1 LX.out rfl (by omega) (by omega) (by simp; omega) ?_; intro g7 c7 w7 hm hg hl; have M7 := Lib.hid hm; have h7 : D < g7 := hl.elim (fun e => (by have e2 : wz.heap.size = g7 := Option.some.inj e; omega)) (fun e => (by rw [e]; simp; omega)); have Q7 := Lib.hid (QB.out.row hg (fun k e => by have e2 : wz.heap.size = k := Option.some.inj e; omega)); have F7 := Lib.hid (FB.out.keepRow hg (.inr (fun e => by have e2 : g5 = wz.heap.size := Option.some.inj e; omega))); clear hm hg hl)
              | fail)
            clear ca0'
            go_meet
            exact ⟨_, _, _, _, rfl, rfl, (fun h => by cases h), (fun x e => by cases e; exact h7), by rw [HC.out]; exact M7.out, by omega, F7.out, Q7.out⟩
          · have HC : Hid (ctxL s = []) := Lib.hid (by unfold ctxL; rw [if_neg hc])
            go_wp2_with fail
            go_meet
            exact ⟨_, _, _, _, rfl, rfl, (fun h => by cases h), (fun x e => by cases e; exact hDz), by rw [HC.out]; exact ME.out, by omega, FA.out, QA.out⟩
        case rest =>
          obtain ⟨ab, nb, cb, wb, rfl, rfl, hnb, hlb, hmb, hnb1, hfb, qb⟩ := hcut
          have HLB := Lib.hid hlb
          clear ME FA QA HSA ca0 hDz hgz hbz h5z
          have HNB := Lib.hid hnb
          have MB := Lib.hid hmb
          have QB := Lib.hid qb
          have CP : Hid (Calls Tryd.prog 30 #[.slice (some ⟨g5, 0, none⟩) N c5] wb (PackR (encH s ++ ckL s) wb)) := by
            refine Lib.hid ?_
            rw [← (pack_ck s V.out ck HCK.out).1]
            refine pack_any D w.heap.size g5 N c5 (encF s) _ _ wb hfb (by omega) ?_ ?_ ?_ ?_
            · unfold encF fWs; split <;> simp
            · unfold fVs; rw [← HN.out]; unfold encF; split <;> simp
            · intro i hi
              rw [HST.out]
              exact qb.all i (by rw [HN.out]; exact hi)
            · intro i hi
              exact enc_wf s V.out ck HCK.out i (by rw [HN.out]; exact hi)
          have hle : (encH s ++ ckL s).length ≤ 200 := by
            have a := encH_len s V.out
            have b := ckL_len s
            rw [List.length_append]; omega
          clear hnb hlb hmb hfb qb
          go_wp2_with fail
          refine CP.out.mono ?_
          rintro e wp ⟨ap, np, cp, rfl, hnp, hmp, hbp⟩
          have hlp := hmp.len
          have hnp2 : np ≤ 200 := by omega
          have QP := Lib.hid (QB.out.keep hbp)
          have MP := Lib.hid (MB.out.keep hbp)
          have SP := Lib.hid hmp.sl
          have NP := Lib.hid hnp
          clear hmp hbp hnp hlp CP hle MB QB
          have hbw := QP.out.b.size
          have hwD := QP.out.h
          have HGE := Lib.hid MP.out.own_ge
          have hlen := V.out.pn
          have HPZ := Lib.hid HI.out.sl.len
          go_upto_region 13 with (first
            | (at_builtin; refine wpList_append_at rfl (.tmp 43) (.tmp 45) 26 rfl .u8 5 w.heap.size 1 Tryd.underlying26 info_u8 (.slice ab nb cb) nb (ctxL s) rfl MP.out ap np cp (encH s ++ ckL s) rfl SP.out NP.out (by omega) (by omega) hbw ?_; intro a8 c8 w8 hm hg hl hn; have M8 := Lib.hid hm; have G8 := Lib.hid hg; have N8 := Lib.hid hn; clear hm hg hl hn)
            | fail)
          have B8 := Lib.hid (QP.out.b.trans (Below.of_row G8.out (fun k e => (HGE.out k e).1) hbw))
          have c25 : w8.cell? ⟨w.heap.size, 25, none⟩ = some (.slice s.pa s.pn s.pc) := G8.out.cell (cells_of QP.out.p 25) (fun e => by
            cases ab with
            | none => cases e
            | some x =>
              have e2 : w.heap.size = x.block := Option.some.inj e
              have := HLB.out x rfl
              have := QP.out.h.2
              omega)
          have S8 := Lib.hid (HI.out.sl.keep B8.out)
          have HNI := Lib.hid HI.out.nil
          have hb8 := B8.out.size
          go_wp2_with (first
            | (at_builtin; refine wpList_append_at rfl (.tmp 47) (.tmp 49) 26 rfl .u8 5 w.heap.size 1 Tryd.underlying26 info_u8 (.slice a8 (nb + np) c8) (nb + np) (ctxL s ++ (encH s ++ ckL s)) rfl M8.out s.pa s.pn s.pc s.pz rfl S8.out HNI.out (by omega) (by omega) hb8 ?_; intro a9 c9 w9 hm hg hl hn; have M9 := Lib.hid hm; have G9 := Lib.hid hg; have N9 := Lib.hid hn; clear hm hg hl hn)
            | fail)
          go_ret2
          exact ⟨_, _, _, rfl, fun h => (N9.out h).2, M9.out, B8.out.trans (Below.of_row G9.out (fun k e => (M8.out.own_ge k e).1) hb8)⟩
end Go.Proofs.YtkhcfmnebflgkaaDoor
