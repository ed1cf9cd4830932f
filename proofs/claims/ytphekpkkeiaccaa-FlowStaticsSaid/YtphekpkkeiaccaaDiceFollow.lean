/-
  Follow of the statements' own helpers: a header of the same flow behind another one.
-/
import Derived.Test.YtphekpkkeiaccaaDice2
import Derived.Test.YtphekpkkeiaccaaHdBox
import Derived.Test.YtphekpkkeiaccaaDiceHeader
import Derived.Deep.DeepCutAuto
import Derived.Deep.CutBlock
import Derived.Deep.RegionLaw
namespace Go.Proofs.Ytphekpkkeiaccaa
open Go Go.RowKit

/-- the static fields are the same -/
structure StatS (h x : Hd) : Prop where
  kind : x.kind = h.kind
  frm : x.frm = h.frm
  dest : x.to = h.to
  fromPort : x.fromPort = h.fromPort
  toPort : x.toPort = h.toPort
  source : x.source = h.source
/-- s steps on, and regularly so -/
structure FolS (h x : Hd) (s : Int) : Prop where
  stat : StatS h x
  tos : x.tos = h.tos
  fixed : x.fixed = h.fixed
  ttl : x.ttl = h.ttl
  type : x.type = h.type
  id : x.id = (h.id + s) % 65536
  check : x.check = 0 ↔ h.check = 0
  check0 : 0 ≤ x.check
  check1 : x.check ≤ 65535
  seq : h.kind = 2 → x.seq = (h.seq + s) % 65536
  time : h.kind = 2 → x.time = (h.time + 160 * s) % 4294967296
  marker : h.kind = 2 → x.marker = 0
  udp : h.kind ≠ 2 → x.seq = h.seq ∧ x.time = h.time ∧ x.marker = h.marker
theorem FolS.valid {h x : Hd} {s : Int} (q : FolS h x s) (v : h.Valid) : x.Valid := by
  obtain ⟨⟨a1, a2, a3, a4, a5, a6⟩, b1, b2, b3, b4, b5, b6, b7, b8, b9, b10, b11, b12⟩ := q
  have v := validB_true v
  refine validB_of ?_
  unfold validB at *
  have v := of_decide_eq_true v
  refine decide_eq_true ?_
  by_cases k : h.kind = 2
  · have := b9 k
    have := b10 k
    have := b11 k
    omega
  · have := b12 k
    omega
/-- valid, with the same static fields -/
structure VS (h x : Hd) : Prop where
  valid : x.Valid
  stat : StatS h x
theorem FolS.vs {h x : Hd} {s : Int} (q : FolS h x s) (v : h.Valid) : VS h x := ⟨q.valid v, q.stat⟩

/-- where a walk through Follow stands: the header in its block, the answer's block, the dice -/
structure FS (w : World) (g : Nat) (wx : World) (x : Hd) : Prop where
  k : wx.heap[w.heap.size]? = some (.cells #[.int .i64 x.kind, .int .i64 x.tos, .int .i64 x.id, .int .i64 x.fixed, .int .i64 x.ttl, .int .i64 x.frm, .int .i64 x.to, .int .i64 x.fromPort, .int .i64 x.toPort, .int .i64 x.check, .int .i64 x.marker, .int .i64 x.type, .int .i64 x.seq, .int .i64 x.time, .int .i64 x.source] 23 (0, 0))
  z : wx.heap[w.heap.size + 1]? = some (.cells #[.int .i64 0, .int .i64 0, .int .i64 0, .int .i64 0, .int .i64 0, .int .i64 0, .int .i64 0, .int .i64 0, .int .i64 0, .int .i64 0, .int .i64 0, .int .i64 0, .int .i64 0, .int .i64 0, .int .i64 0] 23 (0, 0))
  d : DiceIn wx g
  g : w.grownBy wx (some g)
theorem FS.next {w wx w5 : World} {g : Nat} {x : Hd} (q : FS w g wx x) (hlt : g < w.heap.size) (hd : DiceIn w5 g) (hg : wx.grownBy w5 (some g)) : FS w g w5 x :=
  ⟨(hg.block _ (lt_of_block q.k) (by simp; omega)).trans q.k, (hg.block _ (lt_of_block q.z) (by simp; omega)).trans q.z, hd, q.g.trans hg⟩
theorem FS.drew {w wx : World} {g : Nat} {x : Hd} (q : FS w g wx x) : FS w g wx.drew x := ⟨q.k, q.z, q.d.drew, ⟨q.g.os, q.g.tape, q.g.output, q.g.size, q.g.block⟩⟩
theorem FS.laid (w : World) (g : Nat) (x : Hd) (hd : DiceIn w g) : FS w g ((w.alloc (.cells #[.int .i64 x.kind, .int .i64 x.tos, .int .i64 x.id, .int .i64 x.fixed, .int .i64 x.ttl, .int .i64 x.frm, .int .i64 x.to, .int .i64 x.fromPort, .int .i64 x.toPort, .int .i64 x.check, .int .i64 x.marker, .int .i64 x.type, .int .i64 x.seq, .int .i64 x.time, .int .i64 x.source] 23)).alloc (.cells #[.int .i64 0, .int .i64 0, .int .i64 0, .int .i64 0, .int .i64 0, .int .i64 0, .int .i64 0, .int .i64 0, .int .i64 0, .int .i64 0, .int .i64 0, .int .i64 0, .int .i64 0, .int .i64 0, .int .i64 0] 23)) x := by
  refine ⟨(heap_alloc_old _ _ (by simp)).trans (heap_alloc_new w _), ?_, (hd.alloc _).alloc _, (World.grownBy_alloc w _ (some g)).trans (World.grownBy_alloc _ _ (some g))⟩
  have q := heap_alloc_new (w.alloc (.cells #[.int .i64 x.kind, .int .i64 x.tos, .int .i64 x.id, .int .i64 x.fixed, .int .i64 x.ttl, .int .i64 x.frm, .int .i64 x.to, .int .i64 x.fromPort, .int .i64 x.toPort, .int .i64 x.check, .int .i64 x.marker, .int .i64 x.type, .int .i64 x.seq, .int .i64 x.time, .int .i64 x.source] 23)) (.cells #[.int .i64 0, .int .i64 0, .int .i64 0, .int .i64 0, .int .i64 0, .int .i64 0, .int .i64 0, .int .i64 0, .int .i64 0, .int .i64 0, .int .i64 0, .int .i64 0, .int .i64 0, .int .i64 0, .int .i64 0] 23)
  rw [show (w.alloc (.cells #[.int .i64 x.kind, .int .i64 x.tos, .int .i64 x.id, .int .i64 x.fixed, .int .i64 x.ttl, .int .i64 x.frm, .int .i64 x.to, .int .i64 x.fromPort, .int .i64 x.toPort, .int .i64 x.check, .int .i64 x.marker, .int .i64 x.type, .int .i64 x.seq, .int .i64 x.time, .int .i64 x.source] 23)).heap.size = w.heap.size + 1 by simp] at q
  exact q
theorem FS.tos {w wx : World} {g : Nat} {x : Hd} (q : FS w g wx x) (hlt : g < w.heap.size) (v : Int) : FS w g (wx.setCell ⟨w.heap.size, 1, none⟩ (.int .i64 v)) ⟨x.kind, v, x.id, x.fixed, x.ttl, x.frm, x.to, x.fromPort, x.toPort, x.check, x.marker, x.type, x.seq, x.time, x.source⟩ := by
  have r := blk_set q.k 1 (.int .i64 v)
  simp only [List.setIfInBounds_toArray, List.set_cons_succ, List.set_cons_zero] at r
  exact ⟨r, blk_set_ne q.z (by omega) 1 _, q.d.set hlt 1 _, grown_set q.g (Nat.le_refl _) 1 _⟩
theorem FS.id {w wx : World} {g : Nat} {x : Hd} (q : FS w g wx x) (hlt : g < w.heap.size) (v : Int) : FS w g (wx.setCell ⟨w.heap.size, 2, none⟩ (.int .i64 v)) ⟨x.kind, x.tos, v, x.fixed, x.ttl, x.frm, x.to, x.fromPort, x.toPort, x.check, x.marker, x.type, x.seq, x.time, x.source⟩ := by
  have r := blk_set q.k 2 (.int .i64 v)
  simp only [List.setIfInBounds_toArray, List.set_cons_succ, List.set_cons_zero] at r
  exact ⟨r, blk_set_ne q.z (by omega) 2 _, q.d.set hlt 2 _, grown_set q.g (Nat.le_refl _) 2 _⟩
theorem FS.ttl {w wx : World} {g : Nat} {x : Hd} (q : FS w g wx x) (hlt : g < w.heap.size) (v : Int) : FS w g (wx.setCell ⟨w.heap.size, 4, none⟩ (.int .i64 v)) ⟨x.kind, x.tos, x.id, x.fixed, v, x.frm, x.to, x.fromPort, x.toPort, x.check, x.marker, x.type, x.seq, x.time, x.source⟩ := by
  have r := blk_set q.k 4 (.int .i64 v)
  simp only [List.setIfInBounds_toArray, List.set_cons_succ, List.set_cons_zero] at r
  exact ⟨r, blk_set_ne q.z (by omega) 4 _, q.d.set hlt 4 _, grown_set q.g (Nat.le_refl _) 4 _⟩
theorem FS.check {w wx : World} {g : Nat} {x : Hd} (q : FS w g wx x) (hlt : g < w.heap.size) (v : Int) : FS w g (wx.setCell ⟨w.heap.size, 9, none⟩ (.int .i64 v)) ⟨x.kind, x.tos, x.id, x.fixed, x.ttl, x.frm, x.to, x.fromPort, x.toPort, v, x.marker, x.type, x.seq, x.time, x.source⟩ := by
  have r := blk_set q.k 9 (.int .i64 v)
  simp only [List.setIfInBounds_toArray, List.set_cons_succ, List.set_cons_zero] at r
  exact ⟨r, blk_set_ne q.z (by omega) 9 _, q.d.set hlt 9 _, grown_set q.g (Nat.le_refl _) 9 _⟩
theorem FS.marker {w wx : World} {g : Nat} {x : Hd} (q : FS w g wx x) (hlt : g < w.heap.size) (v : Int) : FS w g (wx.setCell ⟨w.heap.size, 10, none⟩ (.int .i64 v)) ⟨x.kind, x.tos, x.id, x.fixed, x.ttl, x.frm, x.to, x.fromPort, x.toPort, x.check, v, x.type, x.seq, x.time, x.source⟩ := by
  have r := blk_set q.k 10 (.int .i64 v)
  simp only [List.setIfInBounds_toArray, List.set_cons_succ, List.set_cons_zero] at r
  exact ⟨r, blk_set_ne q.z (by omega) 10 _, q.d.set hlt 10 _, grown_set q.g (Nat.le_refl _) 10 _⟩
theorem FS.type {w wx : World} {g : Nat} {x : Hd} (q : FS w g wx x) (hlt : g < w.heap.size) (v : Int) : FS w g (wx.setCell ⟨w.heap.size, 11, none⟩ (.int .i64 v)) ⟨x.kind, x.tos, x.id, x.fixed, x.ttl, x.frm, x.to, x.fromPort, x.toPort, x.check, x.marker, v, x.seq, x.time, x.source⟩ := by
  have r := blk_set q.k 11 (.int .i64 v)
  simp only [List.setIfInBounds_toArray, List.set_cons_succ, List.set_cons_zero] at r
  exact ⟨r, blk_set_ne q.z (by omega) 11 _, q.d.set hlt 11 _, grown_set q.g (Nat.le_refl _) 11 _⟩
theorem FS.seq {w wx : World} {g : Nat} {x : Hd} (q : FS w g wx x) (hlt : g < w.heap.size) (v : Int) : FS w g (wx.setCell ⟨w.heap.size, 12, none⟩ (.int .i64 v)) ⟨x.kind, x.tos, x.id, x.fixed, x.ttl, x.frm, x.to, x.fromPort, x.toPort, x.check, x.marker, x.type, v, x.time, x.source⟩ := by
  have r := blk_set q.k 12 (.int .i64 v)
  simp only [List.setIfInBounds_toArray, List.set_cons_succ, List.set_cons_zero] at r
  exact ⟨r, blk_set_ne q.z (by omega) 12 _, q.d.set hlt 12 _, grown_set q.g (Nat.le_refl _) 12 _⟩
theorem FS.time {w wx : World} {g : Nat} {x : Hd} (q : FS w g wx x) (hlt : g < w.heap.size) (v : Int) : FS w g (wx.setCell ⟨w.heap.size, 13, none⟩ (.int .i64 v)) ⟨x.kind, x.tos, x.id, x.fixed, x.ttl, x.frm, x.to, x.fromPort, x.toPort, x.check, x.marker, x.type, x.seq, v, x.source⟩ := by
  have r := blk_set q.k 13 (.int .i64 v)
  simp only [List.setIfInBounds_toArray, List.set_cons_succ, List.set_cons_zero] at r
  exact ⟨r, blk_set_ne q.z (by omega) 13 _, q.d.set hlt 13 _, grown_set q.g (Nat.le_refl _) 13 _⟩
theorem VS.tos {h x : Hd} (q : VS h x) (v : Int) (b : 0 ≤ v ∧ v ≤ 255) : VS h ⟨x.kind, v, x.id, x.fixed, x.ttl, x.frm, x.to, x.fromPort, x.toPort, x.check, x.marker, x.type, x.seq, x.time, x.source⟩ := by
  refine ⟨validB_of ?_, ⟨q.stat.kind, q.stat.frm, q.stat.dest, q.stat.fromPort, q.stat.toPort, q.stat.source⟩⟩
  have y := validB_true q.valid
  have k := q.stat.kind
  unfold validB at *
  have y := of_decide_eq_true y
  refine decide_eq_true ?_
  dsimp only
  omega
theorem VS.ttl {h x : Hd} (q : VS h x) (v : Int) (b : 0 ≤ v ∧ v ≤ 255) : VS h ⟨x.kind, x.tos, x.id, x.fixed, v, x.frm, x.to, x.fromPort, x.toPort, x.check, x.marker, x.type, x.seq, x.time, x.source⟩ := by
  refine ⟨validB_of ?_, ⟨q.stat.kind, q.stat.frm, q.stat.dest, q.stat.fromPort, q.stat.toPort, q.stat.source⟩⟩
  have y := validB_true q.valid
  have k := q.stat.kind
  unfold validB at *
  have y := of_decide_eq_true y
  refine decide_eq_true ?_
  dsimp only
  omega
theorem VS.id {h x : Hd} (q : VS h x) (v : Int) (b : 0 ≤ v ∧ v ≤ 65535) : VS h ⟨x.kind, x.tos, v, x.fixed, x.ttl, x.frm, x.to, x.fromPort, x.toPort, x.check, x.marker, x.type, x.seq, x.time, x.source⟩ := by
  refine ⟨validB_of ?_, ⟨q.stat.kind, q.stat.frm, q.stat.dest, q.stat.fromPort, q.stat.toPort, q.stat.source⟩⟩
  have y := validB_true q.valid
  have k := q.stat.kind
  unfold validB at *
  have y := of_decide_eq_true y
  refine decide_eq_true ?_
  dsimp only
  omega
theorem VS.check {h x : Hd} (q : VS h x) (v : Int) (b : 0 ≤ v ∧ v ≤ 65535) : VS h ⟨x.kind, x.tos, x.id, x.fixed, x.ttl, x.frm, x.to, x.fromPort, x.toPort, v, x.marker, x.type, x.seq, x.time, x.source⟩ := by
  refine ⟨validB_of ?_, ⟨q.stat.kind, q.stat.frm, q.stat.dest, q.stat.fromPort, q.stat.toPort, q.stat.source⟩⟩
  have y := validB_true q.valid
  have k := q.stat.kind
  unfold validB at *
  have y := of_decide_eq_true y
  refine decide_eq_true ?_
  dsimp only
  omega
theorem VS.marker {h x : Hd} (q : VS h x) (v : Int) (b : (0 ≤ v ∧ v ≤ 1) ∧ h.kind = 2) : VS h ⟨x.kind, x.tos, x.id, x.fixed, x.ttl, x.frm, x.to, x.fromPort, x.toPort, x.check, v, x.type, x.seq, x.time, x.source⟩ := by
  refine ⟨validB_of ?_, ⟨q.stat.kind, q.stat.frm, q.stat.dest, q.stat.fromPort, q.stat.toPort, q.stat.source⟩⟩
  have y := validB_true q.valid
  have k := q.stat.kind
  unfold validB at *
  have y := of_decide_eq_true y
  refine decide_eq_true ?_
  dsimp only
  omega
theorem VS.type {h x : Hd} (q : VS h x) (v : Int) (b : (0 ≤ v ∧ v ≤ 127) ∧ h.kind = 2) : VS h ⟨x.kind, x.tos, x.id, x.fixed, x.ttl, x.frm, x.to, x.fromPort, x.toPort, x.check, x.marker, v, x.seq, x.time, x.source⟩ := by
  refine ⟨validB_of ?_, ⟨q.stat.kind, q.stat.frm, q.stat.dest, q.stat.fromPort, q.stat.toPort, q.stat.source⟩⟩
  have y := validB_true q.valid
  have k := q.stat.kind
  unfold validB at *
  have y := of_decide_eq_true y
  refine decide_eq_true ?_
  dsimp only
  omega
theorem VS.time {h x : Hd} (q : VS h x) (v : Int) (b : (0 ≤ v ∧ v ≤ 4294967295) ∧ h.kind = 2) : VS h ⟨x.kind, x.tos, x.id, x.fixed, x.ttl, x.frm, x.to, x.fromPort, x.toPort, x.check, x.marker, x.type, x.seq, v, x.source⟩ := by
  refine ⟨validB_of ?_, ⟨q.stat.kind, q.stat.frm, q.stat.dest, q.stat.fromPort, q.stat.toPort, q.stat.source⟩⟩
  have y := validB_true q.valid
  have k := q.stat.kind
  unfold validB at *
  have y := of_decide_eq_true y
  refine decide_eq_true ?_
  dsimp only
  omega

set_option maxRecDepth 100000 in
set_option maxHeartbeats 6400000 in
theorem follow_in (g : Nat) (h : Hd) (r : Bool) (w : World) (hd : DiceIn w g) (hv : h.Valid) :
    Calls Try.prog 25 #[.pointer (some ⟨g, 0, none⟩), (.agg #[.int .i64 h.kind, .int .i64 h.tos, .int .i64 h.id, .int .i64 h.fixed, .int .i64 h.ttl, .int .i64 h.frm, .int .i64 h.to, .int .i64 h.fromPort, .int .i64 h.toPort, .int .i64 h.check, .int .i64 h.marker, .int .i64 h.type, .int .i64 h.seq, .int .i64 h.time, .int .i64 h.source]), .bool r] w fun e w' => ∃ x : Hd, e = .returned (.agg #[.int .i64 x.kind, .int .i64 x.tos, .int .i64 x.id, .int .i64 x.fixed, .int .i64 x.ttl, .int .i64 x.frm, .int .i64 x.to, .int .i64 x.fromPort, .int .i64 x.toPort, .int .i64 x.check, .int .i64 x.marker, .int .i64 x.type, .int .i64 x.seq, .int .i64 x.time, .int .i64 x.source]) ∧ VS h x ∧ (r = true → FolS h x 1) ∧ DiceIn w' g ∧ w.grownBy w' (some g) := by
  have hlt := hd.lt
  have F0 := Lib.hid (FS.laid w g h hd)
  have HV := Lib.hid hv
  have fi := hv.fits.id
  have fs := hv.fits.seq
  have ft := hv.fits.time
  have b1 := hv.1.id0
  have b2 := hv.1.id1
  clear hd hv
  go_enter Try.func25, Try.ntmps25
  go_upto_region 2 with fail
  generalize (w.alloc (.cells #[.int .i64 h.kind, .int .i64 h.tos, .int .i64 h.id, .int .i64 h.fixed, .int .i64 h.ttl, .int .i64 h.frm, .int .i64 h.to, .int .i64 h.fromPort, .int .i64 h.toPort, .int .i64 h.check, .int .i64 h.marker, .int .i64 h.type, .int .i64 h.seq, .int .i64 h.time, .int .i64 h.source] 23)).alloc (.cells #[.int .i64 0, .int .i64 0, .int .i64 0, .int .i64 0, .int .i64 0, .int .i64 0, .int .i64 0, .int .i64 0, .int .i64 0, .int .i64 0, .int .i64 0, .int .i64 0, .int .i64 0, .int .i64 0, .int .i64 0] 23) = w0 at F0 ⊢
  go_cut [13] (fun s13 wx => ∃ b : Bool, s13 = .bool b ∧ (r = true → b = false) ∧ FS w g wx h)
  case first =>
    cases r with
    | true =>
      go_wp2
      go_meet
      exact ⟨false, rfl, fun _ => rfl, F0.out⟩
    | false =>
      go_wp2_with (go_at_call 26; refine (one_in g _ _ F0.out.d (by omega) (by omega)).mono ?_; rintro e w1 ⟨b, rfl, hd, hg⟩; have F1 := Lib.hid (F0.out.next hlt hd hg); clear hd hg)
      go_meet
      exact ⟨b, rfl, (fun h => by cases h), F1.out⟩
  case rest =>
    obtain ⟨b, rfl, hrb, hF⟩ := hcut
    clear F0
    have F1 := Lib.hid hF
    replace hrb := Lib.hid hrb
    clear hF
    go_upto_if 13 with fail
    go_cut [7] (fun s7 wx => ∃ s : Int, s7 = .int .i64 s ∧ 1 ≤ s ∧ s ≤ 20 ∧ (r = true → s = 1) ∧ FS w g wx h)
    case first =>
      cases b with
      | true =>
        go_wp2_with (first | (go_at_call 24; ((with_reducible refine (next_in g 20 _ F1.out.d (by omega) (by omega)).mono ?_); rintro e w2 ⟨q, rfl, q0, q1, hd, hg⟩; have F2 := Lib.hid (F1.out.next hlt hd hg); clear hd hg)) | fail)
        go_meet
        exact ⟨1 + q, rfl, by omega, by omega, (fun h => by cases hrb.out h), F2.out⟩
      | false =>
        go_wp2
        go_meet
        exact ⟨1, rfl, by omega, by omega, fun _ => rfl, F1.out⟩
    case rest =>
      obtain ⟨s, rfl, s0, s1, hrs, hF⟩ := hcut
      clear F1 hrb
      have F2 := Lib.hid hF
      replace hrs := Lib.hid hrs
      clear hF
      have hc := cells_of F2.out.k
      have hf := frozen_of F2.out.k
      go_upto_region 5 with (first | (go_at_call 29; refine (mod_any _ _ _ (by omega) (by omega) (by omega) (by omega)).mono ?_; rintro e w' ⟨rfl, rfl⟩) | fail)
      clear hc hf
      have F3 := Lib.hid (F2.out.id hlt ((h.id + s) % 65536))
      generalize wc.setCell ⟨w.heap.size, 2, none⟩ (.int .i64 ((h.id + s) % 65536)) = w3 at F3 ⊢
      clear F2
      have hc := cells_of F3.out.k
      have hf := frozen_of F3.out.k
      go_upto_if 25 with fail
      go_cut [] (fun wx => ∃ c : Int, (c = 0 ↔ h.check = 0) ∧ 0 ≤ c ∧ c ≤ 65535 ∧ FS w g wx ⟨h.kind, h.tos, (h.id + s) % 65536, h.fixed, h.ttl, h.frm, h.to, h.fromPort, h.toPort, c, h.marker, h.type, h.seq, h.time, h.source⟩)
      case first =>
        by_cases kc : h.check = 0
        · have K0 : (h.check != 0) = false := by rw [kc]; rfl
          have C := Lib.hid (show (∃ c : Int, (c = 0 ↔ h.check = 0) ∧ 0 ≤ c ∧ c ≤ 65535 ∧ FS w g w3 ⟨h.kind, h.tos, (h.id + s) % 65536, h.fixed, h.ttl, h.frm, h.to, h.fromPort, h.toPort, c, h.marker, h.type, h.seq, h.time, h.source⟩) from ⟨h.check, Iff.rfl, by omega, by omega, F3.out⟩)
          clear kc
          go_wp2
          go_meet
          exact C.out
        · have K0 : (h.check != 0) = true := by simpa using kc
          go_wp2_with (first | (go_at_call 24; ((with_reducible refine (next_in g 65535 _ F3.out.d (by omega) (by omega)).mono ?_); rintro e w4 ⟨q, rfl, q0, q1, hd, hg⟩; have F4 := Lib.hid (F3.out.next hlt hd hg); clear hd hg hc hf; have hc := cells_of F4.out.k; have hf := frozen_of F4.out.k)) | fail)
          go_meet
          exact ⟨1 + q, by omega, by omega, by omega, F4.out.check hlt (1 + q)⟩
      case rest =>
        obtain ⟨c, hc0, c0, c1, hF⟩ := hcut
        clear F3 hc hf
        have F4 := Lib.hid hF
        replace hc0 := Lib.hid hc0
        clear hF
        have hc := cells_of F4.out.k
        have hf := frozen_of F4.out.k
        have t0 : 0 ≤ h.seq ∧ h.seq ≤ 65535 := by
          rcases HV.out.2 with ⟨_, p⟩ | ⟨_, p⟩
          · have := p.seq; omega
          · have := p.seq0; have := p.seq1; omega
        have t1 : 0 ≤ h.time ∧ h.time ≤ 4294967295 := by
          rcases HV.out.2 with ⟨_, p⟩ | ⟨_, p⟩
          · have := p.time; omega
          · have := p.time0; have := p.time1; omega
        go_upto_if 32 with fail
        rename_i w5
        go_cut [] (fun wx => ∃ x : Hd, FolS h x s ∧ FS w g wx x)
        case first =>
          by_cases k2 : h.kind = 2
          · have K0 : (h.kind == 2) = true := by rw [k2]; rfl
            have Q := Lib.hid (show FolS h ⟨h.kind, h.tos, (h.id + s) % 65536, h.fixed, h.ttl, h.frm, h.to, h.fromPort, h.toPort, c, 0, h.type, (h.seq + s) % 65536, (h.time + 160 * s) % 4294967296, h.source⟩ s from ⟨⟨rfl, rfl, rfl, rfl, rfl, rfl⟩, rfl, rfl, rfl, rfl, rfl, hc0.out, c0, c1, fun _ => rfl, fun _ => rfl, fun _ => rfl, fun e => absurd k2 e⟩)
            clear k2
            go_wp2_with (first | (go_at_call 29; refine (mod_any _ _ _ (by omega) (by omega) (by omega) (by omega)).mono ?_; rintro e w' ⟨rfl, rfl⟩) | fail)
            go_meet
            exact ⟨_, Q.out, ((F4.out.seq hlt ((h.seq + s) % 65536)).time hlt ((h.time + 160 * s) % 4294967296)).marker hlt 0⟩
          · have K0 : (h.kind == 2) = false := by simpa using k2
            have Q := Lib.hid (show FolS h ⟨h.kind, h.tos, (h.id + s) % 65536, h.fixed, h.ttl, h.frm, h.to, h.fromPort, h.toPort, c, h.marker, h.type, h.seq, h.time, h.source⟩ s from ⟨⟨rfl, rfl, rfl, rfl, rfl, rfl⟩, rfl, rfl, rfl, rfl, rfl, hc0.out, c0, c1, fun e => absurd e k2, fun e => absurd e k2, fun e => absurd e k2, fun _ => ⟨rfl, rfl, rfl⟩⟩)
            clear k2
            go_wp2
            go_meet
            exact ⟨_, Q.out, F4.out⟩
        case rest =>
          obtain ⟨x, hx, hF⟩ := hcut
          clear F4 hc hf hc0 t0 t1
          have F5 := Lib.hid hF
          have X5 := Lib.hid hx
          clear hF hx
          go_upto_if 47 with fail
          cases r with
          | true =>
            obtain rfl : s = 1 := hrs.out rfl
            go_upto_region 12 with fail
            have hcx := cells_of F5.out.k
            have hcz := cells_of F5.out.z
            have hfz := frozen_of F5.out.z
            go_wp2
            clear hcx hcz hfz
            refine at_put (Q := bodyPost _ _ _ _ _) x ⟨0, 0, 0, 0, 0, 0, 0, 0, 0, 0, 0, 0, 0, 0, 0⟩ _ (w.heap.size + 1) F5.out.z ?_
            intro w7 K7 G7
            have hc7 := cells_of K7
            refine bodyPost_ret (v := (.agg #[.int .i64 x.kind, .int .i64 x.tos, .int .i64 x.id, .int .i64 x.fixed, .int .i64 x.ttl, .int .i64 x.frm, .int .i64 x.to, .int .i64 x.fromPort, .int .i64 x.toPort, .int .i64 x.check, .int .i64 x.marker, .int .i64 x.type, .int .i64 x.seq, .int .i64 x.time, .int .i64 x.source])) (by simp [results, Try.results25, go_sem, hc7]) rfl ?_
            exact ⟨x, rfl, X5.out.vs HV.out, (by first | exact X5.out | exact fun _ => X5.out), F5.out.d.keepRow G7 (fun q hq => by cases hq; omega), grown_then F5.out.g G7 (fun j hj => .inr (by cases hj; omega))⟩
          | false =>
            go_upto_block 0 with (first | (go_at_call 24; ((with_reducible refine (next_in g 14 _ F5.out.d (by omega) (by omega)).mono ?_); rintro e w6 ⟨q, rfl, q0, q1, hd, hg⟩; have F6 := Lib.hid (F5.out.next hlt hd hg); clear hd hg)) | fail)
            have X6 := Lib.hid (X5.out.vs HV.out)
            have hk := X5.out.stat.kind
            have tb : 0 ≤ x.time ∧ x.time ≤ 4294967295 := by
              rcases X6.out.valid.2 with ⟨_, p⟩ | ⟨_, p⟩
              · have := p.time; omega
              · have := p.time0; have := p.time1; omega
            clear X5 F5 hrs
            have hc := cells_of F6.out.k
            have hf := frozen_of F6.out.k
            go_cut [] (fun wx => ∃ y : Hd, VS h y ∧ FS w g wx y)
            case first =>
              by_cases k2 : h.kind = 2
              · have K0 : (x.kind == 2) = true := by rw [hk, k2]; rfl
                have Q := Lib.hid k2
                clear k2 hk
                go_wp2_with (first | (go_at_call 24; ((with_reducible refine (next_in g _ _ F6.out.d (by omega) (by omega)).mono ?_); rintro e w7 ⟨p, rfl, p0, p1, hd, hg⟩; have F7 := Lib.hid (F6.out.next hlt hd hg); clear hd hg hc hf; have hc := cells_of F7.out.k; have hf := frozen_of F7.out.k)) | fail)
                all_goals first
                  | (go_meet; with_reducible exact ⟨_, X6.out.tos p ⟨by omega, by omega⟩, F7.out.tos hlt p⟩)
                  | (go_meet; with_reducible exact ⟨_, X6.out.ttl (60 + p) ⟨by omega, by omega⟩, F7.out.ttl hlt (60 + p)⟩)
                  | (go_meet; with_reducible exact ⟨_, X6.out.marker 1 ⟨⟨by omega, by omega⟩, Q.out⟩, F6.out.marker hlt 1⟩)
                  | (go_meet; with_reducible exact ⟨_, X6.out.id p ⟨by omega, by omega⟩, F7.out.id hlt p⟩)
                  | (go_meet; with_reducible exact ⟨_, X6.out.type (90 + p) ⟨⟨by omega, by omega⟩, Q.out⟩, F7.out.type hlt (90 + p)⟩)
                  | (go_meet; with_reducible exact ⟨_, X6.out.check 5 ⟨by omega, by omega⟩, F6.out.check hlt 5⟩)
                  | (go_meet; with_reducible exact ⟨_, X6.out.check 0 ⟨by omega, by omega⟩, F6.out.check hlt 0⟩)
                  | (go_meet; with_reducible exact ⟨_, X6.out, F6.out⟩)
                  | skip
                have F6d := Lib.hid F6.out.drew
                have hcd := cells_of F6d.out.k
                have hfd := frozen_of F6d.out.k
                go_region_law (first
                  | (go_simp; go_at_call 24; ((with_reducible refine (next_in g 1048576 _ F6d.out.d (by omega) (by omega)).mono ?_); rintro e w7 ⟨p, rfl, p0, p1, hd, hg⟩; have F7 := Lib.hid (F6d.out.next hlt hd hg); clear hd hg hcd hfd hc hf; have hc := cells_of F7.out.k; have hf := frozen_of F7.out.k; have hw7 : IntKind.i64.wrap (x.time + p) = x.time + p := IntWalk.i64_in _ ⟨by omega, by omega⟩))
                  | (go_simp; go_at_call 29; refine (mod_any _ _ _ (by omega) (by omega) (by omega) (by omega)).mono ?_; rintro e w' ⟨rfl, rfl⟩)
                  | fail)
                all_goals go_wp2
                all_goals go_meet
                all_goals exact ⟨_, X6.out.time ((x.time + p) % 4294967296) ⟨⟨by omega, by omega⟩, Q.out⟩, F7.out.time hlt _⟩
              · have K0 : (x.kind == 2) = false := by rw [hk]; simpa using k2
                have Q := Lib.hid k2
                clear k2 hk
                go_wp2_with (first | (go_at_call 24; ((with_reducible refine (next_in g _ _ F6.out.d (by omega) (by omega)).mono ?_); rintro e w7 ⟨p, rfl, p0, p1, hd, hg⟩; have F7 := Lib.hid (F6.out.next hlt hd hg); clear hd hg hc hf; have hc := cells_of F7.out.k; have hf := frozen_of F7.out.k)) | fail)
                all_goals go_meet
                all_goals first
                  | with_reducible exact ⟨_, X6.out.tos p ⟨by omega, by omega⟩, F7.out.tos hlt p⟩
                  | with_reducible exact ⟨_, X6.out.ttl (60 + p) ⟨by omega, by omega⟩, F7.out.ttl hlt (60 + p)⟩
                  | with_reducible exact ⟨_, X6.out.check 5 ⟨by omega, by omega⟩, F6.out.check hlt 5⟩
                  | with_reducible exact ⟨_, X6.out.check 0 ⟨by omega, by omega⟩, F6.out.check hlt 0⟩
                  | with_reducible exact ⟨_, X6.out, F6.out⟩
            case rest =>
              obtain ⟨y, hy, hF⟩ := hcut
              clear F6 X6 hc hf tb hk
              have F5 := Lib.hid hF
              have X5 := Lib.hid hy
              clear hF hy
              have hcx := cells_of F5.out.k
              have hcz := cells_of F5.out.z
              have hfz := frozen_of F5.out.z
              go_wp2
              clear hcx hcz hfz
              refine at_put (Q := bodyPost _ _ _ _ _) y ⟨0, 0, 0, 0, 0, 0, 0, 0, 0, 0, 0, 0, 0, 0, 0⟩ _ (w.heap.size + 1) F5.out.z ?_
              intro w7 K7 G7
              have hc7 := cells_of K7
              refine bodyPost_ret (v := (.agg #[.int .i64 y.kind, .int .i64 y.tos, .int .i64 y.id, .int .i64 y.fixed, .int .i64 y.ttl, .int .i64 y.frm, .int .i64 y.to, .int .i64 y.fromPort, .int .i64 y.toPort, .int .i64 y.check, .int .i64 y.marker, .int .i64 y.type, .int .i64 y.seq, .int .i64 y.time, .int .i64 y.source])) (by simp [results, Try.results25, go_sem, hc7]) rfl ?_
              exact ⟨y, rfl, X5.out, (by first | trivial | (intro e; cases e)), F5.out.d.keepRow G7 (fun q hq => by cases hq; omega), grown_then F5.out.g G7 (fun j hj => .inr (by cases hj; omega))⟩
end Go.Proofs.Ytphekpkkeiaccaa
