/-
  Head of the program's layer 5.
-/
import Derived.Test.YtfeeifemfhhijaaPkNum
import Derived.Test.YtfeeifemfhhijaaPkFns
namespace Go.Proofs.Ytfeeifemfhhijaa
open Go Go.RowKit

/-- a slice of the call's own, beside what lay below B since the world D -/
structure Run (B : Nat) (D W : World) (o : Option Addr) (n c : Nat) (zs : List Int) : Prop where
  row : Mk .u8 5 B W (.slice o n c) n zs
  nn : o = none → c = 0
  bel : Below B D W

theorem appN_run (B : Nat) (D W : World) (o : Option Addr) (n c : Nat) (zs : List Int) (h : Run B D W o n c zs) (hB : B ≤ D.heap.size) (M : Nat) (Mi : Int) (xs : List Int) (k N Bk : Nat) (hM : M ≤ 8) (hM1 : 1 ≤ M) (hMi : Mi = M) (hk : xs.length = k) (hN : N = n + M * k) (hBk : Bk = W.heap.size) (hr : N ≤ 140737488355328) (wf : ∀ z ∈ xs, (Lit.int .i64 z).wf = true) :
    Calls Try.prog 40 #[.slice o n c, .int .i64 Mi, .slice (some ⟨Bk, 0, none⟩) k k] (W.alloc (.cells (xs.map (Value.int .i64)).toArray 3)) fun e w' => ∃ ao cp, e = .returned (.slice ao N cp) ∧ Run B D w' ao N cp (zs ++ numB M xs) := by
  subst hMi hN hBk
  have hm := h.row.alloc (.cells (xs.map (Value.int .i64)).toArray 3)
  have hsz := Nat.le_trans hB h.bel.size
  refine (appN_any B o n c M _ k k zs xs _ hm h.nn (by simp; omega) (Sl.lit .i64 W xs 3 k _ rfl hk (Nat.le_trans (Nat.le_trans (Nat.le_mul_of_pos_left k hM1) (Nat.le_add_left _ n)) hr) wf) (fun x hx _ hb => ?_) hM hr).mono ?_
  · cases hx
    have := (h.row.own_ge _ hb.symm).2
    simp at this
  · rintro e w' ⟨ao, cp, rfl, hg, hn⟩
    exact ⟨ao, cp, rfl, hg.row, hn, (h.bel.alloc hsz _).trans (hg.below hm (by simp; omega))⟩

theorem put1 (x : Int) : putB 1 x 1 = [x % 256] := by simp [putB]
theorem put20 : putB 2 0 2 = [0, 0] := by decide
/-- the program's header bytes are the document's -/
theorem head_eq (h : Hd) (i : h.Ip) : numB 1 [69, h.tos] ++ numB 2 [0, h.id] ++ numB 1 [64 * h.fixed, 0, h.ttl, 17] ++ numB 2 [0] ++ numB 4 [h.frm, h.to] ++ numB 2 [h.fromPort, h.toPort, 0, h.check] = ipL h := by
  have e1 : h.tos % 256 = h.tos := Int.emod_eq_of_lt i.tos0 (by have := i.tos1; omega)
  have e2 : h.ttl % 256 = h.ttl := Int.emod_eq_of_lt i.ttl0 (by have := i.ttl1; omega)
  have e3 : 64 * h.fixed % 256 = 64 * h.fixed := Int.emod_eq_of_lt (by have := i.fixed0; omega) (by have := i.fixed1; omega)
  simp [numB, ipL, put1, put20, e1, e2, e3]
theorem head_eq2 (h : Hd) (r : h.Rtp) : numB 1 [128, 128 * h.marker + h.type] ++ numB 2 [h.seq] ++ numB 4 [h.time, h.source] = [128, 128 * h.marker + h.type] ++ putB 2 h.seq 2 ++ putB 4 h.time 4 ++ putB 4 h.source 4 := by
  have e1 : (128 * h.marker + h.type) % 256 = 128 * h.marker + h.type := Int.emod_eq_of_lt (by have := r.marker0; have := r.type0; omega) (by have := r.marker1; have := r.type1; omega)
  simp [numB, put1, e1]

theorem Head_not (h : Hd) (w : World) (f : h.Fits) (v : ¬ h.Valid) :
    Calls Try.prog 17 #[(.agg #[.int .i64 h.kind, .int .i64 h.tos, .int .i64 h.id, .int .i64 h.fixed, .int .i64 h.ttl, .int .i64 h.frm, .int .i64 h.to, .int .i64 h.fromPort, .int .i64 h.toPort, .int .i64 h.check, .int .i64 h.marker, .int .i64 h.type, .int .i64 h.seq, .int .i64 h.time, .int .i64 h.source])] w fun e w' => e = .returned (.slice none 0 0) ∧ Below w.heap.size w w' := by
  have VV := Valid_any h (w.alloc (.cells #[.int .i64 h.kind, .int .i64 h.tos, .int .i64 h.id, .int .i64 h.fixed, .int .i64 h.ttl, .int .i64 h.frm, .int .i64 h.to, .int .i64 h.fromPort, .int .i64 h.toPort, .int .i64 h.check, .int .i64 h.marker, .int .i64 h.type, .int .i64 h.seq, .int .i64 h.time, .int .i64 h.source] 23)) f
  rw [validB_false v] at VV
  replace VV := Lib.hid VV
  have BW := Lib.hid ((Below.refl w.heap.size w).alloc (Nat.le_refl _) (.cells #[.int .i64 h.kind, .int .i64 h.tos, .int .i64 h.id, .int .i64 h.fixed, .int .i64 h.ttl, .int .i64 h.frm, .int .i64 h.to, .int .i64 h.fromPort, .int .i64 h.toPort, .int .i64 h.check, .int .i64 h.marker, .int .i64 h.type, .int .i64 h.seq, .int .i64 h.time, .int .i64 h.source] 23))
  clear f v
  go_enter Try.func17, Try.ntmps17
  go_wp2_with (first
    | (go_at_call 14; refine VV.out.mono ?_; rintro e w2 ⟨rfl, hb⟩; have B2 := Lib.hid (BW.out.trans (hb.mono (by simp))); clear hb)
    | fail)
  go_ret
  exact ⟨rfl, B2.out⟩

set_option maxRecDepth 100000 in
set_option maxHeartbeats 3200000 in
theorem Head_one (h : Hd) (w : World) (v : h.Valid) (hk : h.kind = 1) :
    Calls Try.prog 17 #[(.agg #[.int .i64 h.kind, .int .i64 h.tos, .int .i64 h.id, .int .i64 h.fixed, .int .i64 h.ttl, .int .i64 h.frm, .int .i64 h.to, .int .i64 h.fromPort, .int .i64 h.toPort, .int .i64 h.check, .int .i64 h.marker, .int .i64 h.type, .int .i64 h.seq, .int .i64 h.time, .int .i64 h.source])] w fun e w' => ∃ o cp, e = .returned (.slice o 28 cp) ∧ Mk .u8 5 (w.heap.size + 1) w' (.slice o 28 cp) 28 (headL h) ∧ (o = none → cp = 0) ∧ Below w.heap.size w w' := by
  have VV := Valid_any h (w.alloc (.cells #[.int .i64 h.kind, .int .i64 h.tos, .int .i64 h.id, .int .i64 h.fixed, .int .i64 h.ttl, .int .i64 h.frm, .int .i64 h.to, .int .i64 h.fromPort, .int .i64 h.toPort, .int .i64 h.check, .int .i64 h.marker, .int .i64 h.type, .int .i64 h.seq, .int .i64 h.time, .int .i64 h.source] 23)) v.fits
  rw [validB_true v] at VV
  replace VV := Lib.hid VV
  have HC := Lib.hid (hbox_cells h w)
  have BW := Lib.hid ((Below.refl w.heap.size w).alloc (Nat.le_refl _) (.cells #[.int .i64 h.kind, .int .i64 h.tos, .int .i64 h.id, .int .i64 h.fixed, .int .i64 h.ttl, .int .i64 h.frm, .int .i64 h.to, .int .i64 h.fromPort, .int .i64 h.toPort, .int .i64 h.check, .int .i64 h.marker, .int .i64 h.type, .int .i64 h.seq, .int .i64 h.time, .int .i64 h.source] 23))
  have HE : Hid (headL h = numB 1 [69, h.tos] ++ numB 2 [0, h.id] ++ numB 1 [64 * h.fixed, 0, h.ttl, 17] ++ numB 2 [0] ++ numB 4 [h.frm, h.to] ++ numB 2 [h.fromPort, h.toPort, 0, h.check]) := Lib.hid (by rw [head_eq h v.1]; unfold headL; rw [if_neg (by omega)])
  obtain ⟨⟨a1, a2, a3, a4, a5, a6, a7, a8, a9, a10, a11, a12, a13, a14, a15, a16, a17, a18⟩, _⟩ := v
  have hk2 : (h.kind == 2) = false := by rw [hk]; rfl
  clear hk
  go_enter Try.func17, Try.ntmps17
  go_wp2_with (first
    | (go_at_call 14; refine VV.out.mono ?_; rintro e w2 ⟨rfl, hb⟩; have hb2 : Below (w.heap.size + 1) (w.alloc (.cells #[.int .i64 h.kind, .int .i64 h.tos, .int .i64 h.id, .int .i64 h.fixed, .int .i64 h.ttl, .int .i64 h.frm, .int .i64 h.to, .int .i64 h.fromPort, .int .i64 h.toPort, .int .i64 h.check, .int .i64 h.marker, .int .i64 h.type, .int .i64 h.seq, .int .i64 h.time, .int .i64 h.source] 23)) w2 := hb.mono (by simp); have R2 : Hid (Run (w.heap.size + 1) (w.alloc (.cells #[.int .i64 h.kind, .int .i64 h.tos, .int .i64 h.id, .int .i64 h.fixed, .int .i64 h.ttl, .int .i64 h.frm, .int .i64 h.to, .int .i64 h.fromPort, .int .i64 h.toPort, .int .i64 h.check, .int .i64 h.marker, .int .i64 h.type, .int .i64 h.seq, .int .i64 h.time, .int .i64 h.source] 23)) w2 none 0 0 []) := Lib.hid ⟨Mk.nil _ _ _ _, fun _ => rfl, hb2⟩; have hc := HC.out w2 hb2; have hz2 : w.heap.size < w2.heap.size := Nat.lt_of_lt_of_le (by simp) hb2.size; clear hb hb2)
    | fail)
  refine (appN_run (w.heap.size + 1) (w.alloc (.cells #[.int .i64 h.kind, .int .i64 h.tos, .int .i64 h.id, .int .i64 h.fixed, .int .i64 h.ttl, .int .i64 h.frm, .int .i64 h.to, .int .i64 h.fromPort, .int .i64 h.toPort, .int .i64 h.check, .int .i64 h.marker, .int .i64 h.type, .int .i64 h.seq, .int .i64 h.time, .int .i64 h.source] 23)) _ _ _ _ _ R2.out (by simp) 1 1 [69, h.tos] 2 2 _ (by omega) (by omega) rfl rfl rfl (by simp) (by omega) (fun z hz => by simp at hz; exact wf_fit (by omega))).mono ?_
  rintro e w3 ⟨o3, c3, rfl, r⟩
  have R3 := Lib.hid r
  have hc3 := HC.out w3 r.bel
  have hz3 : w.heap.size < w3.heap.size := Nat.lt_of_lt_of_le (by simp) r.bel.size
  clear r hc hz2
  go_wp2_with fail
  refine (appN_run (w.heap.size + 1) (w.alloc (.cells #[.int .i64 h.kind, .int .i64 h.tos, .int .i64 h.id, .int .i64 h.fixed, .int .i64 h.ttl, .int .i64 h.frm, .int .i64 h.to, .int .i64 h.fromPort, .int .i64 h.toPort, .int .i64 h.check, .int .i64 h.marker, .int .i64 h.type, .int .i64 h.seq, .int .i64 h.time, .int .i64 h.source] 23)) _ _ _ _ _ R3.out (by simp) 2 2 [0, h.id] 2 6 _ (by omega) (by omega) rfl rfl rfl (by simp) (by omega) (fun z hz => by simp at hz; exact wf_fit (by omega))).mono ?_
  rintro e w4 ⟨o4, c4, rfl, r⟩
  have R4 := Lib.hid r
  have hc4 := HC.out w4 r.bel
  have hz4 : w.heap.size < w4.heap.size := Nat.lt_of_lt_of_le (by simp) r.bel.size
  clear r hc3 hz3
  go_wp2_with fail
  refine (appN_run (w.heap.size + 1) (w.alloc (.cells #[.int .i64 h.kind, .int .i64 h.tos, .int .i64 h.id, .int .i64 h.fixed, .int .i64 h.ttl, .int .i64 h.frm, .int .i64 h.to, .int .i64 h.fromPort, .int .i64 h.toPort, .int .i64 h.check, .int .i64 h.marker, .int .i64 h.type, .int .i64 h.seq, .int .i64 h.time, .int .i64 h.source] 23)) _ _ _ _ _ R4.out (by simp) 1 1 [64 * h.fixed, 0, h.ttl, 17] 4 10 _ (by omega) (by omega) rfl rfl rfl (by simp) (by omega) (fun z hz => by simp at hz; exact wf_fit (by omega))).mono ?_
  rintro e w5 ⟨o5, c5, rfl, r⟩
  have R5 := Lib.hid r
  have hc5 := HC.out w5 r.bel
  have hz5 : w.heap.size < w5.heap.size := Nat.lt_of_lt_of_le (by simp) r.bel.size
  clear r hc4 hz4
  go_wp2_with fail
  refine (appN_run (w.heap.size + 1) (w.alloc (.cells #[.int .i64 h.kind, .int .i64 h.tos, .int .i64 h.id, .int .i64 h.fixed, .int .i64 h.ttl, .int .i64 h.frm, .int .i64 h.to, .int .i64 h.fromPort, .int .i64 h.toPort, .int .i64 h.check, .int .i64 h.marker, .int .i64 h.type, .int .i64 h.seq, .int .i64 h.time, .int .i64 h.source] 23)) _ _ _ _ _ R5.out (by simp) 2 2 [0] 1 12 _ (by omega) (by omega) rfl rfl rfl (by simp) (by omega) (fun z hz => by simp at hz; exact wf_fit (by omega))).mono ?_
  rintro e w6 ⟨o6, c6, rfl, r⟩
  have R6 := Lib.hid r
  have hc6 := HC.out w6 r.bel
  have hz6 : w.heap.size < w6.heap.size := Nat.lt_of_lt_of_le (by simp) r.bel.size
  clear r hc5 hz5
  go_wp2_with fail
  refine (appN_run (w.heap.size + 1) (w.alloc (.cells #[.int .i64 h.kind, .int .i64 h.tos, .int .i64 h.id, .int .i64 h.fixed, .int .i64 h.ttl, .int .i64 h.frm, .int .i64 h.to, .int .i64 h.fromPort, .int .i64 h.toPort, .int .i64 h.check, .int .i64 h.marker, .int .i64 h.type, .int .i64 h.seq, .int .i64 h.time, .int .i64 h.source] 23)) _ _ _ _ _ R6.out (by simp) 4 4 [h.frm, h.to] 2 20 _ (by omega) (by omega) rfl rfl rfl (by simp) (by omega) (fun z hz => by simp at hz; exact wf_fit (by omega))).mono ?_
  rintro e w7 ⟨o7, c7, rfl, r⟩
  have R7 := Lib.hid r
  have hc7 := HC.out w7 r.bel
  have hz7 : w.heap.size < w7.heap.size := Nat.lt_of_lt_of_le (by simp) r.bel.size
  clear r hc6 hz6
  go_wp2_with fail
  refine (appN_run (w.heap.size + 1) (w.alloc (.cells #[.int .i64 h.kind, .int .i64 h.tos, .int .i64 h.id, .int .i64 h.fixed, .int .i64 h.ttl, .int .i64 h.frm, .int .i64 h.to, .int .i64 h.fromPort, .int .i64 h.toPort, .int .i64 h.check, .int .i64 h.marker, .int .i64 h.type, .int .i64 h.seq, .int .i64 h.time, .int .i64 h.source] 23)) _ _ _ _ _ R7.out (by simp) 2 2 [h.fromPort, h.toPort, 0, h.check] 4 28 _ (by omega) (by omega) rfl rfl rfl (by simp) (by omega) (fun z hz => by simp at hz; exact wf_fit (by omega))).mono ?_
  rintro e w8 ⟨o8, c8, rfl, r⟩
  have R8 := Lib.hid r
  have hc8 := HC.out w8 r.bel
  have hz8 : w.heap.size < w8.heap.size := Nat.lt_of_lt_of_le (by simp) r.bel.size
  clear r hc7 hz7
  go_wp2
  go_ret
  have RR := R8.out
  simp only [List.nil_append] at RR
  refine ⟨o8, c8, rfl, ?_, RR.nn, BW.out.trans (RR.bel.mono (by omega))⟩
  rw [HE.out]
  exact RR.row

set_option maxRecDepth 100000 in
set_option maxHeartbeats 3200000 in
theorem Head_two (h : Hd) (w : World) (v : h.Valid) (hk : h.kind = 2) :
    Calls Try.prog 17 #[(.agg #[.int .i64 h.kind, .int .i64 h.tos, .int .i64 h.id, .int .i64 h.fixed, .int .i64 h.ttl, .int .i64 h.frm, .int .i64 h.to, .int .i64 h.fromPort, .int .i64 h.toPort, .int .i64 h.check, .int .i64 h.marker, .int .i64 h.type, .int .i64 h.seq, .int .i64 h.time, .int .i64 h.source])] w fun e w' => ∃ o cp, e = .returned (.slice o 40 cp) ∧ Mk .u8 5 (w.heap.size + 1) w' (.slice o 40 cp) 40 (headL h) ∧ (o = none → cp = 0) ∧ Below w.heap.size w w' := by
  have VV := Valid_any h (w.alloc (.cells #[.int .i64 h.kind, .int .i64 h.tos, .int .i64 h.id, .int .i64 h.fixed, .int .i64 h.ttl, .int .i64 h.frm, .int .i64 h.to, .int .i64 h.fromPort, .int .i64 h.toPort, .int .i64 h.check, .int .i64 h.marker, .int .i64 h.type, .int .i64 h.seq, .int .i64 h.time, .int .i64 h.source] 23)) v.fits
  rw [validB_true v] at VV
  replace VV := Lib.hid VV
  have HC := Lib.hid (hbox_cells h w)
  have BW := Lib.hid ((Below.refl w.heap.size w).alloc (Nat.le_refl _) (.cells #[.int .i64 h.kind, .int .i64 h.tos, .int .i64 h.id, .int .i64 h.fixed, .int .i64 h.ttl, .int .i64 h.frm, .int .i64 h.to, .int .i64 h.fromPort, .int .i64 h.toPort, .int .i64 h.check, .int .i64 h.marker, .int .i64 h.type, .int .i64 h.seq, .int .i64 h.time, .int .i64 h.source] 23))
  have HE : Hid (headL h = numB 1 [69, h.tos] ++ numB 2 [0, h.id] ++ numB 1 [64 * h.fixed, 0, h.ttl, 17] ++ numB 2 [0] ++ numB 4 [h.frm, h.to] ++ numB 2 [h.fromPort, h.toPort, 0, h.check] ++ numB 1 [128, 128 * h.marker + h.type] ++ numB 2 [h.seq] ++ numB 4 [h.time, h.source]) := Lib.hid (by
    have r : h.Rtp := by
      rcases v.2 with ⟨h1, _⟩ | ⟨_, r⟩
      · omega
      · exact r
    rw [head_eq h v.1]; unfold headL; rw [if_pos hk]
    have e := head_eq2 h r
    simp only [List.append_assoc] at e ⊢
    rw [e])
  obtain ⟨⟨a1, a2, a3, a4, a5, a6, a7, a8, a9, a10, a11, a12, a13, a14, a15, a16, a17, a18⟩, ⟨hk1, _⟩ | ⟨hk3, ⟨r1, r2, r3, r4, r5, r6, r7, r8, r9, r10⟩⟩⟩ := v
  · omega
  have hk2 : (h.kind == 2) = true := by rw [hk]; rfl
  clear hk hk3
  go_enter Try.func17, Try.ntmps17
  go_wp2_with (first
    | (go_at_call 14; refine VV.out.mono ?_; rintro e w2 ⟨rfl, hb⟩; have hb2 : Below (w.heap.size + 1) (w.alloc (.cells #[.int .i64 h.kind, .int .i64 h.tos, .int .i64 h.id, .int .i64 h.fixed, .int .i64 h.ttl, .int .i64 h.frm, .int .i64 h.to, .int .i64 h.fromPort, .int .i64 h.toPort, .int .i64 h.check, .int .i64 h.marker, .int .i64 h.type, .int .i64 h.seq, .int .i64 h.time, .int .i64 h.source] 23)) w2 := hb.mono (by simp); have R2 : Hid (Run (w.heap.size + 1) (w.alloc (.cells #[.int .i64 h.kind, .int .i64 h.tos, .int .i64 h.id, .int .i64 h.fixed, .int .i64 h.ttl, .int .i64 h.frm, .int .i64 h.to, .int .i64 h.fromPort, .int .i64 h.toPort, .int .i64 h.check, .int .i64 h.marker, .int .i64 h.type, .int .i64 h.seq, .int .i64 h.time, .int .i64 h.source] 23)) w2 none 0 0 []) := Lib.hid ⟨Mk.nil _ _ _ _, fun _ => rfl, hb2⟩; have hc := HC.out w2 hb2; have hz2 : w.heap.size < w2.heap.size := Nat.lt_of_lt_of_le (by simp) hb2.size; clear hb hb2)
    | fail)
  refine (appN_run (w.heap.size + 1) (w.alloc (.cells #[.int .i64 h.kind, .int .i64 h.tos, .int .i64 h.id, .int .i64 h.fixed, .int .i64 h.ttl, .int .i64 h.frm, .int .i64 h.to, .int .i64 h.fromPort, .int .i64 h.toPort, .int .i64 h.check, .int .i64 h.marker, .int .i64 h.type, .int .i64 h.seq, .int .i64 h.time, .int .i64 h.source] 23)) _ _ _ _ _ R2.out (by simp) 1 1 [69, h.tos] 2 2 _ (by omega) (by omega) rfl rfl rfl (by simp) (by omega) (fun z hz => by simp at hz; exact wf_fit (by omega))).mono ?_
  rintro e w3 ⟨o3, c3, rfl, r⟩
  have R3 := Lib.hid r
  have hc3 := HC.out w3 r.bel
  have hz3 : w.heap.size < w3.heap.size := Nat.lt_of_lt_of_le (by simp) r.bel.size
  clear r hc hz2
  go_wp2_with fail
  refine (appN_run (w.heap.size + 1) (w.alloc (.cells #[.int .i64 h.kind, .int .i64 h.tos, .int .i64 h.id, .int .i64 h.fixed, .int .i64 h.ttl, .int .i64 h.frm, .int .i64 h.to, .int .i64 h.fromPort, .int .i64 h.toPort, .int .i64 h.check, .int .i64 h.marker, .int .i64 h.type, .int .i64 h.seq, .int .i64 h.time, .int .i64 h.source] 23)) _ _ _ _ _ R3.out (by simp) 2 2 [0, h.id] 2 6 _ (by omega) (by omega) rfl rfl rfl (by simp) (by omega) (fun z hz => by simp at hz; exact wf_fit (by omega))).mono ?_
  rintro e w4 ⟨o4, c4, rfl, r⟩
  have R4 := Lib.hid r
  have hc4 := HC.out w4 r.bel
  have hz4 : w.heap.size < w4.heap.size := Nat.lt_of_lt_of_le (by simp) r.bel.size
  clear r hc3 hz3
  go_wp2_with fail
  refine (appN_run (w.heap.size + 1) (w.alloc (.cells #[.int .i64 h.kind, .int .i64 h.tos, .int .i64 h.id, .int .i64 h.fixed, .int .i64 h.ttl, .int .i64 h.frm, .int .i64 h.to, .int .i64 h.fromPort, .int .i64 h.toPort, .int .i64 h.check, .int .i64 h.marker, .int .i64 h.type, .int .i64 h.seq, .int .i64 h.time, .int .i64 h.source] 23)) _ _ _ _ _ R4.out (by simp) 1 1 [64 * h.fixed, 0, h.ttl, 17] 4 10 _ (by omega) (by omega) rfl rfl rfl (by simp) (by omega) (fun z hz => by simp at hz; exact wf_fit (by omega))).mono ?_
  rintro e w5 ⟨o5, c5, rfl, r⟩
  have R5 := Lib.hid r
  have hc5 := HC.out w5 r.bel
  have hz5 : w.heap.size < w5.heap.size := Nat.lt_of_lt_of_le (by simp) r.bel.size
  clear r hc4 hz4
  go_wp2_with fail
  refine (appN_run (w.heap.size + 1) (w.alloc (.cells #[.int .i64 h.kind, .int .i64 h.tos, .int .i64 h.id, .int .i64 h.fixed, .int .i64 h.ttl, .int .i64 h.frm, .int .i64 h.to, .int .i64 h.fromPort, .int .i64 h.toPort, .int .i64 h.check, .int .i64 h.marker, .int .i64 h.type, .int .i64 h.seq, .int .i64 h.time, .int .i64 h.source] 23)) _ _ _ _ _ R5.out (by simp) 2 2 [0] 1 12 _ (by omega) (by omega) rfl rfl rfl (by simp) (by omega) (fun z hz => by simp at hz; exact wf_fit (by omega))).mono ?_
  rintro e w6 ⟨o6, c6, rfl, r⟩
  have R6 := Lib.hid r
  have hc6 := HC.out w6 r.bel
  have hz6 : w.heap.size < w6.heap.size := Nat.lt_of_lt_of_le (by simp) r.bel.size
  clear r hc5 hz5
  go_wp2_with fail
  refine (appN_run (w.heap.size + 1) (w.alloc (.cells #[.int .i64 h.kind, .int .i64 h.tos, .int .i64 h.id, .int .i64 h.fixed, .int .i64 h.ttl, .int .i64 h.frm, .int .i64 h.to, .int .i64 h.fromPort, .int .i64 h.toPort, .int .i64 h.check, .int .i64 h.marker, .int .i64 h.type, .int .i64 h.seq, .int .i64 h.time, .int .i64 h.source] 23)) _ _ _ _ _ R6.out (by simp) 4 4 [h.frm, h.to] 2 20 _ (by omega) (by omega) rfl rfl rfl (by simp) (by omega) (fun z hz => by simp at hz; exact wf_fit (by omega))).mono ?_
  rintro e w7 ⟨o7, c7, rfl, r⟩
  have R7 := Lib.hid r
  have hc7 := HC.out w7 r.bel
  have hz7 : w.heap.size < w7.heap.size := Nat.lt_of_lt_of_le (by simp) r.bel.size
  clear r hc6 hz6
  go_wp2_with fail
  refine (appN_run (w.heap.size + 1) (w.alloc (.cells #[.int .i64 h.kind, .int .i64 h.tos, .int .i64 h.id, .int .i64 h.fixed, .int .i64 h.ttl, .int .i64 h.frm, .int .i64 h.to, .int .i64 h.fromPort, .int .i64 h.toPort, .int .i64 h.check, .int .i64 h.marker, .int .i64 h.type, .int .i64 h.seq, .int .i64 h.time, .int .i64 h.source] 23)) _ _ _ _ _ R7.out (by simp) 2 2 [h.fromPort, h.toPort, 0, h.check] 4 28 _ (by omega) (by omega) rfl rfl rfl (by simp) (by omega) (fun z hz => by simp at hz; exact wf_fit (by omega))).mono ?_
  rintro e w8 ⟨o8, c8, rfl, r⟩
  have R8 := Lib.hid r
  have hc8 := HC.out w8 r.bel
  have hz8 : w.heap.size < w8.heap.size := Nat.lt_of_lt_of_le (by simp) r.bel.size
  clear r hc7 hz7
  go_wp2_with fail
  refine (appN_run (w.heap.size + 1) (w.alloc (.cells #[.int .i64 h.kind, .int .i64 h.tos, .int .i64 h.id, .int .i64 h.fixed, .int .i64 h.ttl, .int .i64 h.frm, .int .i64 h.to, .int .i64 h.fromPort, .int .i64 h.toPort, .int .i64 h.check, .int .i64 h.marker, .int .i64 h.type, .int .i64 h.seq, .int .i64 h.time, .int .i64 h.source] 23)) _ _ _ _ _ R8.out (by simp) 1 1 [128, 128 * h.marker + h.type] 2 30 _ (by omega) (by omega) rfl rfl rfl (by simp) (by omega) (fun z hz => by simp at hz; exact wf_fit (by omega))).mono ?_
  rintro e w9 ⟨o9, c9, rfl, r⟩
  have R9 := Lib.hid r
  have hc9 := HC.out w9 r.bel
  have hz9 : w.heap.size < w9.heap.size := Nat.lt_of_lt_of_le (by simp) r.bel.size
  clear r hc8 hz8
  go_wp2_with fail
  refine (appN_run (w.heap.size + 1) (w.alloc (.cells #[.int .i64 h.kind, .int .i64 h.tos, .int .i64 h.id, .int .i64 h.fixed, .int .i64 h.ttl, .int .i64 h.frm, .int .i64 h.to, .int .i64 h.fromPort, .int .i64 h.toPort, .int .i64 h.check, .int .i64 h.marker, .int .i64 h.type, .int .i64 h.seq, .int .i64 h.time, .int .i64 h.source] 23)) _ _ _ _ _ R9.out (by simp) 2 2 [h.seq] 1 32 _ (by omega) (by omega) rfl rfl rfl (by simp) (by omega) (fun z hz => by simp at hz; exact wf_fit (by omega))).mono ?_
  rintro e w10 ⟨o10, c10, rfl, r⟩
  have R10 := Lib.hid r
  have hc10 := HC.out w10 r.bel
  have hz10 : w.heap.size < w10.heap.size := Nat.lt_of_lt_of_le (by simp) r.bel.size
  clear r hc9 hz9
  go_wp2_with fail
  refine (appN_run (w.heap.size + 1) (w.alloc (.cells #[.int .i64 h.kind, .int .i64 h.tos, .int .i64 h.id, .int .i64 h.fixed, .int .i64 h.ttl, .int .i64 h.frm, .int .i64 h.to, .int .i64 h.fromPort, .int .i64 h.toPort, .int .i64 h.check, .int .i64 h.marker, .int .i64 h.type, .int .i64 h.seq, .int .i64 h.time, .int .i64 h.source] 23)) _ _ _ _ _ R10.out (by simp) 4 4 [h.time, h.source] 2 40 _ (by omega) (by omega) rfl rfl rfl (by simp) (by omega) (fun z hz => by simp at hz; exact wf_fit (by omega))).mono ?_
  rintro e w11 ⟨o11, c11, rfl, r⟩
  have R11 := Lib.hid r
  have hc11 := HC.out w11 r.bel
  have hz11 : w.heap.size < w11.heap.size := Nat.lt_of_lt_of_le (by simp) r.bel.size
  clear r hc10 hz10
  go_wp2
  go_ret
  have RR := R11.out
  simp only [List.nil_append] at RR
  refine ⟨o11, c11, rfl, ?_, RR.nn, BW.out.trans (RR.bel.mono (by omega))⟩
  rw [HE.out]
  exact RR.row

theorem Head_any (h : Hd) (w : World) (v : h.Valid) :
    Calls Try.prog 17 #[(.agg #[.int .i64 h.kind, .int .i64 h.tos, .int .i64 h.id, .int .i64 h.fixed, .int .i64 h.ttl, .int .i64 h.frm, .int .i64 h.to, .int .i64 h.fromPort, .int .i64 h.toPort, .int .i64 h.check, .int .i64 h.marker, .int .i64 h.type, .int .i64 h.seq, .int .i64 h.time, .int .i64 h.source])] w fun e w' => ∃ o cp, e = .returned (.slice o (headN h) cp) ∧ Mk .u8 5 (w.heap.size + 1) w' (.slice o (headN h) cp) (headN h) (headL h) ∧ (o = none → cp = 0) ∧ Below w.heap.size w w' := by
  by_cases hk : h.kind = 2
  · have e : headN h = 40 := by unfold headN; rw [if_pos hk]
    rw [e]; exact Head_two h w v hk
  · have e : headN h = 28 := by unfold headN; rw [if_neg hk]
    rw [e]
    refine Head_one h w v ?_
    rcases v.2 with ⟨hk1, _⟩ | ⟨hk1, _⟩
    · exact hk1
    · exact absurd hk1 hk
end Go.Proofs.Ytfeeifemfhhijaa
