/-
  The program's functions of layer 5: within, validBase, validRtp, Valid.
-/
import Derived.Test.YtphekpkkeiaccaaHd
import Derived.Test.YtphekpkkeiaccaaPush
import Derived.Test.YtphekpkkeiaccaaPkRef
import Derived.Test.YtphekpkkeiaccaaProg
namespace Go.Proofs.Ytphekpkkeiaccaa
open Go Go.RowKit

/-- all numbers are from 0 to a greatest one -/
def witB (m : Int) (zs : List Int) : Bool := zs.all fun z => decide (0 ≤ z ∧ z ≤ m)
theorem witB_getD {m : Int} {zs : List Int} (h : ∀ i, i < zs.length → 0 ≤ zs.getD i 0 ∧ zs.getD i 0 ≤ m) : witB m zs = true := by
  unfold witB
  rw [List.all_eq_true]
  intro z hz
  obtain ⟨i, hi, rfl⟩ := List.mem_iff_getElem.1 hz
  have := h i hi
  rw [List.getD_eq_getElem?_getD, List.getElem?_eq_getElem hi] at this
  simpa using this
theorem witB_not {m : Int} {zs : List Int} (i : Nat) (hi : i < zs.length) (h : zs.getD i 0 < 0 ∨ m < zs.getD i 0) : witB m zs = false := by
  cases e : witB m zs with
  | false => rfl
  | true =>
    unfold witB at e
    rw [List.all_eq_true] at e
    have := of_decide_eq_true (e _ (getD_mem hi))
    omega

set_option maxHeartbeats 800000 in
theorem within_any (m : Int) (a : Option Addr) (n cap : Nat) (zs : List Int) (w : World) (hs : Sl .i64 w a n zs) (_b : -9223372036854775808 ≤ m ∧ m ≤ 9223372036854775807) :
    Calls Try.prog 47 #[.int .i64 m, .slice a n cap] w fun e w' => e = .returned (.bool (witB m zs)) ∧ w = w' := by
  have hr := hs.reach
  have hl := hs.len
  have Hs := Lib.hid hs
  have HL := Lib.hid hl
  have HY := Lib.hid (@witB_getD m zs)
  have HN := Lib.hid (@witB_not m zs)
  rw [hl] at HY HN
  clear hs hl
  go_enter Try.func47, Try.ntmps47
  go_wp2
  go_loopw [9] (fun i wr => ∃ t : Nat, t ≤ n ∧ i = .int .i64 (t : Int) ∧ Hid (∀ i, i < t → 0 ≤ zs.getD i 0 ∧ zs.getD i 0 ≤ m) ∧ w = wr) (fun i _ => n - (intOf i).toNat)
  case atStart => exact ⟨0, by omega, by simp, Lib.hid (fun i hi => by omega), rfl⟩
  case round =>
    obtain ⟨t, ht, rfl, HT, rfl⟩ := hrel
    by_cases hlt : t < n
    · obtain ⟨g, off, rfl⟩ := Hs.out.head (by omega)
      have c0 := Hs.out.at hlt
      have z0 := Hs.out.i64 t
      have HT2 : Hid ((0 ≤ zs.getD t 0 ∧ zs.getD t 0 ≤ m) → ∀ i, i < t + 1 → 0 ≤ zs.getD i 0 ∧ zs.getD i 0 ≤ m) := Lib.hid (fun hx i hi => by
        rcases Nat.lt_or_ge i t with h | h
        · exact HT.out i h
        · obtain rfl : i = t := by omega
          exact hx)
      have HN2 := Lib.hid (HN.out t hlt)
      have hI : (t : Int) < (n : Int) := by omega
      clear HT
      generalize zs.getD t 0 = x at c0 z0 HT2 HN2
      by_cases h0 : 0 ≤ x
      · by_cases h1 : x ≤ m
        · go_wp2
          go_roundw
          case rel => exact ⟨t + 1, by omega, by go_num, Lib.hid (HT2.out ⟨h0, h1⟩), trivial⟩
          case measure => simp [intOf] <;> omega
        · go_wp2
          go_ret
          exact ⟨ret_bool (HN2.out (by omega)).symm, rfl⟩
      · go_wp2
        go_ret
        exact ⟨ret_bool (HN2.out (by omega)).symm, rfl⟩
    · obtain rfl : t = n := by omega
      go_wp2
      go_ret
      exact ⟨ret_bool (HY.out HT.out).symm, rfl⟩

theorem wf_fit {x : Int} (b : -9223372036854775808 ≤ x ∧ x ≤ 9223372036854775807) : (Lit.int .i64 x).wf = true := by
  simpa [Lit.wf, IntKind.min, IntKind.max, IntKind.signed, IntKind.bits] using b
/-- .. of a literal's row -/
theorem within_1 (m x : Int) (B : Nat) (W : World) (hB : B = W.heap.size) (b : -9223372036854775808 ≤ m ∧ m ≤ 9223372036854775807) (bx : (Lit.int .i64 x).wf = true) :
    Calls Try.prog 47 #[.int .i64 m, .slice (some ⟨B, 0, none⟩) 1 1] (W.alloc (.cells #[.int .i64 x] 3)) fun e w' => e = .returned (.bool (witB m [x])) ∧ W.alloc (.cells #[.int .i64 x] 3) = w' :=
  within_any m _ 1 1 [x] _ (Sl.lit .i64 W [x] 3 1 B hB rfl (by omega) (fun z hz => by simp at hz; subst hz; exact bx)) b
theorem within_2 (m x y : Int) (B : Nat) (W : World) (hB : B = W.heap.size) (b : -9223372036854775808 ≤ m ∧ m ≤ 9223372036854775807) (bx : (Lit.int .i64 x).wf = true) (by' : (Lit.int .i64 y).wf = true) :
    Calls Try.prog 47 #[.int .i64 m, .slice (some ⟨B, 0, none⟩) 2 2] (W.alloc (.cells #[.int .i64 x, .int .i64 y] 3)) fun e w' => e = .returned (.bool (witB m [x, y])) ∧ W.alloc (.cells #[.int .i64 x, .int .i64 y] 3) = w' :=
  within_any m _ 2 2 [x, y] _ (Sl.lit .i64 W [x, y] 3 2 B hB rfl (by omega) (fun z hz => by simp at hz; rcases hz with rfl | rfl <;> assumption)) b
theorem within_4 (m x y u v : Int) (B : Nat) (W : World) (hB : B = W.heap.size) (b : -9223372036854775808 ≤ m ∧ m ≤ 9223372036854775807) (bx : (Lit.int .i64 x).wf = true) (by' : (Lit.int .i64 y).wf = true) (bu : (Lit.int .i64 u).wf = true) (bv : (Lit.int .i64 v).wf = true) :
    Calls Try.prog 47 #[.int .i64 m, .slice (some ⟨B, 0, none⟩) 4 4] (W.alloc (.cells #[.int .i64 x, .int .i64 y, .int .i64 u, .int .i64 v] 3)) fun e w' => e = .returned (.bool (witB m [x, y, u, v])) ∧ W.alloc (.cells #[.int .i64 x, .int .i64 y, .int .i64 u, .int .i64 v] 3) = w' :=
  within_any m _ 4 4 [x, y, u, v] _ (Sl.lit .i64 W [x, y, u, v] 3 4 B hB rfl (by omega) (fun z hz => by simp at hz; rcases hz with rfl | rfl | rfl | rfl <;> assumption)) b
theorem within_5 (m x y u v t : Int) (B : Nat) (W : World) (hB : B = W.heap.size) (b : -9223372036854775808 ≤ m ∧ m ≤ 9223372036854775807) (bx : (Lit.int .i64 x).wf = true) (by' : (Lit.int .i64 y).wf = true) (bu : (Lit.int .i64 u).wf = true) (bv : (Lit.int .i64 v).wf = true) (bt : (Lit.int .i64 t).wf = true) :
    Calls Try.prog 47 #[.int .i64 m, .slice (some ⟨B, 0, none⟩) 5 5] (W.alloc (.cells #[.int .i64 x, .int .i64 y, .int .i64 u, .int .i64 v, .int .i64 t] 3)) fun e w' => e = .returned (.bool (witB m [x, y, u, v, t])) ∧ W.alloc (.cells #[.int .i64 x, .int .i64 y, .int .i64 u, .int .i64 v, .int .i64 t] 3) = w' :=
  within_any m _ 5 5 [x, y, u, v, t] _ (Sl.lit .i64 W [x, y, u, v, t] 3 5 B hB rfl (by omega) (fun z hz => by simp at hz; rcases hz with rfl | rfl | rfl | rfl | rfl <;> assumption)) b

def baseB (h : Hd) : Bool := witB 255 [h.tos, h.ttl] && witB 65535 [h.id, h.fromPort, h.toPort, h.check] && witB 1 [h.fixed] && witB 4294967295 [h.frm, h.to]
def vrtpB (h : Hd) : Bool := witB 1 [h.marker] && witB 127 [h.type] && witB 65535 [h.seq] && witB 4294967295 [h.time, h.source]

set_option maxRecDepth 100000 in
set_option maxHeartbeats 1600000 in
theorem validBase_any (h : Hd) (w : World) (b : h.Fits) :
    Calls Try.prog 46 #[(.agg #[.int .i64 h.kind, .int .i64 h.tos, .int .i64 h.id, .int .i64 h.fixed, .int .i64 h.ttl, .int .i64 h.frm, .int .i64 h.to, .int .i64 h.fromPort, .int .i64 h.toPort, .int .i64 h.check, .int .i64 h.marker, .int .i64 h.type, .int .i64 h.seq, .int .i64 h.time, .int .i64 h.source])] w fun e w' => e = .returned (.bool (baseB h)) ∧ Below w.heap.size w w' := by
  obtain ⟨x_kind, x_tos, x_id, x_fixed, x_ttl, x_frm, x_to, x_fromPort, x_toPort, x_check, x_marker, x_type, x_seq, x_time, x_source⟩ := h
  obtain ⟨f_kind, f_tos, f_id, f_fixed, f_ttl, f_frm, f_to, f_fromPort, f_toPort, f_check, f_marker, f_type, f_seq, f_time, f_source⟩ := b
  unfold baseB
  simp only at *
  have HA : Hid (∀ (W : World) (o : Obj), Below w.heap.size w W → Below w.heap.size w (W.alloc o)) := Lib.hid (fun W o hb => hb.alloc hb.size o)
  have I1 := Lib.hid (fun B W hB => within_2 255 x_tos x_ttl B W hB (by omega) (wf_fit f_tos) (wf_fit f_ttl))
  have I2 := Lib.hid (fun B W hB => within_4 65535 x_id x_fromPort x_toPort x_check B W hB (by omega) (wf_fit f_id) (wf_fit f_fromPort) (wf_fit f_toPort) (wf_fit f_check))
  have I3 := Lib.hid (fun B W hB => within_1 1 x_fixed B W hB (by omega) (wf_fit f_fixed))
  have I4 := Lib.hid (fun B W hB => within_2 4294967295 x_frm x_to B W hB (by omega) (wf_fit f_frm) (wf_fit f_to))
  generalize witB 255 [x_tos, x_ttl] = c1 at I1 ⊢
  generalize witB 65535 [x_id, x_fromPort, x_toPort, x_check] = c2 at I2 ⊢
  generalize witB 1 [x_fixed] = c3 at I3 ⊢
  generalize witB 4294967295 [x_frm, x_to] = c4 at I4 ⊢
  clear f_kind f_tos f_id f_fixed f_ttl f_frm f_to f_fromPort f_toPort f_check f_marker f_type f_seq f_time f_source
  go_enter Try.func46, Try.ntmps46
  go_wp2_with (first
    | (go_at_call 47; ((with_reducible refine (I1.out _ _ ?_).mono ?_); simp; rintro e w' ⟨rfl, rfl⟩))
    | (go_at_call 47; ((with_reducible refine (I2.out _ _ ?_).mono ?_); simp; rintro e w' ⟨rfl, rfl⟩))
    | (go_at_call 47; ((with_reducible refine (I3.out _ _ ?_).mono ?_); simp; rintro e w' ⟨rfl, rfl⟩))
    | (go_at_call 47; ((with_reducible refine (I4.out _ _ ?_).mono ?_); simp; rintro e w' ⟨rfl, rfl⟩))
    | fail)
  all_goals go_ret
  all_goals refine ⟨ret_bool ?_, ?_⟩
  all_goals clear I1 I2 I3 I4
  all_goals first | (simp; done) | (simp_all; done) | (repeat (first | exact Below.refl _ _ | refine HA.out _ _ ?_))

set_option maxRecDepth 100000 in
set_option maxHeartbeats 1600000 in
theorem validRtp_any (h : Hd) (w : World) (b : h.Fits) :
    Calls Try.prog 48 #[(.agg #[.int .i64 h.kind, .int .i64 h.tos, .int .i64 h.id, .int .i64 h.fixed, .int .i64 h.ttl, .int .i64 h.frm, .int .i64 h.to, .int .i64 h.fromPort, .int .i64 h.toPort, .int .i64 h.check, .int .i64 h.marker, .int .i64 h.type, .int .i64 h.seq, .int .i64 h.time, .int .i64 h.source])] w fun e w' => e = .returned (.bool (vrtpB h)) ∧ Below w.heap.size w w' := by
  obtain ⟨x_kind, x_tos, x_id, x_fixed, x_ttl, x_frm, x_to, x_fromPort, x_toPort, x_check, x_marker, x_type, x_seq, x_time, x_source⟩ := h
  obtain ⟨f_kind, f_tos, f_id, f_fixed, f_ttl, f_frm, f_to, f_fromPort, f_toPort, f_check, f_marker, f_type, f_seq, f_time, f_source⟩ := b
  unfold vrtpB
  simp only at *
  have HA : Hid (∀ (W : World) (o : Obj), Below w.heap.size w W → Below w.heap.size w (W.alloc o)) := Lib.hid (fun W o hb => hb.alloc hb.size o)
  have I1 := Lib.hid (fun B W hB => within_1 1 x_marker B W hB (by omega) (wf_fit f_marker))
  have I2 := Lib.hid (fun B W hB => within_1 127 x_type B W hB (by omega) (wf_fit f_type))
  have I3 := Lib.hid (fun B W hB => within_1 65535 x_seq B W hB (by omega) (wf_fit f_seq))
  have I4 := Lib.hid (fun B W hB => within_2 4294967295 x_time x_source B W hB (by omega) (wf_fit f_time) (wf_fit f_source))
  generalize witB 1 [x_marker] = c1 at I1 ⊢
  generalize witB 127 [x_type] = c2 at I2 ⊢
  generalize witB 65535 [x_seq] = c3 at I3 ⊢
  generalize witB 4294967295 [x_time, x_source] = c4 at I4 ⊢
  clear f_kind f_tos f_id f_fixed f_ttl f_frm f_to f_fromPort f_toPort f_check f_marker f_type f_seq f_time f_source
  go_enter Try.func48, Try.ntmps48
  go_wp2_with (first
    | (go_at_call 47; ((with_reducible refine (I1.out _ _ ?_).mono ?_); simp; rintro e w' ⟨rfl, rfl⟩))
    | (go_at_call 47; ((with_reducible refine (I2.out _ _ ?_).mono ?_); simp; rintro e w' ⟨rfl, rfl⟩))
    | (go_at_call 47; ((with_reducible refine (I3.out _ _ ?_).mono ?_); simp; rintro e w' ⟨rfl, rfl⟩))
    | (go_at_call 47; ((with_reducible refine (I4.out _ _ ?_).mono ?_); simp; rintro e w' ⟨rfl, rfl⟩))
    | fail)
  all_goals go_ret
  all_goals refine ⟨ret_bool ?_, ?_⟩
  all_goals clear I1 I2 I3 I4
  all_goals first | (simp; done) | (simp_all; done) | (repeat (first | exact Below.refl _ _ | refine HA.out _ _ ?_))

theorem validB_eq (h : Hd) : validB h = if h.kind = 1 then baseB h && witB 0 [h.marker, h.type, h.seq, h.time, h.source] else if h.kind = 2 then baseB h && vrtpB h else false := by
  apply Bool.eq_iff_iff.2
  unfold validB baseB vrtpB witB
  by_cases k1 : h.kind = 1
  · simp [k1]; omega
  · by_cases k2 : h.kind = 2
    · simp [k2]; omega
    · simp [k1, k2]

/-- a header in a block of the call's own: its cells, at every later world -/
theorem hbox_cells (h : Hd) (w wk : World) (hb : Below (w.heap.size + 1) (w.alloc (.cells #[.int .i64 h.kind, .int .i64 h.tos, .int .i64 h.id, .int .i64 h.fixed, .int .i64 h.ttl, .int .i64 h.frm, .int .i64 h.to, .int .i64 h.fromPort, .int .i64 h.toPort, .int .i64 h.check, .int .i64 h.marker, .int .i64 h.type, .int .i64 h.seq, .int .i64 h.time, .int .i64 h.source] 23)) wk) (i : Nat) :
    wk.cell? ⟨w.heap.size, i, none⟩ = (#[.int .i64 h.kind, .int .i64 h.tos, .int .i64 h.id, .int .i64 h.fixed, .int .i64 h.ttl, .int .i64 h.frm, .int .i64 h.to, .int .i64 h.fromPort, .int .i64 h.toPort, .int .i64 h.check, .int .i64 h.marker, .int .i64 h.type, .int .i64 h.seq, .int .i64 h.time, .int .i64 h.source] : Array Value)[i]? := by
  rw [hb.cell (p := ⟨w.heap.size, i, none⟩) (by simp)]
  exact World.cell?_alloc_at (w := w) _ _ w.heap.size i rfl

set_option maxRecDepth 100000 in
set_option maxHeartbeats 1600000 in
theorem Valid_any (h : Hd) (w : World) (b : h.Fits) :
    Calls Try.prog 35 #[(.agg #[.int .i64 h.kind, .int .i64 h.tos, .int .i64 h.id, .int .i64 h.fixed, .int .i64 h.ttl, .int .i64 h.frm, .int .i64 h.to, .int .i64 h.fromPort, .int .i64 h.toPort, .int .i64 h.check, .int .i64 h.marker, .int .i64 h.type, .int .i64 h.seq, .int .i64 h.time, .int .i64 h.source])] w fun e w' => e = .returned (.bool (validB h)) ∧ Below w.heap.size w w' := by
  have VB := Lib.hid (fun W => validBase_any h W b)
  have VR := Lib.hid (fun W => validRtp_any h W b)
  have HC := Lib.hid (hbox_cells h w)
  have BW := Lib.hid ((Below.refl w.heap.size w).alloc (Nat.le_refl _) (.cells #[.int .i64 h.kind, .int .i64 h.tos, .int .i64 h.id, .int .i64 h.fixed, .int .i64 h.ttl, .int .i64 h.frm, .int .i64 h.to, .int .i64 h.fromPort, .int .i64 h.toPort, .int .i64 h.check, .int .i64 h.marker, .int .i64 h.type, .int .i64 h.seq, .int .i64 h.time, .int .i64 h.source] 23))
  have I5 := Lib.hid (fun B W hB => within_5 0 h.marker h.type h.seq h.time h.source B W hB (by omega) (wf_fit b.marker) (wf_fit b.type) (wf_fit b.seq) (wf_fit b.time) (wf_fit b.source))
  rw [validB_eq]
  generalize witB 0 [h.marker, h.type, h.seq, h.time, h.source] = c5 at I5 ⊢
  generalize baseB h = c1 at VB ⊢
  generalize vrtpB h = c2 at VR ⊢
  clear b
  by_cases k1 : h.kind = 1
  · rw [if_pos k1]
    have K1 : (h.kind == 1) = true := by rw [k1]; rfl
    clear k1
    go_enter Try.func35, Try.ntmps35
    go_wp2_with (first
      | (go_at_call 46; ((with_reducible refine (VB.out _).mono ?_); rintro e w2 ⟨rfl, hb⟩; have hb2 : Below (w.heap.size + 1) (w.alloc (.cells #[.int .i64 h.kind, .int .i64 h.tos, .int .i64 h.id, .int .i64 h.fixed, .int .i64 h.ttl, .int .i64 h.frm, .int .i64 h.to, .int .i64 h.fromPort, .int .i64 h.toPort, .int .i64 h.check, .int .i64 h.marker, .int .i64 h.type, .int .i64 h.seq, .int .i64 h.time, .int .i64 h.source] 23)) w2 := hb.mono (by simp); have B2 := Lib.hid hb2; have hc := HC.out w2 hb2; have hz2 : w.heap.size < w2.heap.size := Nat.lt_of_lt_of_le (by simp) hb2.size; clear hb hb2))
      | (go_at_call 47; ((with_reducible refine (I5.out _ _ ?_).mono ?_); simp; rintro e w' ⟨rfl, rfl⟩))
      | fail)
    all_goals go_ret
    all_goals refine ⟨ret_bool ?_, ?_⟩
    all_goals clear I5 VB VR HC hc
    all_goals first | (simp; done) | (simp_all; done) | exact BW.out.trans (B2.out.mono (by omega)) | exact BW.out.trans ((B2.out.mono (by omega)).alloc (by omega) _)
  · rw [if_neg k1]
    have K1 : (h.kind == 1) = false := by simpa using k1
    by_cases k2 : h.kind = 2
    · rw [if_pos k2]
      have K2 : (h.kind == 2) = true := by rw [k2]; rfl
      clear k1 k2 I5
      go_enter Try.func35, Try.ntmps35
      go_wp2_with (first
        | (go_at_call 46; ((with_reducible refine (VB.out _).mono ?_); rintro e w2 ⟨rfl, hb⟩; have hb2 : Below (w.heap.size + 1) (w.alloc (.cells #[.int .i64 h.kind, .int .i64 h.tos, .int .i64 h.id, .int .i64 h.fixed, .int .i64 h.ttl, .int .i64 h.frm, .int .i64 h.to, .int .i64 h.fromPort, .int .i64 h.toPort, .int .i64 h.check, .int .i64 h.marker, .int .i64 h.type, .int .i64 h.seq, .int .i64 h.time, .int .i64 h.source] 23)) w2 := hb.mono (by simp); have B2 := Lib.hid hb2; have hc := HC.out w2 hb2; have hz2 : w.heap.size < w2.heap.size := Nat.lt_of_lt_of_le (by simp) hb2.size; clear hb hb2))
        | (go_at_call 48; ((with_reducible refine (VR.out _).mono ?_); rintro e w3 ⟨rfl, hb⟩; have B3 := Lib.hid (B2.out.trans (hb.mono (by omega))); clear hb))
        | fail)
      all_goals go_ret
      all_goals refine ⟨ret_bool ?_, ?_⟩
      all_goals clear VB VR HC hc
      all_goals first | (simp; done) | (simp_all; done) | exact BW.out.trans (B2.out.mono (by omega)) | exact BW.out.trans (B3.out.mono (by omega))
    · rw [if_neg k2]
      have K2 : (h.kind == 2) = false := by simpa using k2
      clear k1 k2 I5
      go_enter Try.func35, Try.ntmps35
      go_wp2
      go_ret
      exact ⟨rfl, BW.out⟩
end Go.Proofs.Ytphekpkkeiaccaa
