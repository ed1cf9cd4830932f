/-
  Parse of the program's layer 5.
-/
import Derived.Test.YtfeeifemfhhijaaPkPar
import Derived.Test.YtfeeifemfhhijaaPkBld2
import Derived.Test.YtfeeifemfhhijaaHdBox
namespace Go.Proofs.Ytfeeifemfhhijaa
open Go Go.RowKit

theorem fldL_valid (zs : List Int) (h : Bytes zs) : (fldL zs).Valid := by
  unfold fldL
  split
  · exact fldR_valid zs h
  · exact fldU_valid zs h
theorem fldL_head (zs : List Int) (h : 28 ≤ zs.length) : headN (fldL zs) ≤ zs.length := by
  unfold fldL
  split
  · next h =>
    unfold rtpB at h
    simp only [Bool.and_eq_true, decide_eq_true_eq] at h
    have e : headN (fldR zs) = 40 := by unfold headN fldR; simp
    omega
  · have e : headN (fldU zs) = 28 := by unfold headN fldU; simp
    omega
theorem Sl.tail {k : IntKind} {w : World} {b off n : Nat} {zs : List Int} (h : Sl k w (some ⟨b, off, none⟩) n zs) {H : Nat} (hm : H ≤ n) : Sl k w (some ⟨b, off + H, none⟩) (n - H) (zs.drop H) := by
  have hl := h.len
  have := h.sub H (n - H) (by omega)
  rwa [List.take_of_length_le (by rw [List.length_drop]; omega)] at this
theorem Sl.tail_end {k : IntKind} {w : World} {b off n : Nat} {zs : List Int} (h : Sl k w (some ⟨b, off, none⟩) n zs) {H : Nat} (hm : H = n) : Sl k w (some ⟨b, off, none⟩) (n - H) (zs.drop H) := by
  have hl := h.len
  have e : n - H = 0 := by omega
  have e2 : zs.drop H = [] := List.eq_nil_of_length_eq_zero (by rw [List.length_drop]; omega)
  rw [e, e2]
  exact ⟨rfl, by omega, by simp, fun i hi => by omega⟩
theorem headN_kind (h : Hd) : (if h.kind = 2 then (40 : Int) else 28) = (headN h : Int) := by unfold headN; split <;> rfl

set_option maxRecDepth 100000 in
set_option maxHeartbeats 16000000 in
theorem Parse_size (a : Option Addr) (n cap : Nat) (w : World) (hr : n ≤ 140737488355328) (h : n < 28 ∨ 1500 < n) :
    Calls Try.prog 28 #[.slice a n cap] w fun e w' => e = .returned (.tuple #[.agg #[.int .i64 0, .int .i64 0, .int .i64 0, .int .i64 0, .int .i64 0, .int .i64 0, .int .i64 0, .int .i64 0, .int .i64 0, .int .i64 0, .int .i64 0, .int .i64 0, .int .i64 0, .int .i64 0, .int .i64 0], .slice none 0 0, .int .i64 2]) ∧ Below w.heap.size w w' := by
  rcases h with h | h
  · have h1 : (n : Int) < 28 := by omega
    clear h
    go_enter Try.func28, Try.ntmps28
    go_wp2
    refine bodyPost_ret (v := .tuple #[.agg #[.int .i64 0, .int .i64 0, .int .i64 0, .int .i64 0, .int .i64 0, .int .i64 0, .int .i64 0, .int .i64 0, .int .i64 0, .int .i64 0, .int .i64 0, .int .i64 0, .int .i64 0, .int .i64 0, .int .i64 0], .slice none 0 0, .int .i64 2]) (by simp [results, Try.results28, go_sem]) rfl ⟨rfl, (Below.refl _ _).alloc (Nat.le_refl _) _⟩
  · have h1 : (1500 : Int) < (n : Int) := by omega
    clear h
    go_enter Try.func28, Try.ntmps28
    go_wp2
    refine bodyPost_ret (v := .tuple #[.agg #[.int .i64 0, .int .i64 0, .int .i64 0, .int .i64 0, .int .i64 0, .int .i64 0, .int .i64 0, .int .i64 0, .int .i64 0, .int .i64 0, .int .i64 0, .int .i64 0, .int .i64 0, .int .i64 0, .int .i64 0], .slice none 0 0, .int .i64 2]) (by simp [results, Try.results28, go_sem]) rfl ⟨rfl, (Below.refl _ _).alloc (Nat.le_refl _) _⟩

set_option maxRecDepth 100000 in
set_option maxHeartbeats 16000000 in
theorem Parse_ok_in (g off n cap : Nat) (zs : List Int) (w : World) (hs : Sl .u8 w (some ⟨g, off, none⟩) n zs) (hc : n ≤ cap) (h28 : 28 ≤ n) (h15 : n ≤ 1500) (hp : decide (pktL (fldL zs) (zs.drop (headN (fldL zs))) = zs) = true) (hcut : headN (fldL zs) < cap) :
    Calls Try.prog 28 #[.slice (some ⟨g, off, none⟩) n cap] w fun e w' => ∃ o cp, e = .returned (.tuple #[(.agg #[.int .i64 (fldL zs).kind, .int .i64 (fldL zs).tos, .int .i64 (fldL zs).id, .int .i64 (fldL zs).fixed, .int .i64 (fldL zs).ttl, .int .i64 (fldL zs).frm, .int .i64 (fldL zs).to, .int .i64 (fldL zs).fromPort, .int .i64 (fldL zs).toPort, .int .i64 (fldL zs).check, .int .i64 (fldL zs).marker, .int .i64 (fldL zs).type, .int .i64 (fldL zs).seq, .int .i64 (fldL zs).time, .int .i64 (fldL zs).source]), .slice o (n - headN (fldL zs)) cp, .int .i64 0]) ∧ Mk .u8 5 (w.heap.size + 1) w' (.slice o (n - headN (fldL zs)) cp) (n - headN (fldL zs)) (zs.drop (headN (fldL zs))) ∧ (o = none → cp = 0) ∧ Below w.heap.size w w' := by
  have hv := fldL_valid zs hs.bytes
  have hH := fldL_head zs (by rw [hs.len]; exact h28)
  rw [hs.len] at hH
  have HH := Lib.hid (fun W (hb : Below w.heap.size w W) => header_any (some ⟨g, off, none⟩) n cap zs W (hs.keep hb) hc h28)
  have HS := Lib.hid (fun W => headSize_any (fldL zs).kind W)
  rw [headN_kind] at HS
  have hlen : (zs.drop (headN (fldL zs))).length = n - headN (fldL zs) := by rw [List.length_drop, hs.len]
  have S0 : Hid (∀ W, Below w.heap.size w W → Sl .u8 W (some ⟨g, off, none⟩) n zs) := Lib.hid (fun W hb => hs.keep hb)
  have hcase := headN_cases (fldL zs)
  generalize fldL zs = h at HH HS hv hp hH hcut hlen hcase ⊢
  have HB := Lib.hid (fun W o c (hs' : Sl .u8 W o (n - headN h) (zs.drop (headN h))) (hn : o = none → c = 0) => Build_ok h o (n - headN h) c (zs.drop (headN h)) W hv hs' hn (by omega))
  have HP := Lib.hid hp
  have HK : Hid (∀ wk, Below (w.heap.size + 1) (w.alloc (.cells #[.int .i64 h.kind, .int .i64 h.tos, .int .i64 h.id, .int .i64 h.fixed, .int .i64 h.ttl, .int .i64 h.frm, .int .i64 h.to, .int .i64 h.fromPort, .int .i64 h.toPort, .int .i64 h.check, .int .i64 h.marker, .int .i64 h.type, .int .i64 h.seq, .int .i64 h.time, .int .i64 h.source] 23)) wk → wk.heap[w.heap.size]? = some (.cells #[.int .i64 h.kind, .int .i64 h.tos, .int .i64 h.id, .int .i64 h.fixed, .int .i64 h.ttl, .int .i64 h.frm, .int .i64 h.to, .int .i64 h.fromPort, .int .i64 h.toPort, .int .i64 h.check, .int .i64 h.marker, .int .i64 h.type, .int .i64 h.seq, .int .i64 h.time, .int .i64 h.source] 23 (0, 0))) := Lib.hid (fun wk hb => hbox_blk h w wk hb)
  generalize hHd : headN h = H at HS HB HP hH hcut hlen hcase ⊢
  clear hHd hp
  have hH1 : (H : Int) ≤ (cap : Int) := by omega
  have hH2 : (H : Int) ≤ (n : Int) := by omega
  have hH3 : (0 : Int) ≤ (H : Int) := by omega
  have hHm : H + (n - H) = n := by omega
  have S1 : Hid (Sl .u8 w (some ⟨g, off + H, none⟩) (n - H) (zs.drop H)) := Lib.hid (Sl.tail hs (by omega))
  have hn1 : (28 : Int) ≤ (n : Int) := by omega
  have hn2 : (n : Int) ≤ 1500 := by omega
  have HHm := Lib.hid hHm
  have BW := Lib.hid ((Below.refl w.heap.size w).alloc (Nat.le_refl _) (.cells #[.int .i64 h.kind, .int .i64 h.tos, .int .i64 h.id, .int .i64 h.fixed, .int .i64 h.ttl, .int .i64 h.frm, .int .i64 h.to, .int .i64 h.fromPort, .int .i64 h.toPort, .int .i64 h.check, .int .i64 h.marker, .int .i64 h.type, .int .i64 h.seq, .int .i64 h.time, .int .i64 h.source] 23))
  have HB0 := Lib.hid ((Below.refl w.heap.size w).alloc (Nat.le_refl _) (.cells #[.int .i64 0, .int .i64 0, .int .i64 0, .int .i64 0, .int .i64 0, .int .i64 0, .int .i64 0, .int .i64 0, .int .i64 0, .int .i64 0, .int .i64 0, .int .i64 0, .int .i64 0, .int .i64 0, .int .i64 0] 23))
  clear hs hcase hv hlen hHm
  go_enter Try.func28, Try.ntmps28
  go_wp2_with (first
    | (go_at_call 43; refine (HH.out _ HB0.out).mono ?_; rintro e w' ⟨rfl, rfl⟩)
    | (go_at_call 44; refine (HS.out _).mono ?_; rintro e w' ⟨rfl, rfl⟩)
    | fail)
  have hb3 : Below (w.heap.size + 1) (w.alloc (.cells #[.int .i64 h.kind, .int .i64 h.tos, .int .i64 h.id, .int .i64 h.fixed, .int .i64 h.ttl, .int .i64 h.frm, .int .i64 h.to, .int .i64 h.fromPort, .int .i64 h.toPort, .int .i64 h.check, .int .i64 h.marker, .int .i64 h.type, .int .i64 h.seq, .int .i64 h.time, .int .i64 h.source] 23)) (((w.alloc (.cells #[.int .i64 h.kind, .int .i64 h.tos, .int .i64 h.id, .int .i64 h.fixed, .int .i64 h.ttl, .int .i64 h.frm, .int .i64 h.to, .int .i64 h.fromPort, .int .i64 h.toPort, .int .i64 h.check, .int .i64 h.marker, .int .i64 h.type, .int .i64 h.seq, .int .i64 h.time, .int .i64 h.source] 23)).alloc (.cells #[.int .i64 h.kind, .int .i64 h.tos, .int .i64 h.id, .int .i64 h.fixed, .int .i64 h.ttl, .int .i64 h.frm, .int .i64 h.to, .int .i64 h.fromPort, .int .i64 h.toPort, .int .i64 h.check, .int .i64 h.marker, .int .i64 h.type, .int .i64 h.seq, .int .i64 h.time, .int .i64 h.source] 23)).alloc (.cells #[.int .i64 h.kind, .int .i64 h.tos, .int .i64 h.id, .int .i64 h.fixed, .int .i64 h.ttl, .int .i64 h.frm, .int .i64 h.to, .int .i64 h.fromPort, .int .i64 h.toPort, .int .i64 h.check, .int .i64 h.marker, .int .i64 h.type, .int .i64 h.seq, .int .i64 h.time, .int .i64 h.source] 23)) := ((Below.refl _ _).alloc (by simp) _).alloc (by simp) _
  have hbw := BW.out.trans (hb3.mono (Nat.le_succ _))
  refine (clone_any (some ⟨g, off + H, none⟩) (n - H) _ (zs.drop H) _ (S1.out.keep hbw) (fun h => by cases h) (by omega)).mono ?_
  rintro e w4 ⟨o4, c4, rfl, hm, hn, hb⟩
  have hb4 := hb3.trans (hb.mono (show w.heap.size + 1 ≤ _ by simp <;> omega))
  have M4 := Lib.hid (hm.mono (show w.heap.size + 1 ≤ _ by simp <;> omega))
  have N4 := Lib.hid hn
  have B4 := Lib.hid hb4
  have hc4 := cells_of (HK.out w4 hb4)
  have hz4 : w.heap.size < w4.heap.size := Nat.lt_of_lt_of_le (by simp) hb4.size
  clear hm hn hb hb3 hbw hb4
  go_wp2_with fail
  refine (HB.out _ o4 c4 M4.out.sl N4.out).mono ?_
  rintro e w5 ⟨g5, c5, rfl, hm, hb⟩
  rw [HHm.out] at hm
  have hb5 := B4.out.trans (hb.mono (show w.heap.size + 1 ≤ _ by omega))
  have S5 := Lib.hid hm.sl
  have M5 := Lib.hid (M4.out.keep hb)
  have S50 := Lib.hid (S0.out w5 (BW.out.trans (hb5.mono (Nat.le_succ _))))
  have B5 := Lib.hid hb5
  have hc5 := cells_of (HK.out w5 hb5)
  have hf5 := frozen_of (HK.out w5 hb5)
  have hz5 : w.heap.size < w5.heap.size := Nat.lt_of_lt_of_le (by simp) hb5.size
  clear hm hb hb5 hc4 hz4
  go_wp2_with (first
    | (go_at_call 45; refine (equal_any (some ⟨g5, 0, none⟩) (some ⟨g, off, none⟩) _ c5 n cap _ zs w5 S5.out S50.out).mono ?_; rw [HP.out]; rintro e w' ⟨rfl, rfl⟩)
    | fail)
  have K5 := HK.out w5 B5.out
  have hbl : Below w.heap.size w w5 := BW.out.trans (B5.out.mono (Nat.le_succ _))
  clear hc hH1 hH2 hH3 hn1 hn2 hc5 hf5 HK HB HP HH HS S0 S5 S50
  refine at_put (Q := bodyPost _ _ _ _ _) h h w5 w.heap.size K5 ?_
  intro w6 K6 G6
  have hc6 := cells_of K6
  have hb6 := hbl.trans (Below.of_row G6 (fun g h => by cases h; exact Nat.le_refl _) (Nat.le_of_lt hz5))
  refine bodyPost_ret (v := .tuple #[(.agg #[.int .i64 h.kind, .int .i64 h.tos, .int .i64 h.id, .int .i64 h.fixed, .int .i64 h.ttl, .int .i64 h.frm, .int .i64 h.to, .int .i64 h.fromPort, .int .i64 h.toPort, .int .i64 h.check, .int .i64 h.marker, .int .i64 h.type, .int .i64 h.seq, .int .i64 h.time, .int .i64 h.source]), .slice o4 (n - H) c4, .int .i64 0]) (by simp [results, Try.results28, go_sem, hc6]) rfl ?_
  exact ⟨o4, c4, rfl, M5.out.keepRow G6 (.inr fun e => by have := (M5.out.own_ge _ e).1; omega), N4.out, hb6⟩

end Go.Proofs.Ytfeeifemfhhijaa
