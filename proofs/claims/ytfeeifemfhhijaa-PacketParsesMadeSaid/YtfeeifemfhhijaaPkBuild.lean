/-
  Build of the document's own functions of layer 5.
-/
import Derived.Test.YtfeeifemfhhijaaPkHead2
import Derived.Test.YtfeeifemfhhijaaSumRef
namespace Go.Proofs.Ytfeeifemfhhijaa
open Go Go.RowKit

theorem rHead_any (h : Hd) (w : World) (v : h.Valid) :
    Calls Try.prog 18 #[(.agg #[.int .i64 h.kind, .int .i64 h.tos, .int .i64 h.id, .int .i64 h.fixed, .int .i64 h.ttl, .int .i64 h.frm, .int .i64 h.to, .int .i64 h.fromPort, .int .i64 h.toPort, .int .i64 h.check, .int .i64 h.marker, .int .i64 h.type, .int .i64 h.seq, .int .i64 h.time, .int .i64 h.source])] w fun e w' => ∃ o cp, e = .returned (.slice o (headN h) cp) ∧ Mk .u8 5 (w.heap.size + 1) w' (.slice o (headN h) cp) (headN h) (headL h) ∧ (o = none → cp = 0) ∧ Below w.heap.size w w' := by
  by_cases hk : h.kind = 2
  · have e : headN h = 40 := by unfold headN; rw [if_pos hk]
    rw [e]; exact rHead_two h w v hk
  · have e : headN h = 28 := by unfold headN; rw [if_neg hk]
    have e2 : headL h = ipL h := by unfold headL; rw [if_neg hk]
    rw [e, e2]
    refine rHead_one h w v ?_
    rcases v.2 with ⟨hk1, _⟩ | ⟨hk1, _⟩
    · exact hk1
    · exact absurd hk1 hk

set_option maxHeartbeats 400000 in
theorem set05_any (B g n cap at' : Nat) (i v : Int) (zs : List Int) (w : World) (hm : Mk .u8 5 B w (.slice (some ⟨g, 0, none⟩) n cap) n zs) (hi : i = at') (ha : at' + 1 < n) (v0 : 0 ≤ v) (v1 : v ≤ 65535) :
    Calls Try.prog 34 #[.slice (some ⟨g, 0, none⟩) n cap, .int .i64 i, .int .i64 v] w fun e w' => e = .returned (.tuple #[]) ∧ Mk .u8 5 B w' (.slice (some ⟨g, 0, none⟩) n cap) n (setW zs at' v) ∧ w.grownBy w' (some g) := by
  subst hi
  have hr := hm.reach
  have d0 := hm.at (j := at') (by omega)
  have d1 := hm.at (j := at' + 1) (by omega)
  have f0 := hm.free at'
  have f1 := hm.free (at' + 1)
  have M2 := Lib.hid ((hm.stored at' (v / 256) (byte_wf (by omega) (by omega))).stored (at' + 1) (v % 256) (byte_wf (by omega) (by omega)))
  generalize zs.getD at' 0 = z0 at d0
  generalize zs.getD (at' + 1) 0 = z1 at d1
  have G := Lib.hid (grown_then (row := some g) (setCell_but w g at' (.int .u8 (v / 256))) (setCell_but _ g (at' + 1) (.int .u8 (v % 256))) (fun _ h => .inl h))
  have hI1 : (at' : Int) < (n : Int) := by omega
  have hI2 : (at' : Int) + 1 < (n : Int) := by omega
  clear hm
  go_enter Try.func34, Try.ntmps34
  go_wp2
  go_end0
  exact ⟨rfl, M2.out, G.out⟩

theorem box_load (h : Hd) (w w2 : World) (hb : Below (w.heap.size + 1) (w.alloc (.cells #[.int .i64 h.kind, .int .i64 h.tos, .int .i64 h.id, .int .i64 h.fixed, .int .i64 h.ttl, .int .i64 h.frm, .int .i64 h.to, .int .i64 h.fromPort, .int .i64 h.toPort, .int .i64 h.check, .int .i64 h.marker, .int .i64 h.type, .int .i64 h.seq, .int .i64 h.time, .int .i64 h.source] 23)) w2) :
    w2.heap[w.heap.size]? = some (.cells #[.int .i64 h.kind, .int .i64 h.tos, .int .i64 h.id, .int .i64 h.fixed, .int .i64 h.ttl, .int .i64 h.frm, .int .i64 h.to, .int .i64 h.fromPort, .int .i64 h.toPort, .int .i64 h.check, .int .i64 h.marker, .int .i64 h.type, .int .i64 h.seq, .int .i64 h.time, .int .i64 h.source] 23 (0, 0)) := (hb.block w.heap.size (by omega)).trans (heap_alloc_new w _)

set_option maxRecDepth 100000 in
set_option maxHeartbeats 3200000 in
theorem rBuild_not (h : Hd) (b : Option Addr) (m c : Nat) (w : World) (f : h.Fits) (v : ¬ h.Valid) :
    Calls Try.prog 10 #[(.agg #[.int .i64 h.kind, .int .i64 h.tos, .int .i64 h.id, .int .i64 h.fixed, .int .i64 h.ttl, .int .i64 h.frm, .int .i64 h.to, .int .i64 h.fromPort, .int .i64 h.toPort, .int .i64 h.check, .int .i64 h.marker, .int .i64 h.type, .int .i64 h.seq, .int .i64 h.time, .int .i64 h.source]), .slice b m c] w fun e w' => e = .returned (.tuple #[.slice none 0 0, .int .i64 1]) ∧ Below w.heap.size w w' := by
  have VV := rValid_any h (w.alloc (.cells #[.int .i64 h.kind, .int .i64 h.tos, .int .i64 h.id, .int .i64 h.fixed, .int .i64 h.ttl, .int .i64 h.frm, .int .i64 h.to, .int .i64 h.fromPort, .int .i64 h.toPort, .int .i64 h.check, .int .i64 h.marker, .int .i64 h.type, .int .i64 h.seq, .int .i64 h.time, .int .i64 h.source] 23)) f
  rw [validB_false v] at VV
  replace VV := Lib.hid VV
  have BW := Lib.hid ((Below.refl w.heap.size w).alloc (Nat.le_refl _) (.cells #[.int .i64 h.kind, .int .i64 h.tos, .int .i64 h.id, .int .i64 h.fixed, .int .i64 h.ttl, .int .i64 h.frm, .int .i64 h.to, .int .i64 h.fromPort, .int .i64 h.toPort, .int .i64 h.check, .int .i64 h.marker, .int .i64 h.type, .int .i64 h.seq, .int .i64 h.time, .int .i64 h.source] 23))
  clear f v
  go_enter Try.func10, Try.ntmps10
  go_wp2_with (first
    | (go_at_call 15; refine VV.out.mono ?_; rintro e w2 ⟨rfl, hb⟩; have B2 := Lib.hid (BW.out.trans (hb.mono (by simp))); clear hb)
    | fail)
  go_ret2
  exact ⟨rfl, B2.out⟩

set_option maxRecDepth 100000 in
set_option maxHeartbeats 3200000 in
theorem rBuild_big (h : Hd) (b : Option Addr) (m c : Nat) (ps : List Int) (w : World) (v : h.Valid) (hs : Sl .u8 w b m ps) (hcb : b = none → c = 0) (hm : m ≤ 140737488351232) (hbig : 1500 < headN h + m) :
    Calls Try.prog 10 #[(.agg #[.int .i64 h.kind, .int .i64 h.tos, .int .i64 h.id, .int .i64 h.fixed, .int .i64 h.ttl, .int .i64 h.frm, .int .i64 h.to, .int .i64 h.fromPort, .int .i64 h.toPort, .int .i64 h.check, .int .i64 h.marker, .int .i64 h.type, .int .i64 h.seq, .int .i64 h.time, .int .i64 h.source]), .slice b m c] w fun e w' => e = .returned (.tuple #[.slice none 0 0, .int .i64 2]) ∧ Below w.heap.size w w' := by
  have VV := rValid_any h (w.alloc (.cells #[.int .i64 h.kind, .int .i64 h.tos, .int .i64 h.id, .int .i64 h.fixed, .int .i64 h.ttl, .int .i64 h.frm, .int .i64 h.to, .int .i64 h.fromPort, .int .i64 h.toPort, .int .i64 h.check, .int .i64 h.marker, .int .i64 h.type, .int .i64 h.seq, .int .i64 h.time, .int .i64 h.source] 23)) v.fits
  rw [validB_true v] at VV
  replace VV := Lib.hid VV
  have HH := Lib.hid (fun W => rHead_any h W v)
  have HC := Lib.hid (box_cells h w)
  have BW := Lib.hid ((Below.refl w.heap.size w).alloc (Nat.le_refl _) (.cells #[.int .i64 h.kind, .int .i64 h.tos, .int .i64 h.id, .int .i64 h.fixed, .int .i64 h.ttl, .int .i64 h.frm, .int .i64 h.to, .int .i64 h.fromPort, .int .i64 h.toPort, .int .i64 h.check, .int .i64 h.marker, .int .i64 h.type, .int .i64 h.seq, .int .i64 h.time, .int .i64 h.source] 23))
  have Hs := Lib.hid hs
  have hcase := headN_cases h
  generalize headN h = H at hcase HH hbig
  have hH : H ≤ 40 := by omega
  have hH2 : 28 ≤ H := by omega
  clear hs hcase v
  go_enter Try.func10, Try.ntmps10
  go_wp2_with (first
    | (go_at_call 15; refine VV.out.mono ?_; rintro e w2 ⟨rfl, hb⟩; have hb2 : Below (w.heap.size + 1) (w.alloc (.cells #[.int .i64 h.kind, .int .i64 h.tos, .int .i64 h.id, .int .i64 h.fixed, .int .i64 h.ttl, .int .i64 h.frm, .int .i64 h.to, .int .i64 h.fromPort, .int .i64 h.toPort, .int .i64 h.check, .int .i64 h.marker, .int .i64 h.type, .int .i64 h.seq, .int .i64 h.time, .int .i64 h.source] 23)) w2 := hb.mono (by simp); have B2 := Lib.hid hb2; have hc := HC.out w2 hb2; have hz2 : w.heap.size < w2.heap.size := Nat.lt_of_lt_of_le (by simp) hb2.size; clear hb hb2)
    | (go_at_call 18; refine (HH.out _).mono ?_; rintro e w3 ⟨o3, c3, rfl, hm3, hn, hb⟩; have M3 := Lib.hid (hm3.mono (Nat.le_succ _)); have B3 := Lib.hid (B2.out.trans (hb.mono (by omega))); have D3 := Lib.hid (BW.out.trans (B3.out.mono (by omega))); have hz3 := hb.size; clear hm3 hn hb)
    | (at_builtin; refine wpList_append_at rfl (.tmp 11) (.tmp 12) 24 rfl .u8 5 w2.heap.size 1 Try.underlying24 info_u8 (.slice o3 H c3) H _ rfl M3.out b m c ps rfl (Hs.out.keep D3.out) hcb (by omega) (by omega) (by first | omega | (simp <;> omega)) ?_; intro o4 c4 w4 hm hg hf hn; have D4 := Lib.hid (D3.out.trans (Below.of_row hg (fun g h => by have := (M3.out.own_ge g h).1; omega) (by first | omega | (simp <;> omega)))); clear hm hg hf hn)
    | fail)
  go_ret2
  exact ⟨rfl, D4.out⟩

set_option maxRecDepth 100000 in
set_option maxHeartbeats 3200000 in
theorem rBuild_ok (h : Hd) (b : Option Addr) (m c : Nat) (ps : List Int) (w : World) (v : h.Valid) (hs : Sl .u8 w b m ps) (hcb : b = none → c = 0) (hsmall : headN h + m ≤ 1500) :
    Calls Try.prog 10 #[(.agg #[.int .i64 h.kind, .int .i64 h.tos, .int .i64 h.id, .int .i64 h.fixed, .int .i64 h.ttl, .int .i64 h.frm, .int .i64 h.to, .int .i64 h.fromPort, .int .i64 h.toPort, .int .i64 h.check, .int .i64 h.marker, .int .i64 h.type, .int .i64 h.seq, .int .i64 h.time, .int .i64 h.source]), .slice b m c] w fun e w' => ∃ g cp, e = .returned (.tuple #[.slice (some ⟨g, 0, none⟩) (headN h + m) cp, .int .i64 0]) ∧ Mk .u8 5 (w.heap.size + 1) w' (.slice (some ⟨g, 0, none⟩) (headN h + m) cp) (headN h + m) (pktL h ps) ∧ Below w.heap.size w w' := by
  have VV := rValid_any h (w.alloc (.cells #[.int .i64 h.kind, .int .i64 h.tos, .int .i64 h.id, .int .i64 h.fixed, .int .i64 h.ttl, .int .i64 h.frm, .int .i64 h.to, .int .i64 h.fromPort, .int .i64 h.toPort, .int .i64 h.check, .int .i64 h.marker, .int .i64 h.type, .int .i64 h.seq, .int .i64 h.time, .int .i64 h.source] 23)) v.fits
  rw [validB_true v] at VV
  replace VV := Lib.hid VV
  have HH := Lib.hid (fun W => rHead_any h W v)
  have HC := Lib.hid (box_cells h w)
  have BW := Lib.hid ((Below.refl w.heap.size w).alloc (Nat.le_refl _) (.cells #[.int .i64 h.kind, .int .i64 h.tos, .int .i64 h.id, .int .i64 h.fixed, .int .i64 h.ttl, .int .i64 h.frm, .int .i64 h.to, .int .i64 h.fromPort, .int .i64 h.toPort, .int .i64 h.check, .int .i64 h.marker, .int .i64 h.type, .int .i64 h.seq, .int .i64 h.time, .int .i64 h.source] 23))
  have Hs := Lib.hid hs
  have hcase := headN_cases h
  have e1 : pkt1 h ps = setW (setW (headL h ++ ps) 2 ((headN h : Int) + m)) 24 ((headN h : Int) + m - 20) := by unfold pkt1; rw [hs.len, Int.natCast_add]
  have e2 : pktL h ps = setW (pkt1 h ps) 10 (csV ((pkt1 h ps).take 20)) := rfl
  rw [e1] at e2
  replace e2 := Lib.hid e2
  generalize headN h = H at hcase HH hsmall e2
  generalize hA0 : headL h ++ ps = A0 at e2
  have HA0 := Lib.hid hA0
  clear hA0
  have hH : H ≤ 40 := by omega
  have hH2 : 28 ≤ H := by omega
  clear hs hcase v e1
  generalize hA2 : setW (setW A0 2 ((H : Int) + m)) 24 ((H : Int) + m - 20) = A2 at e2
  have HA2 := Lib.hid hA2
  have hcs := csV_range (A2.take 20)
  generalize hsv : csV (A2.take 20) = s at hcs e2
  have HSV := Lib.hid hsv
  clear hA2 hsv
  go_enter Try.func10, Try.ntmps10
  go_wp2_with (first
    | (go_at_call 15; refine VV.out.mono ?_; rintro e w2 ⟨rfl, hb⟩; have hb2 : Below (w.heap.size + 1) (w.alloc (.cells #[.int .i64 h.kind, .int .i64 h.tos, .int .i64 h.id, .int .i64 h.fixed, .int .i64 h.ttl, .int .i64 h.frm, .int .i64 h.to, .int .i64 h.fromPort, .int .i64 h.toPort, .int .i64 h.check, .int .i64 h.marker, .int .i64 h.type, .int .i64 h.seq, .int .i64 h.time, .int .i64 h.source] 23)) w2 := hb.mono (by simp); have B2 := Lib.hid hb2; have hc := HC.out w2 hb2; have hz2 : w.heap.size < w2.heap.size := Nat.lt_of_lt_of_le (by simp) hb2.size; clear hb hb2)
    | (go_at_call 18; refine (HH.out _).mono ?_; rintro e w3 ⟨o3, c3, rfl, hm3, hn, hb⟩; have M3 := Lib.hid (hm3.mono (show w.heap.size + 1 ≤ w2.heap.size + 1 by omega)); have B3 := Lib.hid (B2.out.trans (hb.mono (by omega))); have D3 := Lib.hid (BW.out.trans (B3.out.mono (by omega))); have hz3 := hb.size; clear hm3 hn hb)
    | (at_builtin; refine wpList_append_at rfl (.tmp 11) (.tmp 12) 24 rfl .u8 5 (w.heap.size + 1) 1 Try.underlying24 info_u8 (.slice o3 H c3) H _ rfl M3.out b m c ps rfl (Hs.out.keep D3.out) hcb (by omega) (by omega) (by first | omega | (simp <;> omega)) ?_; intro o4 c4 w4 hm hg hf hn; rw [HA0.out] at hm; have D4 := Lib.hid (D3.out.trans (Below.of_row hg (fun g h => by have := (M3.out.own_ge g h).1; omega) (by first | omega | (simp <;> omega)))); obtain ⟨g4, rfl⟩ := hm.head0 (by omega); have M4 := Lib.hid hm; have hc4 := hm.le_cap; clear hm hg hf hn)
    | (go_at_call 34; ((with_reducible refine (set05_any (w.heap.size + 1) g4 (H + m) c4 2 2 ((H : Int) + m) A0 _ M4.out rfl (by omega) (by omega) (by omega)).mono ?_); rintro e w5 ⟨rfl, hm9, hg⟩; have hb5 := D4.out.trans (Below.of_row hg (fun b h => by cases h; have := (M4.out.own_ge g4 rfl).1; omega) (by have := D4.out.size; omega)); have M5 := Lib.hid hm9; have D5 := Lib.hid hb5; clear hm9 hg hb5))
    | (go_at_call 34; ((with_reducible refine (set05_any (w.heap.size + 1) g4 (H + m) c4 24 24 ((H : Int) + m - 20) (setW A0 2 ((H : Int) + m)) _ M5.out rfl (by omega) (by omega) (by omega)).mono ?_); rintro e w6 ⟨rfl, hm9, hg⟩; have hb6 := D5.out.trans (Below.of_row hg (fun b h => by cases h; have := (M5.out.own_ge g4 rfl).1; omega) (by have := D5.out.size; omega)); rw [HA2.out] at hm9; have M6 := Lib.hid hm9; have D6 := Lib.hid hb6; clear hm9 hg hb6))
    | (go_at_call 31; refine (rSum_any (some ⟨g4, 0, none⟩) 20 c4 (A2.take 20) _ (M6.out.sl.take (by omega))).mono ?_; rw [HSV.out]; rintro e w' ⟨rfl, rfl⟩)
    | (go_at_call 34; ((with_reducible refine (set05_any (w.heap.size + 1) g4 (H + m) c4 10 10 (s) A2 _ M6.out rfl (by omega) (by omega) (by omega)).mono ?_); rintro e w7 ⟨rfl, hm9, hg⟩; have hb7 := D6.out.trans (Below.of_row hg (fun b h => by cases h; have := (M6.out.own_ge g4 rfl).1; omega) (by have := D6.out.size; omega)); rw [← e2.out] at hm9; have M7 := Lib.hid hm9; have D7 := Lib.hid hb7; clear hm9 hg hb7))
    | fail)
  go_ret2
  exact ⟨g4, c4, rfl, M7.out, D7.out⟩
end Go.Proofs.Ytfeeifemfhhijaa
