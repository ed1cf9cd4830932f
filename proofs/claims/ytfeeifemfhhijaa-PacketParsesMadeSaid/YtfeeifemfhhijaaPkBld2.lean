/-
  Build of the program's layer 5.
-/
import Derived.Test.YtfeeifemfhhijaaPkBld
import Derived.Test.YtfeeifemfhhijaaSumFns
namespace Go.Proofs.Ytfeeifemfhhijaa
open Go Go.RowKit

set_option maxRecDepth 100000 in
set_option maxHeartbeats 3200000 in
theorem Build_not (h : Hd) (b : Option Addr) (m c : Nat) (w : World) (f : h.Fits) (v : ¬ h.Valid) :
    Calls Try.prog 9 #[(.agg #[.int .i64 h.kind, .int .i64 h.tos, .int .i64 h.id, .int .i64 h.fixed, .int .i64 h.ttl, .int .i64 h.frm, .int .i64 h.to, .int .i64 h.fromPort, .int .i64 h.toPort, .int .i64 h.check, .int .i64 h.marker, .int .i64 h.type, .int .i64 h.seq, .int .i64 h.time, .int .i64 h.source]), .slice b m c] w fun e w' => e = .returned (.tuple #[.slice none 0 0, .int .i64 1]) ∧ Below w.heap.size w w' := by
  have VV := Valid_any h (w.alloc (.cells #[.int .i64 h.kind, .int .i64 h.tos, .int .i64 h.id, .int .i64 h.fixed, .int .i64 h.ttl, .int .i64 h.frm, .int .i64 h.to, .int .i64 h.fromPort, .int .i64 h.toPort, .int .i64 h.check, .int .i64 h.marker, .int .i64 h.type, .int .i64 h.seq, .int .i64 h.time, .int .i64 h.source] 23)) f
  rw [validB_false v] at VV
  replace VV := Lib.hid VV
  have BW := Lib.hid ((Below.refl w.heap.size w).alloc (Nat.le_refl _) (.cells #[.int .i64 h.kind, .int .i64 h.tos, .int .i64 h.id, .int .i64 h.fixed, .int .i64 h.ttl, .int .i64 h.frm, .int .i64 h.to, .int .i64 h.fromPort, .int .i64 h.toPort, .int .i64 h.check, .int .i64 h.marker, .int .i64 h.type, .int .i64 h.seq, .int .i64 h.time, .int .i64 h.source] 23))
  clear f v
  go_enter Try.func9, Try.ntmps9
  go_wp2_with (first
    | (go_at_call 14; refine VV.out.mono ?_; rintro e w2 ⟨rfl, hb⟩; have B2 := Lib.hid (BW.out.trans (hb.mono (by simp))); clear hb)
    | fail)
  go_ret2
  exact ⟨rfl, B2.out⟩

set_option maxRecDepth 100000 in
set_option maxHeartbeats 3200000 in
theorem Build_big (h : Hd) (b : Option Addr) (m c : Nat) (ps : List Int) (w : World) (v : h.Valid) (hs : Sl .u8 w b m ps) (hbig : 1500 < headN h + m) :
    Calls Try.prog 9 #[(.agg #[.int .i64 h.kind, .int .i64 h.tos, .int .i64 h.id, .int .i64 h.fixed, .int .i64 h.ttl, .int .i64 h.frm, .int .i64 h.to, .int .i64 h.fromPort, .int .i64 h.toPort, .int .i64 h.check, .int .i64 h.marker, .int .i64 h.type, .int .i64 h.seq, .int .i64 h.time, .int .i64 h.source]), .slice b m c] w fun e w' => e = .returned (.tuple #[.slice none 0 0, .int .i64 2]) ∧ Below w.heap.size w w' := by
  have VV := Valid_any h (w.alloc (.cells #[.int .i64 h.kind, .int .i64 h.tos, .int .i64 h.id, .int .i64 h.fixed, .int .i64 h.ttl, .int .i64 h.frm, .int .i64 h.to, .int .i64 h.fromPort, .int .i64 h.toPort, .int .i64 h.check, .int .i64 h.marker, .int .i64 h.type, .int .i64 h.seq, .int .i64 h.time, .int .i64 h.source] 23)) v.fits
  rw [validB_true v] at VV
  replace VV := Lib.hid VV
  have HH := Lib.hid (fun W => Head_any h W v)
  have HC := Lib.hid (hbox_cells h w)
  have BW := Lib.hid ((Below.refl w.heap.size w).alloc (Nat.le_refl _) (.cells #[.int .i64 h.kind, .int .i64 h.tos, .int .i64 h.id, .int .i64 h.fixed, .int .i64 h.ttl, .int .i64 h.frm, .int .i64 h.to, .int .i64 h.fromPort, .int .i64 h.toPort, .int .i64 h.check, .int .i64 h.marker, .int .i64 h.type, .int .i64 h.seq, .int .i64 h.time, .int .i64 h.source] 23))
  have hr := hs.reach
  have hcase := headN_cases h
  generalize headN h = H at hcase HH hbig
  have hH : H ≤ 40 := by omega
  have hH2 : 28 ≤ H := by omega
  have hbig2 : 1500 - (H : Int) < (m : Int) := by omega
  clear hs hcase v
  go_enter Try.func9, Try.ntmps9
  go_wp2_with (first
    | (go_at_call 14; refine VV.out.mono ?_; rintro e w2 ⟨rfl, hb⟩; have hb2 : Below (w.heap.size + 1) (w.alloc (.cells #[.int .i64 h.kind, .int .i64 h.tos, .int .i64 h.id, .int .i64 h.fixed, .int .i64 h.ttl, .int .i64 h.frm, .int .i64 h.to, .int .i64 h.fromPort, .int .i64 h.toPort, .int .i64 h.check, .int .i64 h.marker, .int .i64 h.type, .int .i64 h.seq, .int .i64 h.time, .int .i64 h.source] 23)) w2 := hb.mono (by simp); have B2 := Lib.hid hb2; have hc := HC.out w2 hb2; have hz2 : w.heap.size < w2.heap.size := Nat.lt_of_lt_of_le (by simp) hb2.size; clear hb hb2)
    | (go_at_call 17; refine (HH.out _).mono ?_; rintro e w3 ⟨o3, c3, rfl, hm3, hn, hb⟩; have B3 := Lib.hid (B2.out.trans (hb.mono (by omega))); have D3 := Lib.hid (BW.out.trans (B3.out.mono (by omega))); clear hm3 hn hb)
    | fail)
  go_ret2
  exact ⟨rfl, D3.out⟩

set_option maxRecDepth 100000 in
set_option maxHeartbeats 3200000 in
theorem Build_ok (h : Hd) (b : Option Addr) (m c : Nat) (ps : List Int) (w : World) (v : h.Valid) (hs : Sl .u8 w b m ps) (hcb : b = none → c = 0) (hsmall : headN h + m ≤ 1500) :
    Calls Try.prog 9 #[(.agg #[.int .i64 h.kind, .int .i64 h.tos, .int .i64 h.id, .int .i64 h.fixed, .int .i64 h.ttl, .int .i64 h.frm, .int .i64 h.to, .int .i64 h.fromPort, .int .i64 h.toPort, .int .i64 h.check, .int .i64 h.marker, .int .i64 h.type, .int .i64 h.seq, .int .i64 h.time, .int .i64 h.source]), .slice b m c] w fun e w' => ∃ g cp, e = .returned (.tuple #[.slice (some ⟨g, 0, none⟩) (headN h + m) cp, .int .i64 0]) ∧ Mk .u8 5 (w.heap.size + 1) w' (.slice (some ⟨g, 0, none⟩) (headN h + m) cp) (headN h + m) (pktL h ps) ∧ Below w.heap.size w w' := by
  have VV := Valid_any h (w.alloc (.cells #[.int .i64 h.kind, .int .i64 h.tos, .int .i64 h.id, .int .i64 h.fixed, .int .i64 h.ttl, .int .i64 h.frm, .int .i64 h.to, .int .i64 h.fromPort, .int .i64 h.toPort, .int .i64 h.check, .int .i64 h.marker, .int .i64 h.type, .int .i64 h.seq, .int .i64 h.time, .int .i64 h.source] 23)) v.fits
  rw [validB_true v] at VV
  replace VV := Lib.hid VV
  have HH := Lib.hid (fun W => Head_any h W v)
  have HC := Lib.hid (hbox_cells h w)
  have BW := Lib.hid ((Below.refl w.heap.size w).alloc (Nat.le_refl _) (.cells #[.int .i64 h.kind, .int .i64 h.tos, .int .i64 h.id, .int .i64 h.fixed, .int .i64 h.ttl, .int .i64 h.frm, .int .i64 h.to, .int .i64 h.fromPort, .int .i64 h.toPort, .int .i64 h.check, .int .i64 h.marker, .int .i64 h.type, .int .i64 h.seq, .int .i64 h.time, .int .i64 h.source] 23))
  have Hs := Lib.hid hs
  have hcase := headN_cases h
  have e1 : pkt1 h ps = setW (setW (headL h ++ ps) 2 ((headN h : Int) + m)) 24 ((headN h : Int) + m - 20) := by unfold pkt1; rw [hs.len, Int.natCast_add]
  have e2 : pktL h ps = setW (pkt1 h ps) 10 (csV ((pkt1 h ps).take 20)) := rfl
  rw [e1] at e2
  replace e2 := Lib.hid e2
  generalize headN h = H at hcase HH hsmall e2
  generalize hA0 : headL h ++ ps = A0 at e2
  have HA0 := Lib.hid hA0
  clear hA0
  have hH : H ≤ 40 := by omega
  have hH2 : 28 ≤ H := by omega
  have hsm2 : (m : Int) ≤ 1500 - (H : Int) := by omega
  clear hs hcase v e1
  generalize hA2 : setW (setW A0 2 ((H : Int) + m)) 24 ((H : Int) + m - 20) = A2 at e2
  have HA2 := Lib.hid hA2
  have hcs := csV_range (A2.take 20)
  generalize hsv : csV (A2.take 20) = s at hcs e2
  have HSV := Lib.hid hsv
  clear hA2 hsv
  go_enter Try.func9, Try.ntmps9
  go_wp2_with (first
    | (go_at_call 14; refine VV.out.mono ?_; rintro e w2 ⟨rfl, hb⟩; have hb2 : Below (w.heap.size + 1) (w.alloc (.cells #[.int .i64 h.kind, .int .i64 h.tos, .int .i64 h.id, .int .i64 h.fixed, .int .i64 h.ttl, .int .i64 h.frm, .int .i64 h.to, .int .i64 h.fromPort, .int .i64 h.toPort, .int .i64 h.check, .int .i64 h.marker, .int .i64 h.type, .int .i64 h.seq, .int .i64 h.time, .int .i64 h.source] 23)) w2 := hb.mono (by simp); have B2 := Lib.hid hb2; have hc := HC.out w2 hb2; have hz2 : w.heap.size < w2.heap.size := Nat.lt_of_lt_of_le (by simp) hb2.size; clear hb hb2)
    | (go_at_call 17; refine (HH.out _).mono ?_; rintro e w3 ⟨o3, c3, rfl, hm3, hn, hb⟩; have M3 := Lib.hid (hm3.mono (show w.heap.size + 1 ≤ w2.heap.size + 1 by omega)); have B3 := Lib.hid (B2.out.trans (hb.mono (by omega))); have D3 := Lib.hid (BW.out.trans (B3.out.mono (by omega))); have hz3 := hb.size; clear hm3 hn hb)
    | (at_builtin; refine wpList_append_at rfl (.tmp 18) (.tmp 19) 24 rfl .u8 5 (w.heap.size + 1) 1 Try.underlying24 info_u8 (.slice o3 H c3) H _ rfl M3.out b m c ps rfl (Hs.out.keep D3.out) hcb (by omega) (by omega) (by first | omega | (simp <;> omega)) ?_; intro o4 c4 w4 hm hg hf hn; rw [HA0.out] at hm; have D4 := Lib.hid (D3.out.trans (Below.of_row hg (fun g h => by have := (M3.out.own_ge g h).1; omega) (by first | omega | (simp <;> omega)))); obtain ⟨g4, rfl⟩ := hm.head0 (by omega); have M4 := Lib.hid hm; have hc4 := hm.le_cap; clear hm hg hf hn)
    | (go_at_call 32; ((with_reducible refine (putWord_any (w.heap.size + 1) g4 (H + m) c4 2 2 ((H : Int) + m) A0 _ M4.out rfl (by omega) (by omega) (by omega)).mono ?_); rintro e w5 ⟨rfl, hm9, hg⟩; have hb5 := D4.out.trans (Below.of_row hg (fun b h => by cases h; have := (M4.out.own_ge g4 rfl).1; omega) (by have := D4.out.size; omega)); have M5 := Lib.hid hm9; have D5 := Lib.hid hb5; clear hm9 hg hb5))
    | (go_at_call 32; ((with_reducible refine (putWord_any (w.heap.size + 1) g4 (H + m) c4 24 24 ((H : Int) + m - 20) (setW A0 2 ((H : Int) + m)) _ M5.out rfl (by omega) (by omega) (by omega)).mono ?_); rintro e w6 ⟨rfl, hm9, hg⟩; have hb6 := D5.out.trans (Below.of_row hg (fun b h => by cases h; have := (M5.out.own_ge g4 rfl).1; omega) (by have := D5.out.size; omega)); rw [HA2.out] at hm9; have M6 := Lib.hid hm9; have D6 := Lib.hid hb6; clear hm9 hg hb6))
    | (go_at_call 33; refine (Sum_any (some ⟨g4, 0, none⟩) 20 c4 (A2.take 20) _ (M6.out.sl.take (by omega))).mono ?_; rw [HSV.out]; rintro e w' ⟨rfl, rfl⟩)
    | (go_at_call 32; ((with_reducible refine (putWord_any (w.heap.size + 1) g4 (H + m) c4 10 10 (s) A2 _ M6.out rfl (by omega) (by omega) (by omega)).mono ?_); rintro e w7 ⟨rfl, hm9, hg⟩; have hb7 := D6.out.trans (Below.of_row hg (fun b h => by cases h; have := (M6.out.own_ge g4 rfl).1; omega) (by have := D6.out.size; omega)); rw [← e2.out] at hm9; have M7 := Lib.hid hm9; have D7 := Lib.hid hb7; clear hm9 hg hb7))
    | fail)
  go_ret2
  exact ⟨g4, c4, rfl, M7.out, D7.out⟩
end Go.Proofs.Ytfeeifemfhhijaa
