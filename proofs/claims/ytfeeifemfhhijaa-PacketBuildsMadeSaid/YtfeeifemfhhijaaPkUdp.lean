/-
  Udp of the document's own functions of layer 5.
-/
import Derived.Test.YtfeeifemfhhijaaPkBuild
namespace Go.Proofs.Ytfeeifemfhhijaa
open Go Go.RowKit

set_option maxRecDepth 100000 in
set_option maxHeartbeats 3200000 in
theorem rUdp_not (h : Hd) (b : Option Addr) (m c : Nat) (w : World) (f : h.Fits) (v : ¬ h.Valid) :
    Calls Try.prog 12 #[(.agg #[.int .i64 h.kind, .int .i64 h.tos, .int .i64 h.id, .int .i64 h.fixed, .int .i64 h.ttl, .int .i64 h.frm, .int .i64 h.to, .int .i64 h.fromPort, .int .i64 h.toPort, .int .i64 h.check, .int .i64 h.marker, .int .i64 h.type, .int .i64 h.seq, .int .i64 h.time, .int .i64 h.source]), .slice b m c] w fun e w' => e = .returned (.tuple #[.int .i64 0, .int .i64 1]) ∧ Below w.heap.size w w' := by
  have VV := Lib.hid (rBuild_not h b m c (w.alloc (.cells #[.int .i64 h.kind, .int .i64 h.tos, .int .i64 h.id, .int .i64 h.fixed, .int .i64 h.ttl, .int .i64 h.frm, .int .i64 h.to, .int .i64 h.fromPort, .int .i64 h.toPort, .int .i64 h.check, .int .i64 h.marker, .int .i64 h.type, .int .i64 h.seq, .int .i64 h.time, .int .i64 h.source] 23)) f v)
  have BW := Lib.hid ((Below.refl w.heap.size w).alloc (Nat.le_refl _) (.cells #[.int .i64 h.kind, .int .i64 h.tos, .int .i64 h.id, .int .i64 h.fixed, .int .i64 h.ttl, .int .i64 h.frm, .int .i64 h.to, .int .i64 h.fromPort, .int .i64 h.toPort, .int .i64 h.check, .int .i64 h.marker, .int .i64 h.type, .int .i64 h.seq, .int .i64 h.time, .int .i64 h.source] 23))
  clear f v
  go_enter Try.func12, Try.ntmps12
  go_wp2_with (first
    | (go_at_call 10; refine VV.out.mono ?_; rintro e w2 ⟨rfl, hb⟩; have B2 := Lib.hid (BW.out.trans (hb.mono (by simp))); clear hb)
    | fail)
  go_ret2
  exact ⟨rfl, B2.out⟩

set_option maxRecDepth 100000 in
set_option maxHeartbeats 3200000 in
theorem rUdp_big (h : Hd) (b : Option Addr) (m c : Nat) (ps : List Int) (w : World) (v : h.Valid) (hs : Sl .u8 w b m ps) (hcb : b = none → c = 0) (hm : m ≤ 140737488351232) (hbig : 1500 < headN h + m) :
    Calls Try.prog 12 #[(.agg #[.int .i64 h.kind, .int .i64 h.tos, .int .i64 h.id, .int .i64 h.fixed, .int .i64 h.ttl, .int .i64 h.frm, .int .i64 h.to, .int .i64 h.fromPort, .int .i64 h.toPort, .int .i64 h.check, .int .i64 h.marker, .int .i64 h.type, .int .i64 h.seq, .int .i64 h.time, .int .i64 h.source]), .slice b m c] w fun e w' => e = .returned (.tuple #[.int .i64 0, .int .i64 2]) ∧ Below w.heap.size w w' := by
  have VV := Lib.hid (rBuild_big h b m c ps (w.alloc (.cells #[.int .i64 h.kind, .int .i64 h.tos, .int .i64 h.id, .int .i64 h.fixed, .int .i64 h.ttl, .int .i64 h.frm, .int .i64 h.to, .int .i64 h.fromPort, .int .i64 h.toPort, .int .i64 h.check, .int .i64 h.marker, .int .i64 h.type, .int .i64 h.seq, .int .i64 h.time, .int .i64 h.source] 23)) v (hs.alloc _) hcb hm hbig)
  have BW := Lib.hid ((Below.refl w.heap.size w).alloc (Nat.le_refl _) (.cells #[.int .i64 h.kind, .int .i64 h.tos, .int .i64 h.id, .int .i64 h.fixed, .int .i64 h.ttl, .int .i64 h.frm, .int .i64 h.to, .int .i64 h.fromPort, .int .i64 h.toPort, .int .i64 h.check, .int .i64 h.marker, .int .i64 h.type, .int .i64 h.seq, .int .i64 h.time, .int .i64 h.source] 23))
  clear hs v hbig
  go_enter Try.func12, Try.ntmps12
  go_wp2_with (first
    | (go_at_call 10; refine VV.out.mono ?_; rintro e w2 ⟨rfl, hb⟩; have B2 := Lib.hid (BW.out.trans (hb.mono (by simp))); clear hb)
    | fail)
  go_ret2
  exact ⟨rfl, B2.out⟩

set_option maxRecDepth 100000 in
set_option maxHeartbeats 3200000 in
theorem rUdp_ok (h : Hd) (b : Option Addr) (m c : Nat) (ps : List Int) (w : World) (v : h.Valid) (hs : Sl .u8 w b m ps) (hcb : b = none → c = 0) (hsmall : headN h + m ≤ 1500) :
    Calls Try.prog 12 #[(.agg #[.int .i64 h.kind, .int .i64 h.tos, .int .i64 h.id, .int .i64 h.fixed, .int .i64 h.ttl, .int .i64 h.frm, .int .i64 h.to, .int .i64 h.fromPort, .int .i64 h.toPort, .int .i64 h.check, .int .i64 h.marker, .int .i64 h.type, .int .i64 h.seq, .int .i64 h.time, .int .i64 h.source]), .slice b m c] w fun e w' => e = .returned (.tuple #[.int .i64 (udpV (pktL h ps)), .int .i64 0]) ∧ Below w.heap.size w w' := by
  have VV := Lib.hid (rBuild_ok h b m c ps (w.alloc (.cells #[.int .i64 h.kind, .int .i64 h.tos, .int .i64 h.id, .int .i64 h.fixed, .int .i64 h.ttl, .int .i64 h.frm, .int .i64 h.to, .int .i64 h.fromPort, .int .i64 h.toPort, .int .i64 h.check, .int .i64 h.marker, .int .i64 h.type, .int .i64 h.seq, .int .i64 h.time, .int .i64 h.source] 23)) v (hs.alloc _) hcb hsmall)
  have BW := Lib.hid ((Below.refl w.heap.size w).alloc (Nat.le_refl _) (.cells #[.int .i64 h.kind, .int .i64 h.tos, .int .i64 h.id, .int .i64 h.fixed, .int .i64 h.ttl, .int .i64 h.frm, .int .i64 h.to, .int .i64 h.fromPort, .int .i64 h.toPort, .int .i64 h.check, .int .i64 h.marker, .int .i64 h.type, .int .i64 h.seq, .int .i64 h.time, .int .i64 h.source] 23))
  have hl : (pktL h ps).length = headN h + m := by rw [pktL_len, hs.len]
  have hcase := headN_cases h
  generalize pktL h ps = A at VV hl
  generalize hN : headN h + m = N at VV hl hsmall
  have hN2 : 28 ≤ N := by omega
  have HV1 : Hid ((csV (udpL A) == 0) = true → udpV A = 65535) := Lib.hid fun e => by rw [udpV, if_pos (by simpa using e)]
  have HV2 : Hid ((csV (udpL A) == 0) = false → udpV A = csV (udpL A)) := Lib.hid fun e => by rw [udpV, if_neg (by simpa using e)]
  have HU : Hid (udpL A = setW ((A.drop 12).take 8 ++ [0, 17, ((N : Int) - 20) / 256, ((N : Int) - 20) % 256] ++ (A.drop 20).take (N - 20)) 18 0) := by show _ = _; unfold udpL; rw [hl]
  have L1 : Hid (∀ z ∈ [0, 17, ((N : Int) - 20) / 256, ((N : Int) - 20) % 256], (Lit.int .u8 z).wf = true) := fun z hz => by simp at hz; exact byte_wf (by omega) (by omega)
  generalize hX : (A.drop 12).take 8 ++ [0, 17, ((N : Int) - 20) / 256, ((N : Int) - 20) % 256] ++ (A.drop 20).take (N - 20) = X at HU
  have HX := Lib.hid hX
  clear hs v hcase hN hl hX
  go_enter Try.func12, Try.ntmps12
  go_wp2_with (first
    | (go_at_call 10; refine VV.out.mono ?_; rintro e w2 ⟨g2, c2, rfl, hm2, hb⟩; have B2 := Lib.hid (BW.out.trans (hb.mono (by simp))); have hc2 := hm2.le_cap; have M2 := Lib.hid (hm2.mono (show w.heap.size ≤ _ by simp <;> omega)); have hz2 := B2.out.size; clear hb hm2)
    | (at_builtin; refine wpList_append_at rfl (.const (.slice none 0 0)) (.tmp 24) 24 rfl .u8 5 w.heap.size 1 Try.underlying24 info_u8 (.slice none 0 0) 0 [] rfl (Mk.nil .u8 5 _ _) (some ⟨g2, 12, none⟩) 8 _ ((A.drop 12).take 8) rfl (M2.out.sl.sub 12 8 (by omega)) (fun h => by cases h) (by omega) (by omega) hz2 ?_; intro o3 c3 w3 hm hg hf hn; rw [List.nil_append] at hm; have M3 : Hid (Mk .u8 5 w.heap.size w3 (.slice o3 8 c3) 8 _) := Lib.hid hm; have S3 := Lib.hid (M2.out.keepRow hg (.inr (by simp [Value.ownBlock]))); have B3 := Lib.hid (B2.out.trans (Below.of_row hg (fun g h => by cases h) hz2)); have hz3 := B3.out.size; have F3 := Lib.hid (fun g h => (hf g h).resolve_left (fun h => by cases h)); have hb2 := M2.out.block.2; have h23 := hg.size; clear hm hg hf hn)
    | (at_builtin; refine wpList_append_at rfl (.tmp 26) (.tmp 33) 24 rfl .u8 5 w.heap.size 1 Try.underlying24 info_u8 (.slice o3 8 c3) 8 _ rfl (M3.out.alloc _) _ 4 4 [0, 17, ((N : Int) - 20) / 256, ((N : Int) - 20) % 256] rfl (Sl.lit .u8 w3 _ 5 4 _ rfl rfl (by omega) L1.out) (fun h => by cases h) (by omega) (by omega) (by first | omega | (simp <;> omega)) ?_; intro o4 c4 w4 hm hg hf hn; have M4 : Hid (Mk .u8 5 w.heap.size w4 (.slice o4 12 c4) 12 _) := Lib.hid hm; have hr4 : ∀ g, (Value.slice o3 8 c3).ownBlock = some g → g2 < g := (fun g h => Nat.lt_of_lt_of_le hb2 (F3.out g h)); have S4 := Lib.hid ((S3.out.alloc _).keepRow hg (.inr (fun e => by have := hr4 g2 e.symm; omega))); have B4 := Lib.hid ((B3.out.alloc hz3 _).trans (Below.of_row hg (fun g h => (M3.out.own_ge g h).1) (by first | omega | (simp <;> omega)))); have hz4 := B4.out.size; have F4 : Hid (∀ g, (Value.slice o4 12 c4).ownBlock = some g → g2 < g) := Lib.hid (fun g h => (hf g h).elim (hr4 g) (fun e => Nat.lt_of_lt_of_le (show g2 < (w3.alloc _).heap.size by simp <;> omega) e)); clear hm hg hf hn)
    | (at_builtin; refine wpList_append_at rfl (.tmp 35) (.tmp 37) 24 rfl .u8 5 w.heap.size 1 Try.underlying24 info_u8 (.slice o4 12 c4) 12 _ rfl M4.out (some ⟨g2, 20, none⟩) (N - 20) _ ((A.drop 20).take (N - 20)) rfl (S4.out.sl.sub 20 (N - 20) (by omega)) (fun h => by cases h) (by omega) (by omega) hz4 ?_; intro o5 c5 w5 hm hg hf hn; rw [HX.out] at hm; obtain ⟨g5, rfl⟩ := hm.head0 (by omega); have M5 := Lib.hid hm; have B5 := Lib.hid (B4.out.trans (Below.of_row hg (fun g h => (M4.out.own_ge g h).1) hz4)); clear hm hg hf hn)
    | (go_at_call 34; refine (set05_any w.heap.size g5 (12 + (N - 20)) c5 18 18 0 X _ M5.out rfl (by omega) (by omega) (by omega)).mono ?_; rintro e w6 ⟨rfl, hm9, hg⟩; rw [← HU.out] at hm9; have M6 := Lib.hid hm9; have B6 := Lib.hid (B5.out.trans (Below.of_row hg (fun b h => by cases h; exact (M5.out.own_ge g5 rfl).1) B5.out.size)); clear hm9 hg)
    | (go_at_call 31; refine (rSum_any (some ⟨g5, 0, none⟩) (12 + (N - 20)) c5 (udpL A) _ M6.out.sl).mono ?_; rintro e w' ⟨rfl, rfl⟩)
    | fail)
  all_goals go_ret2
  all_goals first
    | (refine ⟨?_, B6.out⟩; rw [HV1.out (by assumption)] <;> rfl)
    | (refine ⟨?_, B6.out⟩; rw [HV2.out (by assumption)] <;> rfl)
end Go.Proofs.Ytfeeifemfhhijaa
