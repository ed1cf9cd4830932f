/-
  Udp of the program's layer 5.
-/
import Derived.Test.YtfeeifemfhhijaaPkBld2
import Derived.Deep.QuietTactic
import Derived.BigQuiet
import Derived.Deep.RegionHeld3
import Derived.Deep.DrawnRows
import Derived.Deep.DeepCutAuto
namespace Go.Proofs.Ytfeeifemfhhijaa
open Go Go.RowKit

theorem getD_ext {xs ys : List Int} (hl : xs.length = ys.length) (h : ∀ i, i < xs.length → xs.getD i 0 = ys.getD i 0) : xs = ys := by
  apply List.ext_getElem hl
  intro i h1 h2
  have := h i h1
  rw [List.getD_eq_getElem?_getD, List.getD_eq_getElem?_getD, List.getElem?_eq_getElem h1, List.getElem?_eq_getElem h2] at this
  simpa using this
theorem setW_getD (zs : List Int) (i j : Nat) (v : Int) (h : i + 1 < zs.length) : (setW zs i v).getD j 0 = if j = i + 1 then v % 256 else if j = i then v / 256 else zs.getD j 0 := by
  unfold setW
  rw [getD_set_int _ _ _ _ (by simpa using h), getD_set_int _ _ _ _ (by omega)]
theorem getD_drop (zs : List Int) (k i : Nat) : (zs.drop k).getD i 0 = zs.getD (k + i) 0 := by
  rw [List.getD_eq_getElem?_getD, List.getD_eq_getElem?_getD, List.getElem?_drop]
theorem getD_take (zs : List Int) (k i : Nat) : (zs.take k).getD i 0 = if i < k then zs.getD i 0 else 0 := by
  rw [List.getD_eq_getElem?_getD, List.getD_eq_getElem?_getD, List.getElem?_take]
  split <;> rfl
/-- what the program sums for UDP is what the document says -/
theorem udp_eq (A : List Int) (N : Nat) (hN : A.length = N) (h28 : 28 ≤ N) (e1 : A.getD 24 0 = ((N : Int) - 20) / 256) (e2 : A.getD 25 0 = ((N : Int) - 20) % 256) :
    ((setW A 26 0).drop 12).take 8 ++ [0, 17, (setW A 26 0).getD 24 0, (setW A 26 0).getD 25 0] ++ ((setW A 26 0).drop 20).take (N - 20) = udpL A := by
  have h24 : (setW A 26 0).getD 24 0 = ((N : Int) - 20) / 256 := by rw [setW_getD A 26 24 0 (by omega)]; simpa using e1
  have h25 : (setW A 26 0).getD 25 0 = ((N : Int) - 20) % 256 := by rw [setW_getD A 26 25 0 (by omega)]; simpa using e2
  rw [h24, h25]
  clear h24 h25 e1 e2
  unfold udpL
  rw [hN]
  generalize ((N : Int) - 20) / 256 = p
  generalize ((N : Int) - 20) % 256 = q
  apply getD_ext
  · rw [setW_len]
    simp [setW_len]
  · intro i hi
    rw [setW_getD _ 18 _ _ (by simp; omega)]
    simp only [List.length_append, List.length_take, List.length_drop, setW_len, List.length_cons, List.length_nil] at hi
    simp only [getD_app, List.length_append, List.length_take, List.length_drop, setW_len, List.length_cons, List.length_nil, getD_take, getD_drop]
    rw [show min 8 (A.length - 12) = 8 by omega]
    by_cases h1 : i < 12
    · rw [if_pos (show i < 8 + (0 + 1 + 1 + 1 + 1) by omega), if_neg (show ¬ i = 18 + 1 by omega), if_neg (show ¬ i = 18 by omega), if_pos (show i < 8 + (0 + 1 + 1 + 1 + 1) by omega)]
      by_cases h2 : i < 8
      · simp only [if_pos h2]; rw [setW_getD A 26 _ 0 (by omega), if_neg (by omega), if_neg (by omega)]
      · rw [if_neg h2, if_neg h2]
    · rw [if_neg (show ¬ i < 8 + (0 + 1 + 1 + 1 + 1) by omega), if_pos (show i - (8 + (0 + 1 + 1 + 1 + 1)) < N - 20 by omega), setW_getD A 26 _ 0 (by omega)]
      by_cases h4 : i = 19
      · subst h4; simp
      · by_cases h5 : i = 18
        · subst h5; simp
        · rw [if_neg (show ¬ i = 18 + 1 by omega), if_neg h5, if_neg (show ¬ i < 8 + (0 + 1 + 1 + 1 + 1) by omega), if_pos (show i - (8 + (0 + 1 + 1 + 1 + 1)) < N - 20 by omega), if_neg (by omega), if_neg (by omega)]
theorem pkt_length (h : Hd) (ps : List Int) (hn : headN h + ps.length ≤ 1500) : (pktL h ps).getD 24 0 = (((headN h + ps.length : Nat) : Int) - 20) / 256 ∧ (pktL h ps).getD 25 0 = (((headN h + ps.length : Nat) : Int) - 20) % 256 := by
  have hc := headN_cases h
  have hl : (headL h ++ ps).length = headN h + ps.length := by rw [List.length_append, headL_len]
  unfold pktL pkt1
  constructor
  · rw [setW_getD _ _ _ _ (by rw [setW_len, setW_len, hl]; omega), setW_getD _ _ _ _ (by rw [setW_len, hl]; omega)]; simp
  · rw [setW_getD _ _ _ _ (by rw [setW_len, setW_len, hl]; omega), setW_getD _ _ _ _ (by rw [setW_len, hl]; omega)]; simp

set_option maxRecDepth 100000 in
set_option maxHeartbeats 3200000 in
theorem Udp_not (h : Hd) (b : Option Addr) (m c : Nat) (w : World) (f : h.Fits) (v : ¬ h.Valid) :
    Calls Try.prog 11 #[(.agg #[.int .i64 h.kind, .int .i64 h.tos, .int .i64 h.id, .int .i64 h.fixed, .int .i64 h.ttl, .int .i64 h.frm, .int .i64 h.to, .int .i64 h.fromPort, .int .i64 h.toPort, .int .i64 h.check, .int .i64 h.marker, .int .i64 h.type, .int .i64 h.seq, .int .i64 h.time, .int .i64 h.source]), .slice b m c] w fun e w' => e = .returned (.tuple #[.int .i64 0, .int .i64 1]) ∧ Below w.heap.size w w' := by
  have VV := Lib.hid (Build_not h b m c (w.alloc (.cells #[.int .i64 h.kind, .int .i64 h.tos, .int .i64 h.id, .int .i64 h.fixed, .int .i64 h.ttl, .int .i64 h.frm, .int .i64 h.to, .int .i64 h.fromPort, .int .i64 h.toPort, .int .i64 h.check, .int .i64 h.marker, .int .i64 h.type, .int .i64 h.seq, .int .i64 h.time, .int .i64 h.source] 23)) f v)
  have BW := Lib.hid ((Below.refl w.heap.size w).alloc (Nat.le_refl _) (.cells #[.int .i64 h.kind, .int .i64 h.tos, .int .i64 h.id, .int .i64 h.fixed, .int .i64 h.ttl, .int .i64 h.frm, .int .i64 h.to, .int .i64 h.fromPort, .int .i64 h.toPort, .int .i64 h.check, .int .i64 h.marker, .int .i64 h.type, .int .i64 h.seq, .int .i64 h.time, .int .i64 h.source] 23))
  clear f v
  go_enter Try.func11, Try.ntmps11
  go_wp2_with (first
    | (go_at_call 9; refine VV.out.mono ?_; rintro e w2 ⟨rfl, hb⟩; have B2 := Lib.hid (BW.out.trans (hb.mono (by simp))); clear hb)
    | fail)
  go_ret2
  exact ⟨rfl, B2.out⟩

set_option maxRecDepth 100000 in
set_option maxHeartbeats 3200000 in
theorem Udp_big (h : Hd) (b : Option Addr) (m c : Nat) (ps : List Int) (w : World) (v : h.Valid) (hs : Sl .u8 w b m ps) (hbig : 1500 < headN h + m) :
    Calls Try.prog 11 #[(.agg #[.int .i64 h.kind, .int .i64 h.tos, .int .i64 h.id, .int .i64 h.fixed, .int .i64 h.ttl, .int .i64 h.frm, .int .i64 h.to, .int .i64 h.fromPort, .int .i64 h.toPort, .int .i64 h.check, .int .i64 h.marker, .int .i64 h.type, .int .i64 h.seq, .int .i64 h.time, .int .i64 h.source]), .slice b m c] w fun e w' => e = .returned (.tuple #[.int .i64 0, .int .i64 2]) ∧ Below w.heap.size w w' := by
  have VV := Lib.hid (Build_big h b m c ps (w.alloc (.cells #[.int .i64 h.kind, .int .i64 h.tos, .int .i64 h.id, .int .i64 h.fixed, .int .i64 h.ttl, .int .i64 h.frm, .int .i64 h.to, .int .i64 h.fromPort, .int .i64 h.toPort, .int .i64 h.check, .int .i64 h.marker, .int .i64 h.type, .int .i64 h.seq, .int .i64 h.time, .int .i64 h.source] 23)) v (hs.alloc _) hbig)
  have BW := Lib.hid ((Below.refl w.heap.size w).alloc (Nat.le_refl _) (.cells #[.int .i64 h.kind, .int .i64 h.tos, .int .i64 h.id, .int .i64 h.fixed, .int .i64 h.ttl, .int .i64 h.frm, .int .i64 h.to, .int .i64 h.fromPort, .int .i64 h.toPort, .int .i64 h.check, .int .i64 h.marker, .int .i64 h.type, .int .i64 h.seq, .int .i64 h.time, .int .i64 h.source] 23))
  clear hs v hbig
  go_enter Try.func11, Try.ntmps11
  go_wp2_with (first
    | (go_at_call 9; refine VV.out.mono ?_; rintro e w2 ⟨rfl, hb⟩; have B2 := Lib.hid (BW.out.trans (hb.mono (by simp))); clear hb)
    | fail)
  go_ret2
  exact ⟨rfl, B2.out⟩

set_option maxRecDepth 100000 in
set_option maxHeartbeats 3200000 in
theorem Udp_ok (h : Hd) (b : Option Addr) (m c : Nat) (ps : List Int) (w : World) (v : h.Valid) (hs : Sl .u8 w b m ps) (hcb : b = none → c = 0) (hsmall : headN h + m ≤ 1500) :
    Calls Try.prog 11 #[(.agg #[.int .i64 h.kind, .int .i64 h.tos, .int .i64 h.id, .int .i64 h.fixed, .int .i64 h.ttl, .int .i64 h.frm, .int .i64 h.to, .int .i64 h.fromPort, .int .i64 h.toPort, .int .i64 h.check, .int .i64 h.marker, .int .i64 h.type, .int .i64 h.seq, .int .i64 h.time, .int .i64 h.source]), .slice b m c] w fun e w' => e = .returned (.tuple #[.int .i64 (udpV (pktL h ps)), .int .i64 0]) ∧ Below w.heap.size w w' := by
  have VV := Lib.hid (Build_ok h b m c ps (w.alloc (.cells #[.int .i64 h.kind, .int .i64 h.tos, .int .i64 h.id, .int .i64 h.fixed, .int .i64 h.ttl, .int .i64 h.frm, .int .i64 h.to, .int .i64 h.fromPort, .int .i64 h.toPort, .int .i64 h.check, .int .i64 h.marker, .int .i64 h.type, .int .i64 h.seq, .int .i64 h.time, .int .i64 h.source] 23)) v (hs.alloc _) hcb hsmall)
  have BW := Lib.hid ((Below.refl w.heap.size w).alloc (Nat.le_refl _) (.cells #[.int .i64 h.kind, .int .i64 h.tos, .int .i64 h.id, .int .i64 h.fixed, .int .i64 h.ttl, .int .i64 h.frm, .int .i64 h.to, .int .i64 h.fromPort, .int .i64 h.toPort, .int .i64 h.check, .int .i64 h.marker, .int .i64 h.type, .int .i64 h.seq, .int .i64 h.time, .int .i64 h.source] 23))
  have hl : (pktL h ps).length = headN h + m := by rw [pktL_len, hs.len]
  have hcase := headN_cases h
  have hq := pkt_length h ps (by rw [hs.len]; exact hsmall)
  rw [hs.len] at hq
  generalize pktL h ps = A at VV hl hq
  generalize hN : headN h + m = N at VV hl hsmall hq
  have hN2 : 28 ≤ N := by omega
  have HV1 : Hid ((csV (udpL A) != 0) = false → udpV A = 65535) := Lib.hid fun e => by rw [udpV, if_pos (by simpa using e)]
  have HV2 : Hid ((csV (udpL A) != 0) = true → udpV A = csV (udpL A)) := Lib.hid fun e => by rw [udpV, if_neg (by simpa using e)]
  have HU := Lib.hid (udp_eq A N hl hN2 hq.1 hq.2)
  generalize hA3 : setW A 26 0 = A3 at HU
  have HA3 := Lib.hid hA3
  have hl3 : A3.length = N := by rw [← hA3, setW_len, hl]
  have HL3 := Lib.hid hl3
  clear hs v hcase hN hl hq hA3 hl3
  go_enter Try.func11, Try.ntmps11
  go_upto_region 6 with (first
    | (go_at_call 9; refine VV.out.mono ?_; rintro e w2 ⟨g2, c2, rfl, hm2, hb⟩; have B2 := Lib.hid (BW.out.trans (hb.mono (by simp))); have hc2 := hm2.le_cap; have M2 := Lib.hid (hm2.mono (show w.heap.size ≤ _ by simp <;> omega)); have hz2 := B2.out.size; clear hb hm2)
    | (go_at_call 32; refine (putWord_any w.heap.size g2 N c2 26 26 0 A _ M2.out rfl (by omega) (by omega) (by omega)).mono ?_; rintro e w3 ⟨rfl, hm9, hg⟩; rw [HA3.out] at hm9; have M3 := Lib.hid hm9; have B3 := Lib.hid (B2.out.trans (Below.of_row hg (fun b h => by cases h; exact (M2.out.own_ge g2 rfl).1) hz2)); have hz3 := B3.out.size; have hb3 := hm9.block.2; clear hm9 hg)
    | (go_at_call 35; refine (clone_any (some ⟨g2, 12, none⟩) 8 _ ((A3.drop 12).take 8) _ (M3.out.sl.sub 12 8 (by omega)) (fun h => by cases h) (by omega)).mono ?_; rintro e w4 ⟨o4, c4, rfl, hm9, hn, hb⟩; have M4 := Lib.hid hm9; have S4 := Lib.hid (M3.out.keep hb); have B4 := Lib.hid (B3.out.trans (hb.mono hz3)); have hz4 := hb.size; clear hm9 hn hb)
    | fail)
  have c24 := S4.out.at (j := 24) (by omega)
  have c25 := S4.out.at (j := 25) (by omega)
  have u24 := S4.out.sl.u8 24
  have u25 := S4.out.sl.u8 25
  generalize hx : A3.getD 24 0 = x at c24 HU u24
  generalize hy : A3.getD 25 0 = y at c25 HU u25
  have HX4 := Lib.hid hx
  have HX5 := Lib.hid hy
  clear hx hy
  have q24 : (24 : Int) < (N : Int) := by omega
  have q25 : (25 : Int) < (N : Int) := by omega
  have L1 : Hid (∀ z ∈ [0, 17, x, y], (Lit.int .u8 z).wf = true) := Lib.hid (fun z hz => by simp at hz; exact byte_wf (by omega) (by omega))
  clear VV
  go_region_held3 (fun w' => w'.cell? ⟨g2, 24, none⟩ = some (.int .u8 x) ∧ w'.cell? ⟨g2, 25, none⟩ = some (.int .u8 y)) (first | exact ⟨c24, c25⟩ | exact ⟨d24, d25⟩ | go_keep)
    (first
      | (refine step_some_mk rfl (.tmp 24) (.tmp 31) 24 rfl .u8 5 w3.heap.size 1 Try.underlying24 info_u8 (.slice o4 8 c4) 8 _ rfl (M4.out.drew.alloc _) _ 0 4 4 [0, 17, x, y] (Sl.lit .u8 w4.drew [0, 17, x, y] 5 4 _ rfl rfl (by omega) L1.out) (by omega) rfl (by omega) (by omega) (by first | omega | (simp <;> omega)) ?_; intro g5 c5 w5 hm hg hf; have M5 : Hid (Mk .u8 5 w3.heap.size w5 (.slice (some ⟨g5, 0, none⟩) 12 c5) 12 _) := Lib.hid hm; have S5 := Lib.hid ((S4.out.drew.alloc _).keepRow hg (.inr (fun e => by have := (M4.out.own_ge g2 e.symm).1; omega))); have B5 := Lib.hid ((B4.out.drew.alloc (by first | omega | (simp <;> omega)) _).trans (Below.of_row hg (fun g h => by have := (M4.out.own_ge g h).1; omega) (by first | omega | (simp <;> omega)))); have hz5 := hg.size; have d24 := S5.out.at (j := 24) (by omega); have d25 := S5.out.at (j := 25) (by omega); rw [HX4.out] at d24; rw [HX5.out] at d25; clear hm hg hf)
      | fail)
  go_wp2_with (first
    | (at_builtin; refine wpList_append_at rfl (.tmp 33) (.tmp 35) 24 rfl .u8 5 w3.heap.size 1 Try.underlying24 info_u8 (.slice (some ⟨g5, 0, none⟩) 12 c5) 12 _ rfl M5.out (some ⟨g2, 20, none⟩) (N - 20) _ ((A3.drop 20).take (N - 20)) rfl (S5.out.sl.sub 20 (N - 20) (by omega)) (fun h => by cases h) (by omega) (by omega) (by first | omega | (simp at hz5; omega)) ?_; intro o6 c6 w6 hm hg hf hn; rw [HU.out] at hm; have M6 := Lib.hid hm; have B6 := Lib.hid (B5.out.trans (Below.of_row hg (fun g h => by have := (M5.out.own_ge g h).1; omega) B5.out.size)); clear hm hg hf hn)
    | (go_at_call 33; refine (Sum_any o6 (12 + (N - 20)) c6 (udpL A) _ M6.out.sl).mono ?_; rintro e w' ⟨rfl, rfl⟩)
    | fail)
  all_goals go_ret2
  all_goals first
    | (refine ⟨?_, B6.out⟩; rw [HV1.out (by assumption)] <;> rfl)
    | (refine ⟨?_, B6.out⟩; rw [HV2.out (by assumption)] <;> rfl)
end Go.Proofs.Ytfeeifemfhhijaa
