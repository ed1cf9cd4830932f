/-
  Plain facts of layer 5: what the fields of a built packet say; a packet is the packet of what it says.
-/
import Derived.Test.YtfeeifemfhhijaaPkParse
import Derived.Test.YtfeeifemfhhijaaPkUdp2
namespace Go.Proofs.Ytfeeifemfhhijaa
open Go Go.RowKit

theorem putB2 (x : Int) : putB 2 x 2 = [x / 256 % 256, x % 256] := by simp [putB, List.range, List.range.loop]
theorem putB4 (x : Int) : putB 4 x 4 = [x / 16777216 % 256, x / 65536 % 256, x / 256 % 256, x % 256] := by simp [putB, List.range, List.range.loop]
theorem ip_lit (h : Hd) : ipL h = [69, h.tos, 0, 0, h.id / 256 % 256, h.id % 256, 64 * h.fixed, 0, h.ttl, 17, 0, 0, h.frm / 16777216 % 256, h.frm / 65536 % 256, h.frm / 256 % 256, h.frm % 256, h.to / 16777216 % 256, h.to / 65536 % 256, h.to / 256 % 256, h.to % 256,
    h.fromPort / 256 % 256, h.fromPort % 256, h.toPort / 256 % 256, h.toPort % 256, 0, 0, h.check / 256 % 256, h.check % 256] := by simp [ipL, putB2, putB4]
theorem head_low (h : Hd) (ps : List Int) (j : Nat) (hj : j < 28) : (headL h ++ ps).getD j 0 = (ipL h).getD j 0 := by
  have hl := headL_len h
  have hc := headN_cases h
  rw [getD_app, if_pos (by omega)]
  unfold headL
  split
  · simp only [List.append_assoc]
    rw [getD_app, if_pos (by rw [ipL_len]; exact hj)]
  · rfl
theorem pkt_low (h : Hd) (ps : List Int) (j : Nat) (h2 : j ≠ 2) (h3 : j ≠ 3) (h10 : j ≠ 10) (h11 : j ≠ 11) (h24 : j ≠ 24) (h25 : j ≠ 25) : (pktL h ps).getD j 0 = (headL h ++ ps).getD j 0 := by
  have hc := headN_cases h
  have hl : (headL h ++ ps).length = headN h + ps.length := by rw [List.length_append, headL_len]
  unfold pktL pkt1
  rw [setW_getD _ _ _ _ (by rw [setW_len, setW_len, hl]; omega), setW_getD _ _ _ _ (by rw [setW_len, hl]; omega), setW_getD _ _ _ _ (by rw [hl]; omega)]
  simp [h2, h3, h10, h11, h24, h25]
theorem getB2 (zs : List Int) (p : Nat) : getB zs p 2 = 256 * zs.getD p 0 + zs.getD (p + 1) 0 := by simp [getB]
theorem getB4 (zs : List Int) (p : Nat) : getB zs p 4 = 16777216 * zs.getD p 0 + 65536 * zs.getD (p + 1) 0 + 256 * zs.getD (p + 2) 0 + zs.getD (p + 3) 0 := by simp [getB]; omega

/-- the fields that both kinds have -/
theorem back_ip (h : Hd) (i : h.Ip) (ps : List Int) (a b c d e : Int) : (⟨1, (pktL h ps).getD 1 0, getB (pktL h ps) 4 2, (pktL h ps).getD 6 0 / 64 % 2, (pktL h ps).getD 8 0, getB (pktL h ps) 12 4, getB (pktL h ps) 16 4, getB (pktL h ps) 20 2, getB (pktL h ps) 22 2, getB (pktL h ps) 26 2, a, b, c, d, e⟩ : Hd) =
    ⟨1, h.tos, h.id, h.fixed, h.ttl, h.frm, h.to, h.fromPort, h.toPort, h.check, a, b, c, d, e⟩ := by
  have g : ∀ j, j < 28 → j ≠ 2 → j ≠ 3 → j ≠ 10 → j ≠ 11 → j ≠ 24 → j ≠ 25 → (pktL h ps).getD j 0 = (ipL h).getD j 0 := fun j h1 h2 h3 h4 h5 h6 h7 => by rw [pkt_low h ps j h2 h3 h4 h5 h6 h7, head_low h ps j h1]
  simp only [getB2, getB4]
  rw [g 1 (by omega) (by omega) (by omega) (by omega) (by omega) (by omega) (by omega), g 4 (by omega) (by omega) (by omega) (by omega) (by omega) (by omega) (by omega), g (4 + 1) (by omega) (by omega) (by omega) (by omega) (by omega) (by omega) (by omega), g 6 (by omega) (by omega) (by omega) (by omega) (by omega) (by omega) (by omega), g 8 (by omega) (by omega) (by omega) (by omega) (by omega) (by omega) (by omega),
    g 12 (by omega) (by omega) (by omega) (by omega) (by omega) (by omega) (by omega), g (12 + 1) (by omega) (by omega) (by omega) (by omega) (by omega) (by omega) (by omega), g (12 + 2) (by omega) (by omega) (by omega) (by omega) (by omega) (by omega) (by omega), g (12 + 3) (by omega) (by omega) (by omega) (by omega) (by omega) (by omega) (by omega),
    g 16 (by omega) (by omega) (by omega) (by omega) (by omega) (by omega) (by omega), g (16 + 1) (by omega) (by omega) (by omega) (by omega) (by omega) (by omega) (by omega), g (16 + 2) (by omega) (by omega) (by omega) (by omega) (by omega) (by omega) (by omega), g (16 + 3) (by omega) (by omega) (by omega) (by omega) (by omega) (by omega) (by omega),
    g 20 (by omega) (by omega) (by omega) (by omega) (by omega) (by omega) (by omega), g (20 + 1) (by omega) (by omega) (by omega) (by omega) (by omega) (by omega) (by omega), g 22 (by omega) (by omega) (by omega) (by omega) (by omega) (by omega) (by omega), g (22 + 1) (by omega) (by omega) (by omega) (by omega) (by omega) (by omega) (by omega),
    g 26 (by omega) (by omega) (by omega) (by omega) (by omega) (by omega) (by omega), g (26 + 1) (by omega) (by omega) (by omega) (by omega) (by omega) (by omega) (by omega), ip_lit]
  obtain ⟨i1, i2, i3, i4, i5, i6, i7, i8, i9, i10, i11, i12, i13, i14, i15, i16, i17, i18⟩ := i
  simp only [List.getD_cons_succ, List.getD_cons_zero, Nat.reduceAdd, Hd.mk.injEq, true_and, and_true]
  refine ⟨?_, ?_, ?_, ?_, ?_, ?_, ?_⟩ <;> omega
theorem pkt_congr {h x : Hd} {ps qs : List Int} (e : headL x ++ qs = headL h ++ ps) : pktL x qs = pktL h ps := by
  have hl : headN x + qs.length = headN h + ps.length := by
    have := congrArg List.length e
    rwa [List.length_append, List.length_append, headL_len, headL_len] at this
  have e1 : pkt1 x qs = pkt1 h ps := by unfold pkt1; rw [e, hl]
  unfold pktL
  rw [e1]
theorem pkt_rest (h : Hd) (ps : List Int) (j : Nat) : (pktL h ps).getD (headN h + j) 0 = ps.getD j 0 := by
  have hc := headN_cases h
  rw [pkt_low h ps _ (by omega) (by omega) (by omega) (by omega) (by omega) (by omega), getD_app, headL_len, if_neg (by omega), Nat.add_sub_cancel_left]
theorem pkt_drop (h : Hd) (ps : List Int) : (pktL h ps).drop (headN h) = ps := by
  apply getD_ext
  · rw [List.length_drop, pktL_len]; omega
  · intro i _
    rw [getD_drop, pkt_rest]
theorem back_fields (h : Hd) (i : h.Ip) (ps : List Int) : (pktL h ps).getD 1 0 = h.tos ∧ getB (pktL h ps) 4 2 = h.id ∧ (pktL h ps).getD 6 0 / 64 % 2 = h.fixed ∧ (pktL h ps).getD 8 0 = h.ttl ∧ getB (pktL h ps) 12 4 = h.frm ∧ getB (pktL h ps) 16 4 = h.to ∧ getB (pktL h ps) 20 2 = h.fromPort ∧ getB (pktL h ps) 22 2 = h.toPort ∧ getB (pktL h ps) 26 2 = h.check := by
  have q := back_ip h i ps 0 0 0 0 0
  simp only [Hd.mk.injEq, true_and, and_true] at q
  exact q
/-- a packet with the header of RTP says its header -/
theorem back_two (h : Hd) (v : h.Valid) (hk : h.kind = 2) (ps : List Int) : rtpB (pktL h ps) = true ∧ fldR (pktL h ps) = h := by
  have hN : headN h = 40 := by unfold headN; rw [if_pos hk]
  have r : h.Rtp := by
    rcases v.2 with ⟨h1, _⟩ | ⟨_, r⟩
    · omega
    · exact r
  obtain ⟨f1, f2, f3, f4, f5, f6, f7, f8, f9⟩ := back_fields h v.1 ps
  have g : ∀ j, j < 12 → (pktL h ps).getD (28 + j) 0 = ([128, 128 * h.marker + h.type, h.seq / 256 % 256, h.seq % 256, h.time / 16777216 % 256, h.time / 65536 % 256, h.time / 256 % 256, h.time % 256, h.source / 16777216 % 256, h.source / 65536 % 256, h.source / 256 % 256, h.source % 256] : List Int).getD j 0 := fun j hj => by
    rw [pkt_low h ps _ (by omega) (by omega) (by omega) (by omega) (by omega) (by omega), getD_app, headL_len, hN, if_pos (by omega)]
    unfold headL
    rw [if_pos hk, putB2, putB4, putB4]
    simp only [List.append_assoc]
    rw [getD_app, ipL_len, if_neg (by omega), Nat.add_sub_cancel_left]
    rfl
  obtain ⟨r1, r2, r3, r4, r5, r6, r7, r8, r9, r10⟩ := r
  refine ⟨?_, ?_⟩
  · unfold rtpB
    rw [pktL_len, hN, decide_eq_true (by omega), g 0 (by omega)]
    rfl
  · unfold fldR
    rw [f1, f2, f3, f4, f5, f6, f7, f8, f9]
    simp only [getB2, getB4]
    rw [g 1 (by omega), g 2 (by omega), g 3 (by omega), g 4 (by omega), g 5 (by omega), g 6 (by omega), g 7 (by omega), g 8 (by omega), g 9 (by omega), g 10 (by omega), g 11 (by omega)]
    simp only [List.getD_cons_succ, List.getD_cons_zero]
    obtain ⟨k, a1, a2, a3, a4, a5, a6, a7, a8, a9, b1, b2, b3, b4, b5⟩ := h
    simp only at *
    simp only [Hd.mk.injEq, true_and]
    refine ⟨hk.symm, ?_, ?_, ?_, ?_, ?_⟩ <;> omega
/-- a packet with the header of UDP alone says its header, unless it looks like one of RTP -/
theorem back_one (h : Hd) (v : h.Valid) (hk : h.kind = 1) (ps : List Int) : fldU (pktL h ps) = h := by
  have r : h.Plain := by
    rcases v.2 with ⟨_, r⟩ | ⟨h1, _⟩
    · exact r
    · omega
  obtain ⟨f1, f2, f3, f4, f5, f6, f7, f8, f9⟩ := back_fields h v.1 ps
  unfold fldU
  rw [f1, f2, f3, f4, f5, f6, f7, f8, f9]
  obtain ⟨k, a1, a2, a3, a4, a5, a6, a7, a8, a9, b1, b2, b3, b4, b5⟩ := h
  obtain ⟨r1, r2, r3, r4, r5⟩ := r
  simp only at *
  rw [hk, r1, r2, r3, r4, r5]
set_option maxHeartbeats 3200000 in
/-- .. and where it does, the two are the same bytes -/
theorem back_odd (h : Hd) (v : h.Valid) (hk : h.kind = 1) (ps : List Int) (hb : ∀ z ∈ ps, 0 ≤ z ∧ z ≤ 255) (hr : rtpB (pktL h ps) = true) : headL (fldR (pktL h ps)) ++ (pktL h ps).drop 40 = headL h ++ ps := by
  have hN : headN h = 28 := by unfold headN; rw [if_neg (by omega)]
  have hL : headL h = ipL h := by unfold headL; rw [if_neg (by omega)]
  unfold rtpB at hr
  rw [pktL_len, hN] at hr
  simp only [Bool.and_eq_true, decide_eq_true_eq, beq_iff_eq] at hr
  obtain ⟨h40, h128⟩ := hr
  have g : ∀ j, (pktL h ps).getD (28 + j) 0 = ps.getD j 0 := fun j => by have := pkt_rest h ps j; rwa [hN] at this
  have hd : (pktL h ps).drop 40 = ps.drop 12 := by
    apply getD_ext
    · rw [List.length_drop, List.length_drop, pktL_len, hN]; omega
    · intro i _
      rw [getD_drop, getD_drop, show 40 + i = 28 + (12 + i) by omega, g]
  obtain ⟨f1, f2, f3, f4, f5, f6, f7, f8, f9⟩ := back_fields h v.1 ps
  have hip : ipL (fldR (pktL h ps)) = ipL h := by
    rw [ip_lit, ip_lit]
    unfold fldR
    rw [f1, f2, f3, f4, f5, f6, f7, f8, f9]
  have hk2 : (fldR (pktL h ps)).kind = 2 := rfl
  rw [hd, hL]
  unfold headL
  rw [if_pos hk2, hip]
  simp only [List.append_assoc]
  congr 1
  unfold fldR
  rw [putB2, putB4, putB4]
  simp only [getB2, getB4]
  rw [show (29 : Nat) = 28 + 1 from rfl, show (30 : Nat) = 28 + 2 from rfl, show (32 : Nat) = 28 + 4 from rfl, show (36 : Nat) = 28 + 8 from rfl]
  simp only [Nat.reduceAdd]
  have h0 := g 0
  rw [Nat.add_zero, h128] at h0
  have hlen : 12 ≤ ps.length := by omega
  clear h40
  rcases ps with _ | ⟨p0, ps⟩
  · simp at hlen
  rcases ps with _ | ⟨p1, ps⟩
  · simp at hlen
  rcases ps with _ | ⟨p2, ps⟩
  · simp at hlen
  rcases ps with _ | ⟨p3, ps⟩
  · simp at hlen
  rcases ps with _ | ⟨p4, ps⟩
  · simp at hlen
  rcases ps with _ | ⟨p5, ps⟩
  · simp at hlen
  rcases ps with _ | ⟨p6, ps⟩
  · simp at hlen
  rcases ps with _ | ⟨p7, ps⟩
  · simp at hlen
  rcases ps with _ | ⟨p8, ps⟩
  · simp at hlen
  rcases ps with _ | ⟨p9, ps⟩
  · simp at hlen
  rcases ps with _ | ⟨p10, ps⟩
  · simp at hlen
  rcases ps with _ | ⟨p11, ps⟩
  · simp at hlen
  have b0 := hb p1 (by simp)
  have b2 := hb p2 (by simp)
  have b3 := hb p3 (by simp)
  have b4 := hb p4 (by simp)
  have b5 := hb p5 (by simp)
  have b6 := hb p6 (by simp)
  have b7 := hb p7 (by simp)
  have b8 := hb p8 (by simp)
  have b9 := hb p9 (by simp)
  have b10 := hb p10 (by simp)
  have b11 := hb p11 (by simp)
  have e1 := g 1
  have e2 := g 2
  have e3 := g 3
  have e4 := g 4
  have e5 := g 5
  have e6 := g 6
  have e7 := g 7
  have e8 := g 8
  have e9 := g 9
  have e10 := g 10
  have e11 := g 11
  simp only [List.getD_cons_succ, List.getD_cons_zero, Nat.reduceAdd] at h0 e1 e2 e3 e4 e5 e6 e7 e8 e9 e10 e11
  simp only [e1, e2, e3, e4, e5, e6, e7, e8, e9, e10, e11, List.drop_succ_cons, List.drop_zero, List.cons_append, List.nil_append, List.cons.injEq, and_true]
  refine ⟨h0, ?_, ?_, ?_, ?_, ?_, ?_, ?_, ?_, ?_, ?_, ?_⟩ <;> omega
/-- every packet is the packet of what it says -/
theorem back_all (h : Hd) (v : h.Valid) (ps : List Int) (hb : ∀ z ∈ ps, 0 ≤ z ∧ z ≤ 255) : parB (pktL h ps) = true ∧ (h.kind = 1 ∧ 12 ≤ ps.length ∧ ps.getD 0 0 = 128 ∨ fldL (pktL h ps) = h ∧ headN (fldL (pktL h ps)) = headN h) := by
  have hN1 : h.kind = 1 → headN h = 28 := fun hk => by unfold headN; rw [if_neg (by omega)]
  rcases v.2 with ⟨hk, _⟩ | ⟨hk, _⟩
  · cases hr : rtpB (pktL h ps) with
    | true =>
      have e : fldL (pktL h ps) = fldR (pktL h ps) := by unfold fldL; rw [if_pos hr]
      have eN : headN (fldR (pktL h ps)) = 40 := by unfold headN fldR; simp
      refine ⟨?_, .inl ⟨hk, ?_⟩⟩
      · unfold parB
        rw [e, eN]
        exact decide_eq_true (pkt_congr (back_odd h v hk ps hb hr))
      · unfold rtpB at hr
        rw [pktL_len, hN1 hk] at hr
        simp only [Bool.and_eq_true, decide_eq_true_eq, beq_iff_eq] at hr
        have q := pkt_rest h ps 0
        rw [hN1 hk] at q
        exact ⟨by omega, by rw [← q]; exact hr.2⟩
    | false =>
      have e : fldL (pktL h ps) = h := by unfold fldL; rw [if_neg (by rw [hr]; simp)]; exact back_one h v hk ps
      refine ⟨?_, .inr ⟨e, by rw [e]⟩⟩
      unfold parB
      rw [e, pkt_drop]
      exact decide_eq_true rfl
  · have q := back_two h v hk ps
    have e : fldL (pktL h ps) = h := by unfold fldL; rw [if_pos q.1]; exact q.2
    refine ⟨?_, .inr ⟨e, by rw [e]⟩⟩
    unfold parB
    rw [e, pkt_drop]
    exact decide_eq_true rfl
theorem getD_byte {zs : List Int} (h : ∀ z ∈ zs, 0 ≤ z ∧ z ≤ 255) (i : Nat) : 0 ≤ zs.getD i 0 ∧ zs.getD i 0 ≤ 255 := by
  by_cases hi : i < zs.length
  · exact h _ (getD_mem hi)
  · rw [getD_nil_after _ _ (by omega)]; omega
theorem putB_byte (M : Nat) (x : Int) (t : Nat) : ∀ z ∈ putB M x t, 0 ≤ z ∧ z ≤ 255 := fun z hz => by
  unfold putB at hz
  obtain ⟨s, _, rfl⟩ := List.mem_map.1 hz
  have := Int.emod_nonneg (x / 2 ^ (8 * (M - 1 - s))) (show (256 : Int) ≠ 0 by omega)
  have := Int.emod_lt_of_pos (x / 2 ^ (8 * (M - 1 - s))) (show (0 : Int) < 256 by omega)
  omega
theorem ipL_byte (h : Hd) (i : h.Ip) : ∀ z ∈ ipL h, 0 ≤ z ∧ z ≤ 255 := fun z hz => by
  obtain ⟨i1, i2, i3, i4, i5, i6, i7, i8, i9, i10, i11, i12, i13, i14, i15, i16, i17, i18⟩ := i
  unfold ipL at hz
  simp only [List.mem_append, List.mem_cons, List.not_mem_nil, or_false] at hz
  rcases hz with ((((((((hz | hz | hz | hz) | hz) | (hz | hz | hz | hz | hz | hz)) | hz) | hz) | hz) | hz) | (hz | hz)) | hz <;> first | exact putB_byte _ _ _ _ hz | omega
theorem headL_byte (h : Hd) (v : h.Valid) : ∀ z ∈ headL h, 0 ≤ z ∧ z ≤ 255 := fun z hz => by
  unfold headL at hz
  split at hz
  · rcases v.2 with ⟨h1, _⟩ | ⟨_, ⟨r1, r2, r3, r4, r5, r6, r7, r8, r9, r10⟩⟩
    · omega
    · simp only [List.mem_append, List.mem_cons, List.not_mem_nil, or_false] at hz
      rcases hz with (((hz | (hz | hz)) | hz) | hz) | hz <;> first | exact putB_byte _ _ _ _ hz | exact ipL_byte h v.1 _ hz | omega
  · exact ipL_byte h v.1 _ hz
/-- a packet's bytes are bytes -/
theorem pkt_bytes (h : Hd) (v : h.Valid) (ps : List Int) (hb : ∀ z ∈ ps, 0 ≤ z ∧ z ≤ 255) (hs : headN h + ps.length ≤ 1500) : Bytes (pktL h ps) := by
  intro i
  have hc := headN_cases h
  have hl : (headL h ++ ps).length = headN h + ps.length := by rw [List.length_append, headL_len]
  have q := csV_range ((pkt1 h ps).take 20)
  have g := getD_byte (zs := headL h ++ ps) (fun z hz => by
    rcases List.mem_append.1 hz with hz | hz
    · exact headL_byte h v z hz
    · exact hb z hz) i
  unfold pktL
  rw [setW_getD _ _ _ _ (by rw [pkt1_len]; omega)]
  split
  · omega
  · split
    · omega
    · unfold pkt1
      rw [setW_getD _ _ _ _ (by rw [setW_len, hl]; omega), setW_getD _ _ _ _ (by rw [hl]; omega)]
      split
      · omega
      · split
        · omega
        · split
          · omega
          · split
            · omega
            · exact g
end Go.Proofs.Ytfeeifemfhhijaa
