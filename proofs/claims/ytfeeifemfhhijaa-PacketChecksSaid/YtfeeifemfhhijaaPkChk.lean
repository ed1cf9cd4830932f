/-
  Plain facts of layer 5: the checksum of UDP makes the sum 0; a changed bit among the first 20 bytes is noticed.
-/
import Derived.Test.YtfeeifemfhhijaaPkBack
namespace Go.Proofs.Ytfeeifemfhhijaa
open Go Go.RowKit

theorem set_self (zs : List Int) (i : Nat) : zs.set i (zs.getD i 0) = zs := by
  apply getD_ext
  · simp
  · intro j hj
    rw [List.length_set] at hj
    by_cases hi : i < zs.length
    · rw [getD_set_int _ _ _ _ hi]
      split
      · next e => rw [e]
      · rfl
    · rw [List.set_eq_of_length_le (by omega)]
theorem total_set (zs : List Int) (k : Nat) (v : Int) (hk : k < zs.length) (he : zs.length % 2 = 0) : total (zs.set k v) = total zs + (if k % 2 = 0 then 256 else 1) * (v - zs.getD k 0) := by
  rcases Nat.mod_two_eq_zero_or_one k with h | h
  · obtain ⟨i, rfl⟩ : ∃ i, k = 2 * i := ⟨k / 2, by omega⟩
    have q := total_put zs i v (zs.getD (2 * i + 1) 0) (by omega)
    have e : (zs.set (2 * i) v).set (2 * i + 1) (zs.getD (2 * i + 1) 0) = zs.set (2 * i) v := by
      have e2 : zs.getD (2 * i + 1) 0 = (zs.set (2 * i) v).getD (2 * i + 1) 0 := by rw [getD_set_int _ _ _ _ hk, if_neg (by omega)]
      rw [e2]; exact set_self _ _
    rw [e] at q
    rw [q, if_pos h]
    unfold wordAt
    omega
  · obtain ⟨i, rfl⟩ : ∃ i, k = 2 * i + 1 := ⟨k / 2, by omega⟩
    have q := total_put zs i (zs.getD (2 * i) 0) v (by omega)
    rw [set_self] at q
    rw [q, if_neg (by omega)]
    unfold wordAt
    omega
/-- the header of IPv4 of a packet sums up to 0 -/
theorem own20 (h : Hd) (v : h.Valid) (ps : List Int) (hb : ∀ z ∈ ps, 0 ≤ z ∧ z ≤ 255) (hs : headN h + ps.length ≤ 1500) : foldI (total ((pktL h ps).take 20)) = 65535 := by
  have hc := headN_cases h
  have hl1 := pkt1_len h ps
  have e : (pktL h ps).take 20 = ((((pkt1 h ps).take 20).set (2 * 5) (csV ((pkt1 h ps).take 20) / 256)).set (2 * 5 + 1) (csV ((pkt1 h ps).take 20) % 256)) := by
    unfold pktL setW
    rw [List.take_set, List.take_set]
  have hby : Bytes ((pkt1 h ps).take 20) := by
    intro i
    rw [getD_take]
    split
    · by_cases hi : i = 10 ∨ i = 11
      · have q : (pkt1 h ps).getD i 0 = 0 := by
          unfold pkt1
          have hl : (headL h ++ ps).length = headN h + ps.length := by rw [List.length_append, headL_len]
          rw [setW_getD _ _ _ _ (by rw [setW_len, hl]; omega), setW_getD _ _ _ _ (by rw [hl]; omega), if_neg (by omega), if_neg (by omega), if_neg (by omega), if_neg (by omega), head_low h ps i (by omega), ip_lit]
          rcases hi with rfl | rfl <;> rfl
        omega
      · have q := pkt_bytes h v ps hb hs i
        unfold pktL at q
        rw [setW_getD _ _ _ _ (by rw [hl1]; omega), if_neg (by omega), if_neg (by omega)] at q
        exact q
    · omega
  have z10 : wordAt ((pkt1 h ps).take 20) 5 = 0 := by
    have q : ∀ i, i = 10 ∨ i = 11 → (pkt1 h ps).getD i 0 = 0 := fun i hi => by
      unfold pkt1
      have hl : (headL h ++ ps).length = headN h + ps.length := by rw [List.length_append, headL_len]
      rw [setW_getD _ _ _ _ (by rw [setW_len, hl]; omega), setW_getD _ _ _ _ (by rw [hl]; omega), if_neg (by omega), if_neg (by omega), if_neg (by omega), if_neg (by omega), head_low h ps i (by omega), ip_lit]
      rcases hi with rfl | rfl <;> rfl
    unfold wordAt
    rw [getD_take, getD_take, if_pos (by omega), if_pos (by omega), q _ (.inl rfl), q _ (.inr rfl)]
    rfl
  have t0 := total_range hby
  have hcs : csV ((pkt1 h ps).take 20) = 65535 - foldI (total ((pkt1 h ps).take 20)) := by unfold csV; rw [addV_zero]
  rw [e, total_put _ _ _ _ (by rw [List.length_take, hl1]; omega), z10, show 256 * (csV ((pkt1 h ps).take 20) / 256) + csV ((pkt1 h ps).take 20) % 256 - 0 = csV ((pkt1 h ps).take 20) by omega, hcs]
  exact fold_own _ t0.1
theorem fold_top (x : Int) (h : foldI x = 65535) : ∃ m : Int, x = 65535 * m ∧ 1 ≤ m := by
  unfold foldI at h
  split at h
  · omega
  · exact ⟨x / 65535, by omega, by omega⟩
/-- a packet with a changed bit among its first 20 bytes is none -/
theorem bit_noticed (h : Hd) (v : h.Valid) (ps : List Int) (hb : ∀ z ∈ ps, 0 ≤ z ∧ z ≤ 255) (hs : headN h + ps.length ≤ 1500) (k : Nat) (hk : k < 20) (y d : Int) (hy0 : 0 ≤ y) (hy1 : y ≤ 255) (hd0 : 1 ≤ d) (hd1 : d ≤ 128) (hy : y = (pktL h ps).getD k 0 + d ∨ y = (pktL h ps).getD k 0 - d) : parB ((pktL h ps).set k y) = false := by
  have hc := headN_cases h
  have hlen := pktL_len h ps
  cases hp : parB ((pktL h ps).set k y) with
  | false => rfl
  | true =>
    exfalso
    have e := of_decide_eq_true hp
    have hbm : Bytes ((pktL h ps).set k y) := by
      intro i
      rw [getD_set_int _ _ _ _ (by omega)]
      split
      · omega
      · exact pkt_bytes h v ps hb hs i
    have hH := fldL_head ((pktL h ps).set k y) (by rw [List.length_set]; omega)
    have q1 := own20 (fldL ((pktL h ps).set k y)) (fldL_valid _ hbm) (((pktL h ps).set k y).drop (headN (fldL ((pktL h ps).set k y)))) (fun z hz => by
      obtain ⟨i, hi, rfl⟩ := List.mem_iff_getElem.1 (List.mem_of_mem_drop hz)
      have := hbm i
      rwa [List.getD_eq_getElem?_getD, List.getElem?_eq_getElem hi] at this) (by rw [List.length_drop, List.length_set]; rw [List.length_set] at hH; omega)
    rw [e, List.take_set] at q1
    have q2 := own20 h v ps hb hs
    have g : ((pktL h ps).take 20).getD k 0 = (pktL h ps).getD k 0 := by rw [getD_take, if_pos hk]
    rw [total_set _ _ _ (by rw [List.length_take]; omega) (by rw [List.length_take, show min 20 (pktL h ps).length = 20 by omega]), g] at q1
    obtain ⟨m1, e1, _⟩ := fold_top _ q1
    obtain ⟨m2, e2, _⟩ := fold_top _ q2
    rw [e2] at e1
    split at e1 <;> rcases hy with rfl | rfl <;> omega
/-- the header with another checksum of UDP -/
def withC (h : Hd) (c : Int) : Hd := ⟨h.kind, h.tos, h.id, h.fixed, h.ttl, h.frm, h.to, h.fromPort, h.toPort, c, h.marker, h.type, h.seq, h.time, h.source⟩
theorem withC_valid {h : Hd} (v : h.Valid) {c : Int} (c0 : 0 ≤ c) (c1 : c ≤ 65535) : (withC h c).Valid := by
  obtain ⟨⟨i1, i2, i3, i4, i5, i6, i7, i8, i9, i10, i11, i12, i13, i14, i15, i16, i17, i18⟩, q⟩ := v
  refine ⟨⟨i1, i2, i3, i4, i5, i6, i7, i8, i9, i10, c0, c1, i13, i14, i15, i16, i17, i18⟩, ?_⟩
  rcases q with ⟨k, ⟨p1, p2, p3, p4, p5⟩⟩ | ⟨k, ⟨r1, r2, r3, r4, r5, r6, r7, r8, r9, r10⟩⟩
  · exact .inl ⟨k, ⟨p1, p2, p3, p4, p5⟩⟩
  · exact .inr ⟨k, ⟨r1, r2, r3, r4, r5, r6, r7, r8, r9, r10⟩⟩
theorem withC_headN (h : Hd) (c : Int) : headN (withC h c) = headN h := rfl
/-- the bytes of a packet but for the two checksums -/
theorem withC_same (h : Hd) (c : Int) (ps : List Int) (j : Nat) (h10 : j ≠ 10) (h11 : j ≠ 11) (h26 : j ≠ 26) (h27 : j ≠ 27) : (pktL (withC h c) ps).getD j 0 = (pktL h ps).getD j 0 := by
  have hc := headN_cases h
  have hl : ∀ x, (headL (withC h x) ++ ps).length = headN h + ps.length := fun x => by rw [List.length_append, headL_len, withC_headN]
  have hl0 : (headL h ++ ps).length = headN h + ps.length := by rw [List.length_append, headL_len]
  have key : (headL (withC h c) ++ ps).getD j 0 = (headL h ++ ps).getD j 0 := by
    by_cases hj : j < 28
    · rw [head_low _ _ _ hj, head_low _ _ _ hj, ip_lit, ip_lit]
      unfold withC
      have hj2 : j = 0 ∨ j = 1 ∨ j = 2 ∨ j = 3 ∨ j = 4 ∨ j = 5 ∨ j = 6 ∨ j = 7 ∨ j = 8 ∨ j = 9 ∨ j = 12 ∨ j = 13 ∨ j = 14 ∨ j = 15 ∨ j = 16 ∨ j = 17 ∨ j = 18 ∨ j = 19 ∨ j = 20 ∨ j = 21 ∨ j = 22 ∨ j = 23 ∨ j = 24 ∨ j = 25 := by omega
      rcases hj2 with rfl | rfl | rfl | rfl | rfl | rfl | rfl | rfl | rfl | rfl | rfl | rfl | rfl | rfl | rfl | rfl | rfl | rfl | rfl | rfl | rfl | rfl | rfl | rfl <;> rfl
    · have e : ∀ x, ∃ T, headL (withC h x) ++ ps = ipL (withC h x) ++ T ∧ headL h ++ ps = ipL h ++ T := fun x => by
        unfold headL
        by_cases hk : h.kind = 2
        · rw [if_pos (show (withC h x).kind = 2 from hk), if_pos hk]
          simp only [List.append_assoc]
          exact ⟨_, rfl, rfl⟩
        · rw [if_neg (show ¬ (withC h x).kind = 2 from hk), if_neg hk]
          exact ⟨_, rfl, rfl⟩
      obtain ⟨T, e1, e2⟩ := e c
      rw [e1, e2, getD_app, getD_app, ipL_len, ipL_len, if_neg hj, if_neg hj]
  have hN : headN (withC h c) = headN h := rfl
  unfold pktL pkt1
  rw [setW_getD _ _ _ _ (by rw [setW_len, setW_len, hl]; omega), setW_getD _ _ _ _ (by rw [setW_len, hl]; omega), setW_getD _ _ _ _ (by rw [hl]; omega),
    setW_getD _ _ _ _ (by rw [setW_len, setW_len, hl0]; omega), setW_getD _ _ _ _ (by rw [setW_len, hl0]; omega), setW_getD _ _ _ _ (by rw [hl0]; omega), key, hN]
  simp [h10, h11]
theorem withC_check (h : Hd) (c : Int) (ps : List Int) : (pktL (withC h c) ps).getD 26 0 = c / 256 % 256 ∧ (pktL (withC h c) ps).getD 27 0 = c % 256 := by
  constructor
  · rw [pkt_low _ _ _ (by omega) (by omega) (by omega) (by omega) (by omega) (by omega), head_low _ _ _ (by omega), ip_lit]; rfl
  · rw [pkt_low _ _ _ (by omega) (by omega) (by omega) (by omega) (by omega) (by omega), head_low _ _ _ (by omega), ip_lit]; rfl
/-- what is summed for UDP, with the checksum in its place -/
def sumL (b : List Int) : List Int := (b.drop 12).take 8 ++ [0, 17, ((b.length : Int) - 20) / 256, ((b.length : Int) - 20) % 256] ++ (b.drop 20).take (b.length - 20)
theorem sumL_len (b : List Int) (h : 28 ≤ b.length) : (sumL b).length = b.length - 8 := by unfold sumL; simp; omega
theorem sumL_set (h : Hd) (c : Int) (c0 : 0 ≤ c) (c1 : c ≤ 65535) (ps : List Int) : sumL (pktL (withC h c) ps) = setW (udpL (pktL h ps)) 18 c := by
  have hc := headN_cases h
  have hl := pktL_len h ps
  have hl2 : (pktL (withC h c) ps).length = headN h + ps.length := by rw [pktL_len, withC_headN]
  have eu : udpL (pktL h ps) = setW (sumL (pktL h ps)) 18 0 := rfl
  have hs1 : (sumL (pktL h ps)).length = headN h + ps.length - 8 := by rw [sumL_len _ (by omega), hl]
  have hs2 : (sumL (pktL (withC h c) ps)).length = headN h + ps.length - 8 := by rw [sumL_len _ (by omega), hl2]
  rw [eu]
  apply getD_ext
  · rw [setW_len, setW_len, hs1, hs2]
  · intro i hi
    rw [hs2] at hi
    rw [setW_getD _ _ _ _ (by rw [setW_len, hs1]; omega), setW_getD _ _ _ _ (by rw [hs1]; omega)]
    have g := withC_same h c ps
    have k := withC_check h c ps
    unfold sumL
    rw [hl, hl2]
    simp only [getD_app, List.length_append, List.length_take, List.length_drop, List.length_cons, List.length_nil, getD_take, getD_drop, hl, hl2]
    rw [show min 8 (headN h + ps.length - 12) = 8 by omega]
    by_cases h1 : i < 12
    · rw [if_pos (show i < 8 + (0 + 1 + 1 + 1 + 1) by omega), if_neg (show ¬ i = 18 + 1 by omega), if_neg (show ¬ i = 18 by omega), if_neg (show ¬ i = 18 + 1 by omega), if_neg (show ¬ i = 18 by omega), if_pos (show i < 8 + (0 + 1 + 1 + 1 + 1) by omega)]
      by_cases h2 : i < 8
      · simp only [if_pos h2]; rw [g _ (by omega) (by omega) (by omega) (by omega)]
      · rw [if_neg h2, if_neg h2]
    · rw [if_neg (show ¬ i < 8 + (0 + 1 + 1 + 1 + 1) by omega), if_pos (show i - (8 + (0 + 1 + 1 + 1 + 1)) < headN h + ps.length - 20 by omega)]
      by_cases h4 : i = 19
      · subst h4; simp only [Nat.reduceAdd, Nat.reduceSub, if_true]; exact k.2
      · by_cases h5 : i = 18
        · subst h5; simp only [Nat.reduceAdd, Nat.reduceSub, if_true]; rw [k.1, if_neg (by omega)]; omega
        · rw [if_neg (show ¬ i = 18 + 1 by omega), if_neg h5, if_neg (show ¬ i = 18 + 1 by omega), if_neg h5, if_neg (show ¬ i < 8 + (0 + 1 + 1 + 1 + 1) by omega), if_pos (show i - (8 + (0 + 1 + 1 + 1 + 1)) < headN h + ps.length - 20 by omega), g _ (by omega) (by omega) (by omega) (by omega)]
theorem sumL_bytes {b : List Int} (hb : Bytes b) (h0 : 20 ≤ b.length) (h1 : b.length ≤ 1500) : Bytes (sumL b) := by
  intro i
  unfold sumL
  simp only [getD_app, getD_take, getD_drop]
  split
  · split
    · split
      · exact hb _
      · omega
    · generalize i - (List.take 8 (List.drop 12 b)).length = j
      match j with
      | 0 => simp
      | 1 => simp
      | 2 => simp; omega
      | 3 => simp; omega
      | j + 4 => simp
  · split
    · exact hb _
    · omega
/-- with the right checksum the whole sums up to 0 -/
theorem udp_zero (h : Hd) (v : h.Valid) (ps : List Int) (hb : ∀ z ∈ ps, 0 ≤ z ∧ z ≤ 255) (hs : headN h + ps.length ≤ 1500) : 1 ≤ udpV (pktL h ps) ∧ udpV (pktL h ps) ≤ 65535 ∧ csV (sumL (pktL (withC h (udpV (pktL h ps))) ps)) = 0 := by
  have hc := headN_cases h
  have hl := pktL_len h ps
  have hr := csV_range (udpL (pktL h ps))
  have hu : 1 ≤ udpV (pktL h ps) ∧ udpV (pktL h ps) ≤ 65535 := by unfold udpV; split <;> omega
  refine ⟨hu.1, hu.2, ?_⟩
  rw [sumL_set h _ (by omega) hu.2 ps]
  have hlu : (udpL (pktL h ps)).length = headN h + ps.length - 8 := by
    have e : udpL (pktL h ps) = setW (sumL (pktL h ps)) 18 0 := rfl
    rw [e, setW_len, sumL_len _ (by omega), hl]
  have eu : udpL (pktL h ps) = setW (sumL (pktL h ps)) 18 0 := rfl
  have hby : Bytes (udpL (pktL h ps)) := by
    intro i
    rw [eu, setW_getD _ _ _ _ (by rw [sumL_len _ (by omega), hl]; omega)]
    split
    · omega
    · split
      · omega
      · exact sumL_bytes (pkt_bytes h v ps hb hs) (by omega) (by omega) i
  have t0 := total_range hby
  have w0 : wordAt (udpL (pktL h ps)) 9 = 0 := by
    unfold wordAt
    rw [eu, setW_getD _ _ _ _ (by rw [sumL_len _ (by omega), hl]; omega), setW_getD _ _ _ _ (by rw [sumL_len _ (by omega), hl]; omega)]
    simp
  have tp := total_put (udpL (pktL h ps)) 9 (udpV (pktL h ps) / 256) (udpV (pktL h ps) % 256) (by rw [hlu]; omega)
  have e2 : setW (udpL (pktL h ps)) 18 (udpV (pktL h ps)) = ((udpL (pktL h ps)).set (2 * 9) (udpV (pktL h ps) / 256)).set (2 * 9 + 1) (udpV (pktL h ps) % 256) := rfl
  rw [e2]
  unfold csV
  rw [addV_zero, tp, w0, show 256 * (udpV (pktL h ps) / 256) + udpV (pktL h ps) % 256 - 0 = udpV (pktL h ps) by omega]
  have hcs : csV (udpL (pktL h ps)) = 65535 - foldI (total (udpL (pktL h ps))) := by unfold csV; rw [addV_zero]
  have fo := fold_own (total (udpL (pktL h ps))) t0.1
  have key : foldI (total (udpL (pktL h ps)) + udpV (pktL h ps)) = 65535 := by
    unfold udpV
    split
    · next e =>
      have f1 : foldI (total (udpL (pktL h ps))) = 65535 := by omega
      obtain ⟨m, e1, m1⟩ := fold_top _ f1
      rw [e1]
      unfold foldI
      rw [if_neg (by omega)]
      omega
    · rw [hcs]; exact fo
  rw [key]; rfl
end Go.Proofs.Ytfeeifemfhhijaa
