/-
  PacketChecks: a changed bit of the header of IPv4 is noticed, and with the right checksum of UDP the whole sums up to 0. No condition.
-/
import Derived.Test.YtfeeifemfhhijaaPkAwake
import Derived.Test.YtfeeifemfhhijaaPkChk
import Derived.Test.YtfeeifemfhhijaaSumRef
import Derived.Test.YtfeeifemfhhijaaHdBox
import Derived.Test.YtfeeifemfhhijaaDiceHeader2
import Derived.Test.YtfeeifemfhhijaaDiceBytes
import Derived.Test.YtfeeifemfhhijaaLift
import Derived.Test.YtfeeifemfhhijaaRows
namespace Go.Proofs.Ytfeeifemfhhijaa.packetChecks
open Go Go.RowKit Go.ChangeShapes Go.WideShapes Go.ChangeAt

theorem flip_nat : ∀ x, x < 256 → ∀ r, r < 8 → (x ^^^ (128 / 2 ^ r)) < 256 ∧ ((x ^^^ (128 / 2 ^ r)) = x + 2 ^ (7 - r) ∨ (x ^^^ (128 / 2 ^ r)) + 2 ^ (7 - r) = x) := by decide +kernel
theorem flip_bit (x : Int) (h0 : 0 ≤ x) (h1 : x ≤ 255) (r : Nat) (hr : r < 8) : ∃ y d : Int, bits .xor .u8 x (128 / 2 ^ r) = y ∧ 0 ≤ y ∧ y ≤ 255 ∧ 1 ≤ d ∧ d ≤ 128 ∧ (y = x + d ∨ y = x - d) := by
  obtain ⟨a, rfl⟩ := Int.eq_ofNat_of_zero_le h0
  obtain ⟨q1, q2⟩ := flip_nat a (by omega) r hr
  have e : (128 : Int) / 2 ^ r = ((128 / 2 ^ r : Nat) : Int) := by simp
  have hp : 1 ≤ 2 ^ (7 - r) ∧ 2 ^ (7 - r) ≤ 128 := ⟨Nat.one_le_two_pow, by
    have := Nat.pow_le_pow_right (n := 2) (by omega) (show 7 - r ≤ 7 by omega)
    simpa using this⟩
  have hlt : 128 / 2 ^ r < 256 := Nat.lt_of_le_of_lt (Nat.div_le_self _ _) (by omega)
  refine ⟨((a ^^^ (128 / 2 ^ r) : Nat) : Int), ((2 ^ (7 - r) : Nat) : Int), ?_, by omega, by omega, by omega, by omega, by omega⟩
  rw [e]
  exact u8_xor_nat a (128 / 2 ^ r) (by omega) hlt

set_option maxRecDepth 100000 in
set_option maxHeartbeats 12800000 in
theorem walk (w : World) (a : Option Addr) (n cap : Nat) (t : List Int) (hs : Sl .i64 w a n t) (bit : Int) (hbit : -9223372036854775808 ≤ bit ∧ bit ≤ 9223372036854775807) :
    Calls Try.prog 8 #[.slice a n cap, .int .i64 bit] w fun e w' => e = .returned (.bool true) ∧ Below w.heap.size w w' := by
  have hr := hs.reach
  have Hs := Lib.hid hs
  have AW := Lib.hid awake_any
  clear hs
  by_cases hn : n ≤ 400
  · have hd : decide (n ≤ 400) = true := decide_eq_true hn
    go_enter Try.func8, Try.ntmps8
    go_wp2_with (go_at_call 19; refine (light_any _ _ _ _ (by omega)).mono ?_; rintro e w' ⟨rfl, rfl⟩)
    refine (roll_in a n cap t _ Hs.out).mono ?_
    rintro e w1 ⟨rfl, hd1, hb1, hz1⟩
    have D1 := Lib.hid hd1
    have B1 := Lib.hid hb1
    have hz1' : w.heap.size < w1.heap.size := by omega
    clear hd1 hb1 hz1 hd
    go_wp2_with fail
    refine (next_in w.heap.size 4 _ D1.out (by omega) (by omega)).mono ?_
    rintro e w2 ⟨r, rfl, r0, r1, hd2, hg2⟩
    have D2 := Lib.hid hd2
    have B2 := Lib.hid (B1.out.trans (Below.of_but hg2 (Nat.le_refl _) (by omega)))
    have hz2 := Nat.lt_of_lt_of_le hz1' hg2.size
    clear hd2 hg2
    go_wp2_with fail
    refine (header_in w.heap.size r _ D2.out r0 (by omega)).mono ?_
    rintro e w3 ⟨h, rfl, hv, hkk, hd3, hg3⟩
    have D3 := Lib.hid hd3
    have B3 := Lib.hid (B2.out.trans (Below.of_but hg3 (Nat.le_refl _) (by omega)))
    have hz3 := Nat.lt_of_lt_of_le hz2 hg3.size
    have HV := Lib.hid hv
    clear hd3 hg3 hkk hv r0 r1
    go_wp2_with fail
    refine (bytes_in w.heap.size 30 _ D3.out (by omega)).mono ?_
    rintro e w4 ⟨o4, n4, c4, ps, rfl, hn4, hm4, hno, hd4, hg4⟩
    have S4 := Lib.hid hm4.sl
    have N4 := Lib.hid hno
    have B4 := Lib.hid (B3.out.trans (Below.of_but hg4 (Nat.le_refl _) (by omega)))
    have hz4 := Nat.lt_of_lt_of_le hz3 hg4.size
    have hl4 := hm4.sl.len
    have hc := headN_cases h
    have hps := hm4.sl.all255
    obtain ⟨u0, u1, hz0⟩ := udp_zero h HV.out ps hps (by omega)
    have HUd := Lib.hid (fun W o k (q : Sl .u8 W o n4 ps) (q2 : o = none → k = 0) => Udp_ok h o n4 k ps W HV.out q q2 (by omega))
    have HV2 := withC_valid (h := h) HV.out (c := udpV (pktL h ps)) (by omega) u1
    have HB1 := Lib.hid (fun W o k (q : Sl .u8 W o n4 ps) (q2 : o = none → k = 0) => Build_ok (withC h (udpV (pktL h ps))) o n4 k ps W HV2 q q2 (by rw [withC_headN]; omega))
    have HBit := Lib.hid (bit_noticed (withC h (udpV (pktL h ps))) HV2 ps hps (by rw [withC_headN]; omega))
    have hLl := pktL_len (withC h (udpV (pktL h ps))) ps
    have hLb := pkt_bytes (withC h (udpV (pktL h ps))) HV2 ps hps (by rw [withC_headN]; omega)
    simp only [withC_headN] at HB1 hLl
    rw [hl4] at hLl
    unfold sumL at hz0
    rw [hLl] at hz0
    have hNs : headN h + n4 ≤ 70 := by omega
    have hNb : 28 ≤ headN h + n4 := by omega
    generalize pktL (withC h (udpV (pktL h ps))) ps = L at HB1 HBit hLl hLb hz0
    generalize udpV (pktL h ps) = u at HUd HB1 u0 u1
    generalize headN h + n4 = N at HB1 hLl hz0 hNs hNb
    obtain ⟨K, q, hA, hK, hq⟩ : ∃ K q : Nat, bit % 160 = 8 * (K : Int) + (q : Int) ∧ K < 20 ∧ q < 8 := ⟨((bit % 160) / 8).toNat, ((bit % 160) % 8).toNat, by omega, by omega, by omega⟩
    obtain ⟨y, d, hy, y0, y1, d0, d1, hyd⟩ := flip_bit (L.getD K 0) (hLb K).1 (hLb K).2 q hq
    have HF := Lib.hid (HBit.out K hK y d y0 y1 d0 d1 hyd)
    have HA := Lib.hid hA
    have HY := Lib.hid hy
    have HZ := Lib.hid hz0
    have HLl := Lib.hid hLl
    clear hm4 hno hd4 hg4 hps hl4 hc HV HV2 D1 D2 D3 HBit hA hy hz0 hLl hyd d0 d1
    go_upto_region 6 with (first
      | (go_at_call 11; ((with_reducible refine (HUd.out _ _ _ (S4.out.alloc _) N4.out).mono ?_); rintro e w5 ⟨rfl, hb⟩; have hb5 : Below (w4.heap.size + 1) (w4.alloc (.cells #[.int .i64 h.kind, .int .i64 h.tos, .int .i64 h.id, .int .i64 h.fixed, .int .i64 h.ttl, .int .i64 h.frm, .int .i64 h.to, .int .i64 h.fromPort, .int .i64 h.toPort, .int .i64 h.check, .int .i64 h.marker, .int .i64 h.type, .int .i64 h.seq, .int .i64 h.time, .int .i64 h.source] 23)) w5 := hb.mono (by simp); have Z5 := Lib.hid (hbox_blk h w4 w5 hb5); have P5 := Lib.hid ((S4.out.alloc _).keep hb); have B5 := Lib.hid ((B4.out.alloc B4.out.size _).trans (hb5.mono (by omega))); have hz5 : w4.heap.size < w5.heap.size := Nat.lt_of_lt_of_le (by simp) hb5.size; clear hb hb5))
      | fail)
    have hc5 := cells_of Z5.out
    have hf5 := frozen_of Z5.out
    go_upto_region 7 with fail
    have Z6 := blk_set Z5.out 9 (.int .i64 u)
    simp only [List.setIfInBounds_toArray, List.set_cons_succ, List.set_cons_zero] at Z6
    have P6 := Lib.hid (P5.out.keepRow (setCell_but w5 w4.heap.size 9 (.int .i64 u)) (fun x hx h0 e => by
      obtain ⟨b, o, e2⟩ := S4.out.head h0
      have e3 := S4.out
      rw [e2] at e3 hx
      cases hx
      have e4 := e3.block h0
      have e5 : b = w4.heap.size := Option.some.inj e
      omega))
    have B6 := Lib.hid (B5.out.setCell (p := ⟨w4.heap.size, 9, none⟩) (show w.heap.size ≤ w4.heap.size by omega) (.int .i64 u))
    have hz6 : w4.heap.size < (w5.setCell ⟨w4.heap.size, 9, none⟩ (.int .i64 u)).heap.size := by simpa using hz5
    generalize w5.setCell ⟨w4.heap.size, 9, none⟩ (.int .i64 u) = w6 at Z6 P6 B6 hz6 ⊢
    have hc6 := cells_of Z6
    clear hc5 hf5 Z5 P5 B5 Z6
    simp only [withC] at HB1
    have L1 : Hid (∀ z ∈ [0, 17, ((N : Int) - 20) / 256, ((N : Int) - 20) % 256], (Lit.int .u8 z).wf = true) := Lib.hid (fun z hz => by simp at hz; exact byte_wf (by omega) (by omega))
    go_upto_region 13 with (first
      | (go_at_call 9; ((with_reducible refine (HB1.out _ _ _ P6.out N4.out).mono ?_); rintro e w7 ⟨g7, k7, rfl, hm, hb⟩; have hk7 := hm.le_cap; have B7 := Lib.hid (B6.out.trans (hb.mono B6.out.size)); have M7 := Lib.hid (hm.mono (show w.heap.size ≤ w6.heap.size + 1 by omega)); have hz7 := B7.out.size; clear hm hb))
      | (go_at_call 13; refine (AW.out _).mono ?_; rintro e w8 ⟨rfl, hb⟩; have M8 := Lib.hid (M7.out.keep hb); have B8 := Lib.hid (B7.out.trans (hb.mono hz7)); have hg8 := M8.out.block.2; have hz8 := B8.out.size; clear hb)
      | (at_builtin; refine wpList_append_at rfl (.const (.slice none 0 0)) (.tmp 66) 24 rfl .u8 5 w8.heap.size 1 Try.underlying24 info_u8 (.slice none 0 0) 0 [] rfl (Mk.nil .u8 5 _ _) (some ⟨g7, 12, none⟩) 8 _ ((L.drop 12).take 8) rfl (M8.out.sl.sub 12 8 (by omega)) (fun h => by cases h) (by omega) (by omega) (Nat.le_refl _) ?_; intro o9 c9 w9 hm hg hf hn; rw [List.nil_append] at hm; have X9 : Hid (Mk .u8 5 w8.heap.size w9 (.slice o9 8 c9) 8 _) := Lib.hid hm; have M9 := Lib.hid (M8.out.keepRow hg (.inr (by simp [Value.ownBlock]))); have B9 := Lib.hid (B8.out.trans (Below.of_row hg (fun g h => by cases h) hz8)); have hz9 := hg.size; clear hm hg hf hn)
      | (at_builtin; refine wpList_append_at rfl (.tmp 67) (.tmp 74) 24 rfl .u8 5 w8.heap.size 1 Try.underlying24 info_u8 (.slice o9 8 c9) 8 _ rfl (X9.out.alloc _) _ 4 4 [0, 17, ((N : Int) - 20) / 256, ((N : Int) - 20) % 256] rfl (Sl.lit .u8 w9 _ 5 4 _ rfl rfl (by omega) L1.out) (fun h => by cases h) (by omega) (by omega) (by first | omega | (simp <;> omega)) ?_; intro o10 c10 w10 hm hg hf hn; have X10 : Hid (Mk .u8 5 w8.heap.size w10 (.slice o10 12 c10) 12 _) := Lib.hid hm; have M10 := Lib.hid ((M9.out.alloc _).keepRow hg (.inr (fun e => by have := (X9.out.own_ge g7 e.symm).1; omega))); have B10 := Lib.hid ((B9.out.alloc (by omega) _).trans (Below.of_row hg (fun g h => by have := (X9.out.own_ge g h).1; omega) (by first | omega | (simp <;> omega)))); have hz10 : w8.heap.size ≤ w10.heap.size := Nat.le_trans (by simp; omega) hg.size; clear hm hg hf hn)
      | (at_builtin; refine wpList_append_at rfl (.tmp 76) (.tmp 78) 24 rfl .u8 5 w8.heap.size 1 Try.underlying24 info_u8 (.slice o10 12 c10) 12 _ rfl X10.out (some ⟨g7, 20, none⟩) (N - 20) _ ((L.drop 20).take (N - 20)) rfl (M10.out.sl.sub 20 (N - 20) (by omega)) (fun h => by cases h) (by omega) (by omega) hz10 ?_; intro o11 c11 w11 hm hg hf hn; have X11 := Lib.hid hm; have M11 := Lib.hid (M10.out.keepRow hg (.inr (fun e => by have := (X10.out.own_ge g7 e.symm).1; omega))); have B11 := Lib.hid (B10.out.trans (Below.of_row hg (fun g h => by have := (X10.out.own_ge g h).1; omega) B10.out.size)); have hz11 : w8.heap.size ≤ w11.heap.size := Nat.le_trans hz10 hg.size; clear hm hg hf hn)
      | fail)
    clear hc6 P6 S4 N4 HUd HB1 M7 M8 M9 M10 X9 X10 B1 B2 B3 B4 B6 B7 B8 B9 B10 hz1' hz2 hz3 hz4 hz5 hz6 hz7 hz8 hz9
    have cK := M11.out.at (j := K) (by omega)
    have fK := M11.out.free K
    have uK := M11.out.sl.u8 K
    have MS := Lib.hid (M11.out.stored K y (byte_wf y0 y1))
    have SX : Hid (Sl .u8 (w11.setCell ⟨g7, K, none⟩ (.int .u8 y)) o11 (12 + (N - 20)) _) := Lib.hid (X11.out.sl.set ⟨g7, K, none⟩ (.int .u8 y) (fun x hx e => by
      subst hx
      have := (X11.out.own_ge x.block rfl).1
      have e2 : x.block = g7 := e
      omega))
    have BS := Lib.hid (B11.out.setCell (p := ⟨g7, K, none⟩) (M11.out.block.1) (.int .u8 y))
    generalize L.getD K 0 = x0 at cK uK HY
    have q0 : 8 * (K : Int) + (q : Int) ≤ 159 := by omega
    have q1 : (8 * (K : Int) + (q : Int)) / 8 = (K : Int) := by omega
    have q2 : (8 * (K : Int) + (q : Int)) % 8 = (q : Int) := by omega
    have q3 : (K : Int) < (N : Int) := by omega
    have q4 : (0 : Int) ≤ 8 * (K : Int) + (q : Int) := by omega
    go_upto_region 15 with (first
      | (go_at_call 27; refine (mod_any bit 160 _ (by omega) (by omega) hbit.1 hbit.2).mono ?_; rw [HA.out]; rintro e w' ⟨rfl, rfl⟩)
      | fail)
    rw [HY.out]
    have hle : N ≤ k7 := hk7
    generalize w11.setCell ⟨g7, K, none⟩ (.int .u8 y) = w12 at MS SX BS ⊢
    have HP := Lib.hid (Parse_form (some ⟨g7, 0, none⟩) N k7 (L.set K y) w12 MS.out.sl hle (by omega) (by omega) HF.out)
    clear cK fK q0 q1 q2 q3 q4
    go_wp2_with (first
      | (go_at_call 28; refine HP.out.mono ?_; rintro e w13 ⟨rfl, hb⟩; have S13 := Lib.hid (SX.out.keep hb); have B13 := Lib.hid (BS.out.trans (hb.mono BS.out.size)); clear hb)
      | (go_at_call 31; refine (rSum_any o11 (12 + (N - 20)) c11 _ _ (S13.out.alloc _)).mono ?_; rw [HZ.out]; rintro e w' ⟨rfl, rfl⟩)
      | fail)
    go_ret
    exact ⟨rfl, B13.out.alloc B13.out.size _⟩
  · have hd : decide (n ≤ 400) = false := decide_eq_false hn
    go_enter Try.func8, Try.ntmps8
    go_wp2_with (first
      | (go_at_call 19; refine (light_any _ _ _ _ (by omega)).mono ?_; rintro e w' ⟨rfl, rfl⟩)
      | (go_at_call 13; refine (AW.out _).mono ?_; rintro e w2 ⟨rfl, hb⟩; have B2 := Lib.hid hb; clear hb)
      | fail)
    go_ret
    exact ⟨rfl, B2.out⟩

theorem own : ownKnob Try.prog.godebug = none := by kernel_rfl
theorem laidOut : laidOutB Try.prog = true := by kernel_rfl
theorem read_ints : Try.prog.readableRec 35 = true := by kernel_rfl
theorem read_int : Try.prog.readableRec 3 = true := by kernel_rfl
theorem cells_i : Try.prog.cellsOf 3 = 1 := by kernel_rfl
theorem bytes_i : Try.prog.bytesOf 3 = 8 := by kernel_rfl
theorem lt_ints : 35 < Try.prog.types.size := of_decide_eq_true (by kernel_rfl)
theorem lt_int : 3 < Try.prog.types.size := of_decide_eq_true (by kernel_rfl)

set_option maxRecDepth 100000 in
theorem lifted (os : Os) (started : os.Started) (H : Type) (enc : TypeId × Value → H) :
    ReturnsInHanded {} Try.checked os 8 .any (Rows.packetChecksSpec.pre6 enc Try.prog Try.f8 Rows.packetChecksRow.domain false) (Rows.packetChecksSpec.post enc Try.prog Try.f8 false true false false) := by
  refine law_lifted (C := Try.checked) (rt := 4) [35, 3] own started (by kernel_rfl) Try.func8 laidOut (by rw [Try.params8])
    (fun t ht => by simp only [List.mem_cons, List.not_mem_nil, or_false] at ht; rcases ht with rfl | rfl <;> first | exact ⟨read_ints, lt_ints⟩ | exact ⟨read_int, lt_int⟩) rfl Try.underlying4 rfl
    (fun ds h => by match ds, h with | [d0, d1], _ => rfl)
    (ChangeSpec.witness6 (enc := enc) (C := Try.checked) false ⟨#[], #[.slice none 0 0, .int .i64 0], []⟩ 8 (by kernel_rfl) (by kernel_rfl) (by kernel_rfl) (by kernel_rfl)) ?_
  intro W base args ds p hval hA hsz
  obtain ⟨v0, vs0, d0, ds0, p0, q0, hargs, rfl, rfl, h0, r0⟩ := trodAll_cons hA
  obtain ⟨v1, vs1, d1, ds1, p1, q1, rfl, rfl, rfl, h1, r1⟩ := trodAll_cons r0
  obtain ⟨rfl, rfl, rfl⟩ := trodAll_nil r1
  obtain rfl : args = #[v0, v1] := by cases args; simp_all
  obtain ⟨a0, n0, c0, z0, rfl, s0, nn0⟩ := open_slr Try.underlying35 Try.underlying3 cells_i (by rw [bytes_i]; omega) (hval 0 _ v0 rfl rfl) h0 (fun el spa hd => sized_slice hsz (j := 0) rfl (by rw [hd]; rfl) Try.underlying35)
  obtain ⟨x1, rfl, b1⟩ := open_i64 Try.underlying3 (hval 1 _ v1 rfl rfl) h1
  exact walk W a0 n0 c0 z0 s0 x1 b1

/-- THE STATEMENT -/
theorem proved : Rows.PacketChecksSaid :=
  OpenClaim.holds_of_wide 8 Try.f8 rfl rfl rfl rfl rfl rfl rfl ⟨rfl, rfl, rfl, rfl, rfl⟩ rfl rfl rfl rfl rfl (by kernel_rfl) Try.func8 (by kernel_rfl)
    (of_decide_eq_true (by kernel_rfl)) (by unfold Func.isWrapper; first | (rw [if_pos (by decide +kernel)]; kernel_rfl) | (rw [if_neg (by decide +kernel)]; exact ⟨rfl, rfl⟩))
    (fun os started H enc _ => lifted os started H enc)
#print axioms proved
end Go.Proofs.Ytfeeifemfhhijaa.packetChecks
