/-
  PacketReturns: packets that Build returned are parsed as they were built, and built as they were parsed. No condition.
-/
import Derived.Test.YtfeeifemfhhijaaPkAwake
import Derived.Test.YtfeeifemfhhijaaPkBack
import Derived.Test.YtfeeifemfhhijaaDiceHeader2
import Derived.Test.YtfeeifemfhhijaaDiceBytes
import Derived.Test.YtfeeifemfhhijaaLift
import Derived.Test.YtfeeifemfhhijaaRows
import Derived.Laws.StructEq
namespace Go.Proofs.Ytfeeifemfhhijaa.packetReturns
open Go Go.RowKit Go.ChangeShapes Go.WideShapes Go.ChangeAt

/-- what Parse makes of a packet, and Build of that -/
theorem round_trip (h : Hd) (v : h.Valid) (ps : List Int) (hb : ∀ z ∈ ps, 0 ≤ z ∧ z ≤ 255) (hs : headN h + ps.length ≤ 1500) : ∃ (x : Hd) (M : Nat) (D : List Int),
    (∀ W g c, Sl .u8 W (some ⟨g, 0, none⟩) (headN h + ps.length) (pktL h ps) → headN h + ps.length ≤ c → Calls Try.prog 28 #[.slice (some ⟨g, 0, none⟩) (headN h + ps.length) c] W fun e w' => ∃ o k, e = .returned (.tuple #[(.agg #[.int .i64 x.kind, .int .i64 x.tos, .int .i64 x.id, .int .i64 x.fixed, .int .i64 x.ttl, .int .i64 x.frm, .int .i64 x.to, .int .i64 x.fromPort, .int .i64 x.toPort, .int .i64 x.check, .int .i64 x.marker, .int .i64 x.type, .int .i64 x.seq, .int .i64 x.time, .int .i64 x.source]), .slice o M k, .int .i64 0]) ∧ Sl .u8 w' o M D ∧ (o = none → k = 0) ∧ Below W.heap.size W w') ∧
    (∀ W o k, Sl .u8 W o M D → (o = none → k = 0) → Calls Try.prog 9 #[(.agg #[.int .i64 x.kind, .int .i64 x.tos, .int .i64 x.id, .int .i64 x.fixed, .int .i64 x.ttl, .int .i64 x.frm, .int .i64 x.to, .int .i64 x.fromPort, .int .i64 x.toPort, .int .i64 x.check, .int .i64 x.marker, .int .i64 x.type, .int .i64 x.seq, .int .i64 x.time, .int .i64 x.source]), .slice o M k] W fun e w' => ∃ g c, e = .returned (.tuple #[.slice (some ⟨g, 0, none⟩) (headN h + ps.length) c, .int .i64 0]) ∧ Sl .u8 w' (some ⟨g, 0, none⟩) (headN h + ps.length) (pktL h ps) ∧ Below W.heap.size W w') ∧
    (h.kind = 1 ∧ 12 ≤ ps.length ∧ ps.getD 0 0 = 128 ∨ x = h ∧ M = ps.length ∧ D = ps) := by
  have hc := headN_cases h
  have hlen := pktL_len h ps
  obtain ⟨hp, hcase⟩ := back_all h v ps hb
  have hH := fldL_head (pktL h ps) (by rw [hlen]; omega)
  rw [hlen] at hH
  refine ⟨fldL (pktL h ps), headN h + ps.length - headN (fldL (pktL h ps)), (pktL h ps).drop (headN (fldL (pktL h ps))), fun W g c h1 h2 => ?_, fun W o k h1 h2 => ?_, ?_⟩
  · refine (Parse_ok _ _ c _ W h1 h2 (by omega) hs hp).mono ?_
    rintro e w' ⟨o, k, rfl, hm, hn, hb'⟩
    exact ⟨o, k, rfl, hm.sl, hn, hb'⟩
  · have hby : Bytes (pktL h ps) := by
      intro i
      have e : pktL (fldL (pktL h ps)) ((pktL h ps).drop (headN (fldL (pktL h ps)))) = pktL h ps := of_decide_eq_true hp
      by_cases hi : i < (pktL h ps).length
      · exact pkt_bytes h v ps hb hs i
      · rw [getD_nil_after _ _ (by omega)]; omega
    have q := Build_ok (fldL (pktL h ps)) o (headN h + ps.length - headN (fldL (pktL h ps))) k ((pktL h ps).drop (headN (fldL (pktL h ps)))) W (fldL_valid _ hby) h1 h2 (by omega)
    rw [show headN (fldL (pktL h ps)) + (headN h + ps.length - headN (fldL (pktL h ps))) = headN h + ps.length by omega, of_decide_eq_true hp] at q
    refine q.mono ?_
    rintro e w' ⟨g, c, rfl, hm, hb'⟩
    exact ⟨g, c, rfl, hm.sl, hb'⟩
  · rcases hcase with h1 | ⟨h1, h2⟩
    · exact .inl h1
    · exact .inr ⟨h1, by omega, by rw [h2, pkt_drop]⟩


theorem same_true (o1 o2 : Option Addr) (N k1 k2 : Nat) (L : List Int) (W : World) (h1 : Sl .u8 W o1 N L) (h2 : Sl .u8 W o2 N L) :
    Calls Try.prog 16 #[.slice o1 N k1, .slice o2 N k2] W fun e w' => e = .returned (.bool true) ∧ W = w' := by
  have h := same_any o1 o2 N k1 N k2 L L W h1 h2
  rw [decide_eq_true rfl] at h
  exact h

/-- a header is equal to itself -/
theorem eql_self (h : Hd) (W : World) : Sem.run Try.prog (binOp .eql 23 (.agg #[.int .i64 h.kind, .int .i64 h.tos, .int .i64 h.id, .int .i64 h.fixed, .int .i64 h.ttl, .int .i64 h.frm, .int .i64 h.to, .int .i64 h.fromPort, .int .i64 h.toPort, .int .i64 h.check, .int .i64 h.marker, .int .i64 h.type, .int .i64 h.seq, .int .i64 h.time, .int .i64 h.source]) (.agg #[.int .i64 h.kind, .int .i64 h.tos, .int .i64 h.id, .int .i64 h.fixed, .int .i64 h.ttl, .int .i64 h.frm, .int .i64 h.to, .int .i64 h.fromPort, .int .i64 h.toPort, .int .i64 h.check, .int .i64 h.marker, .int .i64 h.type, .int .i64 h.seq, .int .i64 h.time, .int .i64 h.source])) W = .ok (.bool true) W := by
  have u3 := Try.underlying3
  have a3 := Try.isAgg3
  have z3 := Try.sizeOf3
  have hS : Try.prog.underlying 23 = some (.struct (Try.prog.fieldsOf 23)) := by kernel_rfl
  have hp : Try.prog.stoodInHeld 23 = false := by kernel_rfl
  rw [run_eql_struct, show (10000 : Nat) = 9999 + 1 from rfl, run_equalIn_agg W 9999 23 _ _ hS hp]
  simp only [Program.fieldsOf, Try.underlying23]
  go_simp

set_option maxRecDepth 100000 in
set_option maxHeartbeats 12800000 in
theorem walk (w : World) (a : Option Addr) (n cap : Nat) (t : List Int) (hs : Sl .i64 w a n t) :
    Calls Try.prog 7 #[.slice a n cap] w fun e w' => e = .returned (.bool true) ∧ Below w.heap.size w w' := by
  have hr := hs.reach
  have Hs := Lib.hid hs
  have AW := Lib.hid awake_any
  clear hs
  by_cases hn : n ≤ 400
  · have hd : decide (n ≤ 400) = true := decide_eq_true hn
    go_enter Try.func7, Try.ntmps7
    go_wp2_with (go_at_call 19; refine (light_any _ _ _ _ (by omega)).mono ?_; rintro e w' ⟨rfl, rfl⟩)
    refine (roll_in a n cap t _ Hs.out).mono ?_
    rintro e w1 ⟨rfl, hd1, hb1, hz1⟩
    have D1 := Lib.hid hd1
    have B1 := Lib.hid hb1
    have hz1' : w.heap.size < w1.heap.size := by omega
    clear hd1 hb1 hz1 hd
    go_wp2_with fail
    refine (next_in w.heap.size 4 _ D1.out (by omega) (by omega)).mono ?_
    rintro e w2 ⟨r, rfl, r0, r1, hd2, hg2⟩
    have D2 := Lib.hid hd2
    have B2 := Lib.hid (B1.out.trans (Below.of_but hg2 (Nat.le_refl _) (by omega)))
    have hz2 := Nat.lt_of_lt_of_le hz1' hg2.size
    clear hd2 hg2
    go_wp2_with fail
    refine (header_in w.heap.size r _ D2.out r0 (by omega)).mono ?_
    rintro e w3 ⟨h, rfl, hv, hkk, hd3, hg3⟩
    have D3 := Lib.hid hd3
    have B3 := Lib.hid (B2.out.trans (Below.of_but hg3 (Nat.le_refl _) (by omega)))
    have hz3 := Nat.lt_of_lt_of_le hz2 hg3.size
    have HV := Lib.hid hv
    clear hd3 hg3 hkk hv
    go_wp2_with fail
    refine (bytes_in w.heap.size 30 _ D3.out (by omega)).mono ?_
    rintro e w4 ⟨o4, n4, c4, ps, rfl, hn4, hm4, hno, hd4, hg4⟩
    have S4 := Lib.hid hm4.sl
    have N4 := Lib.hid hno
    have B4 := Lib.hid (B3.out.trans (Below.of_but hg4 (Nat.le_refl _) (by omega)))
    have hz4 := Nat.lt_of_lt_of_le hz3 hg4.size
    have hl4 := hm4.sl.len
    have hc := headN_cases h
    have hps := hm4.sl.all255
    have hlc := hm4.le_cap
    obtain ⟨x, M, D, hP, hB, hcase⟩ := round_trip h HV.out ps hps (by omega)
    have HB1 := Lib.hid (fun W o k (q : Sl .u8 W o n4 ps) (q2 : o = none → k = 0) => Build_ok h o n4 k ps W HV.out q q2 (by omega))
    have HEs := Lib.hid (fun W => eql_self h W)
    rw [hl4] at hP hB hcase
    have HP := Lib.hid hP
    have HB := Lib.hid hB
    have HC := Lib.hid hcase
    generalize headN h + n4 = N at HP HB HB1
    generalize pktL h ps = L at HP HB HB1
    clear hm4 hno hd4 hg4 hP hB hcase hps hl4 hc HV D1 D2 D3
    go_upto_region 10 with (first
      | (go_at_call 9; ((with_reducible refine (HB1.out _ _ _ (S4.out.alloc _) N4.out).mono ?_); rintro e w5 ⟨g5, k5, rfl, hm, hb⟩; have S5 := Lib.hid hm.sl; have hk5 := hm.le_cap; have hb5 : Below (w4.heap.size + 1) (w4.alloc (.cells #[.int .i64 h.kind, .int .i64 h.tos, .int .i64 h.id, .int .i64 h.fixed, .int .i64 h.ttl, .int .i64 h.frm, .int .i64 h.to, .int .i64 h.fromPort, .int .i64 h.toPort, .int .i64 h.check, .int .i64 h.marker, .int .i64 h.type, .int .i64 h.seq, .int .i64 h.time, .int .i64 h.source] 23)) w5 := hb.mono (by simp); have Z5 := Lib.hid (hbox_blk h w4 w5 hb5); have P5 := Lib.hid ((S4.out.alloc _).keep hb); have B5 := Lib.hid ((B4.out.alloc B4.out.size _).trans (hb5.mono (by omega))); have hz5 : w4.heap.size < w5.heap.size := Nat.lt_of_lt_of_le (by simp) hb5.size; clear hm hb hb5))
      | (go_at_call 28; refine (HP.out _ _ _ S5.out hk5).mono ?_; rintro e w6 ⟨o6, k6, rfl, hm, hno, hb⟩; have S6 := Lib.hid hm; have N6 := Lib.hid hno; have Z6 := Lib.hid ((hb.block w4.heap.size hz5).trans Z5.out); have P6 := Lib.hid (P5.out.keep hb); have L6 := Lib.hid (S5.out.keep hb); have B6 := Lib.hid (B5.out.trans (hb.mono B5.out.size)); have hz6 : w4.heap.size < w6.heap.size := Nat.lt_of_lt_of_le hz5 hb.size; clear hm hno hb)
      | (go_at_call 9; refine (HB.out _ _ _ (S6.out.alloc _) N6.out).mono ?_; rintro e w7 ⟨g7, k7, rfl, hm, hb⟩; have S7 := Lib.hid hm; have hb7 : Below (w6.heap.size + 1) (w6.alloc (.cells #[.int .i64 x.kind, .int .i64 x.tos, .int .i64 x.id, .int .i64 x.fixed, .int .i64 x.ttl, .int .i64 x.frm, .int .i64 x.to, .int .i64 x.fromPort, .int .i64 x.toPort, .int .i64 x.check, .int .i64 x.marker, .int .i64 x.type, .int .i64 x.seq, .int .i64 x.time, .int .i64 x.source] 23)) w7 := hb.mono (by simp); have X7 := Lib.hid (hbox_blk x w6 w7 hb7); have Z7 := Lib.hid ((hb7.block w4.heap.size (by omega)).trans ((heap_alloc_old w6 _ hz6).trans Z6.out)); have P7 := Lib.hid ((P6.out.alloc _).keep hb); have L7 := Lib.hid ((L6.out.alloc _).keep hb); have Q7 := Lib.hid ((S6.out.alloc _).keep hb); have B7 := Lib.hid ((B6.out.alloc B6.out.size _).trans (hb7.mono (by omega))); have hz7 : w6.heap.size < w7.heap.size := Nat.lt_of_lt_of_le (by simp) hb7.size; clear hm hb hb7)
      | (go_at_call 13; refine (AW.out _).mono ?_; rintro e w8 ⟨rfl, hb⟩; have X8 := Lib.hid ((hb.block w6.heap.size hz7).trans X7.out); have Z8 := Lib.hid ((hb.block w4.heap.size (by omega)).trans Z7.out); have P8 := Lib.hid (P7.out.keep hb); have L8 := Lib.hid (L7.out.keep hb); have Q8 := Lib.hid (Q7.out.keep hb); have S8 := Lib.hid (S7.out.keep hb); have B8 := Lib.hid (B7.out.trans (hb.mono B7.out.size)); clear hb)
      | (go_at_call 16; refine (same_true (some ⟨g5, 0, none⟩) (some ⟨g7, 0, none⟩) N k5 k7 L _ L8.out S8.out).mono ?_; rintro e w' ⟨rfl, rfl⟩)
      | fail)
    clear S5 Z5 P5 B5 S6 N6 Z6 P6 L6 B6 S7 X7 Z7 P7 L7 Q7 B7 HB1 HP HB S4 N4 B1 B2 B3 B4 AW L8 S8
    have hcz := cells_of Z8.out
    have hcx := cells_of X8.out
    by_cases hA : h.kind = 1 ∧ 12 ≤ n4 ∧ ps.getD 0 0 = 128
    · as_aux_lemma =>
        obtain ⟨h1, h2, h3⟩ := hA
        have K1 : (h.kind == 1) = true := by rw [h1]; rfl
        have K2 : (12 : Int) ≤ (n4 : Int) := by omega
        obtain ⟨pb, po, rfl⟩ := P8.out.head (by omega)
        have c0 := P8.out.at (i := 0) (by omega)
        rw [h3, Nat.add_zero] at c0
        have K3 : (0 : Int) < (n4 : Int) := by omega
        clear h1 h3 HC HEs
        go_wp2
        go_ret
        exact ⟨rfl, B8.out⟩
    · obtain ⟨hx, hM, hD⟩ := HC.out.resolve_left hA
      subst x M D
      by_cases h1 : h.kind = 1
      · have K1 : (h.kind == 1) = true := by rw [h1]; rfl
        by_cases h2 : 12 ≤ n4
        · as_aux_lemma =>
            have K2 : (12 : Int) ≤ (n4 : Int) := by omega
            obtain ⟨pb, po, rfl⟩ := P8.out.head (by omega)
            have c0 := P8.out.at (i := 0) (by omega)
            have h3 : (ps.getD 0 0 == 128) = false := by
              rw [Bool.eq_false_iff]
              intro q
              exact hA ⟨h1, h2, by simpa using q⟩
            rw [Nat.add_zero] at c0
            generalize ps.getD 0 0 = p0 at c0 h3 hA
            have K3 : (0 : Int) < (n4 : Int) := by omega
            have hE := HEs.out
            clear h1 hA HC
            go_wp2_with (first
              | (go_at_call 16; refine (same_true (some ⟨pb, po, none⟩) o6 n4 c4 k6 ps _ P8.out Q8.out).mono ?_; rintro e w' ⟨rfl, rfl⟩)
              | fail)
            go_ret
            exact ⟨rfl, B8.out⟩
        · as_aux_lemma =>
            have K2 : ¬ (12 : Int) ≤ (n4 : Int) := by omega
            have hE := HEs.out
            clear h1 hA HC
            go_wp2_with (first
              | (go_at_call 16; refine (same_true o4 o6 n4 c4 k6 ps _ P8.out Q8.out).mono ?_; rintro e w' ⟨rfl, rfl⟩)
              | fail)
            go_ret
            exact ⟨rfl, B8.out⟩
      · as_aux_lemma =>
          have K1 : (h.kind == 1) = false := by simpa using h1
          have hE := HEs.out
          clear h1 hA HC
          go_wp2_with (first
            | (go_at_call 16; refine (same_true o4 o6 n4 c4 k6 ps _ P8.out Q8.out).mono ?_; rintro e w' ⟨rfl, rfl⟩)
            | fail)
          go_ret
          exact ⟨rfl, B8.out⟩
  · have hd : decide (n ≤ 400) = false := decide_eq_false hn
    go_enter Try.func7, Try.ntmps7
    go_wp2_with (first
      | (go_at_call 19; refine (light_any _ _ _ _ (by omega)).mono ?_; rintro e w' ⟨rfl, rfl⟩)
      | (go_at_call 13; refine (AW.out _).mono ?_; rintro e w2 ⟨rfl, hb⟩; have B2 := Lib.hid hb; clear hb)
      | fail)
    go_ret
    exact ⟨rfl, B2.out⟩

theorem own : ownKnob Try.prog.godebug = none := by kernel_rfl
theorem laidOut : laidOutB Try.prog = true := by kernel_rfl
theorem read_ints : Try.prog.readableRec 35 = true := by kernel_rfl
theorem cells_i : Try.prog.cellsOf 3 = 1 := by kernel_rfl
theorem bytes_i : Try.prog.bytesOf 3 = 8 := by kernel_rfl
theorem lt_ints : 35 < Try.prog.types.size := of_decide_eq_true (by kernel_rfl)

set_option maxRecDepth 100000 in
theorem lifted (os : Os) (started : os.Started) (H : Type) (enc : TypeId × Value → H) :
    ReturnsInHanded {} Try.checked os 7 .any (Rows.packetReturnsSpec.pre6 enc Try.prog Try.f7 Rows.packetReturnsRow.domain false) (Rows.packetReturnsSpec.post enc Try.prog Try.f7 false true false false) := by
  refine law_lifted (C := Try.checked) (rt := 4) [35] own started (by kernel_rfl) Try.func7 laidOut (by rw [Try.params7])
    (fun t ht => by simp only [List.mem_cons, List.not_mem_nil, or_false] at ht; rcases ht with rfl <;> first | exact ⟨read_ints, lt_ints⟩) rfl Try.underlying4 rfl
    (fun ds h => by match ds, h with | [d0], _ => rfl)
    (ChangeSpec.witness6 (enc := enc) (C := Try.checked) false ⟨#[], #[.slice none 0 0], []⟩ 8 (by kernel_rfl) (by kernel_rfl) (by kernel_rfl) (by kernel_rfl)) ?_
  intro W base args ds p hval hA hsz
  obtain ⟨v0, vs0, d0, ds0, p0, q0, hargs, rfl, rfl, h0, r0⟩ := trodAll_cons hA
  obtain ⟨rfl, rfl, rfl⟩ := trodAll_nil r0
  obtain rfl : args = #[v0] := by cases args; simp_all
  obtain ⟨a0, n0, c0, z0, rfl, s0, nn0⟩ := open_slr Try.underlying35 Try.underlying3 cells_i (by rw [bytes_i]; omega) (hval 0 _ v0 rfl rfl) h0 (fun el spa hd => sized_slice hsz (j := 0) rfl (by rw [hd]; rfl) Try.underlying35)
  exact walk W a0 n0 c0 z0 s0

/-- THE STATEMENT -/
theorem proved : Rows.PacketReturnsSaid :=
  OpenClaim.holds_of_wide 7 Try.f7 rfl rfl rfl rfl rfl rfl rfl ⟨rfl, rfl, rfl, rfl, rfl⟩ rfl rfl rfl rfl rfl (by kernel_rfl) Try.func7 (by kernel_rfl)
    (of_decide_eq_true (by kernel_rfl)) (by unfold Func.isWrapper; first | (rw [if_pos (by decide +kernel)]; kernel_rfl) | (rw [if_neg (by decide +kernel)]; exact ⟨rfl, rfl⟩))
    (fun os started H enc _ => lifted os started H enc)
#print axioms proved
end Go.Proofs.Ytfeeifemfhhijaa.packetReturns
