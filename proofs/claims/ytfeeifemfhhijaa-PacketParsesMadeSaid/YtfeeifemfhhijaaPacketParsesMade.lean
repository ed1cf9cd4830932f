/-
  PacketParsesMade: the same as PacketParses for packets, some of them damaged. No condition.
-/
import Derived.Test.YtfeeifemfhhijaaPacketParses
import Derived.Test.YtfeeifemfhhijaaDiceSpoil
import Derived.Test.YtfeeifemfhhijaaDiceHeader2
import Derived.Test.YtfeeifemfhhijaaDiceBytes
namespace Go.Proofs.Ytfeeifemfhhijaa.packetParsesMade
open Go Go.RowKit Go.ChangeShapes Go.WideShapes Go.ChangeAt

theorem rParse_any2 (g off n cap : Nat) (zs : List Int) (w : World) (hs : Sl .u8 w (some ⟨g, off, none⟩) n zs) (hc : n ≤ cap) (h28 : 28 ≤ n) (h15 : n ≤ 1500) :
    Calls Try.prog 29 #[.slice (some ⟨g, off, none⟩) n cap] w (RPar w n zs) := by
  cases hp : parB zs with
  | true => exact rParse_true g off n cap zs w hs hc h28 h15 hp
  | false => exact rParse_false g off n cap zs w hs hc h28 h15 hp
theorem both (w : World) (a : Option Addr) (n c : Nat) (zs : List Int) (hs : Sl .u8 w a n zs) (hc : n ≤ c) : ∃ x N L E,
    (∀ W, Below w.heap.size w W → Calls Try.prog 28 #[.slice a n c] W (packetParses.Ret3 x N L E W)) ∧ (∀ W, Below w.heap.size w W → Calls Try.prog 29 #[.slice a n c] W (packetParses.Ret3 x N L E W)) := by
  by_cases hsz : n < 28 ∨ 1500 < n
  · refine ⟨⟨0, 0, 0, 0, 0, 0, 0, 0, 0, 0, 0, 0, 0, 0, 0⟩, 0, [], 2, fun W hb => ?_, fun W hb => ?_⟩
    · refine (Parse_size a n c W hs.reach hsz).mono ?_
      rintro e w' ⟨rfl, hb'⟩
      exact ⟨none, 0, rfl, packetParses.sl_none w', hb'⟩
    · refine (rParse_size a n c W hs.reach hsz).mono ?_
      rintro e w' ⟨rfl, hb'⟩
      exact ⟨none, 0, rfl, packetParses.sl_none w', hb'⟩
  · obtain ⟨g, off, rfl⟩ := hs.head (by omega)
    cases hp : parB zs with
    | true =>
      refine ⟨fldL zs, n - headN (fldL zs), zs.drop (headN (fldL zs)), 0, fun W hb => ?_, fun W hb => ?_⟩
      · refine (Parse_ok _ n c zs W (hs.keep hb) hc (by omega) (by omega) hp).mono ?_
        rintro e w' ⟨o, k, rfl, hm, _, hb'⟩
        exact ⟨o, k, rfl, hm.sl, hb'⟩
      · refine (rParse_any2 g off n c zs W (hs.keep hb) hc (by omega) (by omega)).mono ?_
        intro e w' hq
        unfold RPar at hq
        rw [if_pos hp] at hq
        obtain ⟨o, k, rfl, hm, _, hb'⟩ := hq
        exact ⟨o, k, rfl, hm.sl, hb'⟩
    | false =>
      refine ⟨⟨0, 0, 0, 0, 0, 0, 0, 0, 0, 0, 0, 0, 0, 0, 0⟩, 0, [], 4, fun W hb => ?_, fun W hb => ?_⟩
      · refine (Parse_form _ n c zs W (hs.keep hb) hc (by omega) (by omega) hp).mono ?_
        rintro e w' ⟨rfl, hb'⟩
        exact ⟨none, 0, rfl, packetParses.sl_none w', hb'⟩
      · refine (rParse_any2 g off n c zs W (hs.keep hb) hc (by omega) (by omega)).mono ?_
        intro e w' hq
        unfold RPar at hq
        rw [if_neg (by rw [hp]; simp)] at hq
        obtain ⟨rfl, hb'⟩ := hq
        exact ⟨none, 0, rfl, packetParses.sl_none w', hb'⟩


theorem parses_any (W : World) (a : Option Addr) (n cap : Nat) (zs : List Int) (hs : Sl .u8 W a n zs) (hc : n ≤ cap) :
    Calls Try.prog 5 #[.slice a n cap] W fun e w' => e = .returned (.bool true) ∧ Below W.heap.size W w' := by
  obtain ⟨x, N, L, E, K1, K2⟩ := both W a n cap zs hs hc
  exact packetParses.walkP W a n cap x N L E K1 K2

/-- behind the choice: the bytes -/
def R1 (w : World) (v : Value) (wx : World) : Prop := ∃ (o : Option Addr) (n c : Nat) (zs : List Int), v = .slice o n c ∧ Sl .u8 wx o n zs ∧ n ≤ c ∧ Below w.heap.size w wx

set_option maxRecDepth 100000 in
set_option maxHeartbeats 12800000 in
theorem walk (w : World) (a : Option Addr) (n cap : Nat) (t : List Int) (hs : Sl .i64 w a n t) :
    Calls Try.prog 6 #[.slice a n cap] w fun e w' => e = .returned (.bool true) ∧ Below w.heap.size w w' := by
  have hr := hs.reach
  have Hs := Lib.hid hs
  have AW := Lib.hid awake_any
  clear hs
  by_cases hn : n ≤ 400
  · have hd : decide (n ≤ 400) = true := decide_eq_true hn
    go_enter Try.func6, Try.ntmps6
    go_wp2_with (go_at_call 19; refine (light_any _ _ _ _ (by omega)).mono ?_; rintro e w' ⟨rfl, rfl⟩)
    refine (roll_in a n cap t _ Hs.out).mono ?_
    rintro e w1 ⟨rfl, hd1, hb1, hz1⟩
    have D1 := Lib.hid hd1
    have B1 := Lib.hid hb1
    have hz1' : w.heap.size < w1.heap.size := by omega
    clear hd1 hb1 hz1 hd
    go_wp2_with fail
    refine (next_in w.heap.size 4 _ D1.out (by omega) (by omega)).mono ?_
    rintro e w2 ⟨r, rfl, r0, r1, hd2, hg2⟩
    have D2 := Lib.hid hd2
    have B2 := Lib.hid (B1.out.trans (Below.of_but hg2 (Nat.le_refl _) (by omega)))
    have hz2 := Nat.lt_of_lt_of_le hz1' hg2.size
    clear hd2 hg2
    go_wp2_with fail
    refine (header_in w.heap.size r _ D2.out r0 (by omega)).mono ?_
    rintro e w3 ⟨h, rfl, hv, hkk, hd3, hg3⟩
    have D3 := Lib.hid hd3
    have B3 := Lib.hid (B2.out.trans (Below.of_but hg3 (Nat.le_refl _) (by omega)))
    have hz3 := Nat.lt_of_lt_of_le hz2 hg3.size
    have HV := Lib.hid hv
    clear hd3 hg3 hkk r0 r1 hv
    go_wp2_with fail
    refine (bytes_in w.heap.size 30 _ D3.out (by omega)).mono ?_
    rintro e w4 ⟨o4, n4, c4, ps, rfl, hn4, hm4, hno, hd4, hg4⟩
    have S4 := Lib.hid hm4.sl
    have N4 := Lib.hid hno
    have D4 := Lib.hid hd4
    have B4 := Lib.hid (B3.out.trans (Below.of_but hg4 (Nat.le_refl _) (by omega)))
    have hz4 := Nat.lt_of_lt_of_le hz3 hg4.size
    clear hm4 hno hd4 hg4 D1 D2 D3 B1 B2 B3
    have hc := headN_cases h
    have HB := Lib.hid (rBuild_ok h o4 n4 c4 ps w4 HV.out S4.out N4.out (by omega))
    have hN1 : 28 ≤ headN h + n4 := by omega
    have hN2 : headN h + n4 ≤ 70 := by omega
    generalize headN h + n4 = N at HB hN1 hN2
    generalize pktL h ps = L at HB
    go_wp2_with fail
    refine HB.out.mono ?_
    rintro e w5 ⟨g5, c5, rfl, hm5, hb5⟩
    have M5 := Lib.hid hm5
    have hk5 := hm5.le_cap
    have B5 := Lib.hid (B4.out.trans (hb5.mono B4.out.size))
    have D5 := Lib.hid (D4.out.keep hb5)
    have hz5 := Nat.lt_of_lt_of_le hz4 hb5.size
    clear hm5 hb5 HB HV S4 N4 D4 B4
    go_wp2_with fail
    refine (one_in w.heap.size 2 _ D5.out (by omega) (by omega)).mono ?_
    rintro e w6 ⟨b1, rfl, hd6, hg6⟩
    have D6 := Lib.hid hd6
    have S6 := Lib.hid ((M5.out.keepBut hg6 (by omega)).sl)
    have B6 := Lib.hid (B5.out.trans (Below.of_but hg6 (Nat.le_refl _) (by omega)))
    have hz6 := Nat.lt_of_lt_of_le hz5 hg6.size
    clear hd6 hg6 M5 D5 B5
    go_upto_if 23 with fail
    go_cut [4] (fun s4 wx => R1 w s4 wx)
    case first =>
      go_wp2_with (first
        | (go_at_call 30; refine (spoil_in w.heap.size (some ⟨g5, 0, none⟩) N c5 L _ D6.out S6.out (fun h => by cases h) (by omega) (by omega)).mono ?_; rintro e w7 ⟨o7, m7, c7, ys, rfl, hm7, _, _, hg7⟩; have M7 := Lib.hid hm7; have hk7 := hm7.le_cap; have B7 := Lib.hid (B6.out.trans (Below.of_but hg7 (Nat.le_refl _) (by omega))); clear hm7 hg7)
        | fail)
      all_goals go_meet
      all_goals first
        | exact ⟨_, _, _, _, rfl, M7.out.sl, hk7, B7.out⟩
        | exact ⟨_, _, _, _, rfl, S6.out, hk5, B6.out⟩
    case rest =>
      obtain ⟨o, m, c, zs, rfl, hs9, hc9, hb9⟩ := hcut
      have S9 := Lib.hid hs9
      have B9 := Lib.hid hb9
      clear hs9 hb9 S6 D6 B6
      go_wp2_with (first
        | (go_at_call 5; refine (parses_any _ o m c zs S9.out hc9).mono ?_; rintro e w10 ⟨rfl, hb⟩; have B10 := Lib.hid (B9.out.trans (hb.mono B9.out.size)); clear hb)
        | fail)
      go_ret
      exact ⟨rfl, B10.out⟩
  · have hd : decide (n ≤ 400) = false := decide_eq_false hn
    go_enter Try.func6, Try.ntmps6
    go_wp2_with (first
      | (go_at_call 19; refine (light_any _ _ _ _ (by omega)).mono ?_; rintro e w' ⟨rfl, rfl⟩)
      | (go_at_call 13; refine (AW.out _).mono ?_; rintro e w2 ⟨rfl, hb⟩; have B2 := Lib.hid hb; clear hb)
      | fail)
    go_ret
    exact ⟨rfl, B2.out⟩

theorem own : ownKnob Try.prog.godebug = none := by kernel_rfl
theorem laidOut : laidOutB Try.prog = true := by kernel_rfl
theorem read_ints : Try.prog.readableRec 35 = true := by kernel_rfl
theorem cells_i : Try.prog.cellsOf 3 = 1 := by kernel_rfl
theorem bytes_i : Try.prog.bytesOf 3 = 8 := by kernel_rfl
theorem lt_ints : 35 < Try.prog.types.size := of_decide_eq_true (by kernel_rfl)

set_option maxRecDepth 100000 in
theorem lifted (os : Os) (started : os.Started) (H : Type) (enc : TypeId × Value → H) :
    ReturnsInHanded {} Try.checked os 6 .any (Rows.packetParsesMadeSpec.pre6 enc Try.prog Try.f6 Rows.packetParsesMadeRow.domain false) (Rows.packetParsesMadeSpec.post enc Try.prog Try.f6 false true false false) := by
  refine law_lifted (C := Try.checked) (rt := 4) [35] own started (by kernel_rfl) Try.func6 laidOut (by rw [Try.params6])
    (fun t ht => by simp only [List.mem_cons, List.not_mem_nil, or_false] at ht; rcases ht with rfl <;> first | exact ⟨read_ints, lt_ints⟩) rfl Try.underlying4 rfl
    (fun ds h => by match ds, h with | [d0], _ => rfl)
    (ChangeSpec.witness6 (enc := enc) (C := Try.checked) false ⟨#[], #[.slice none 0 0], []⟩ 8 (by kernel_rfl) (by kernel_rfl) (by kernel_rfl) (by kernel_rfl)) ?_
  intro W base args ds p hval hA hsz
  obtain ⟨v0, vs0, d0, ds0, p0, q0, hargs, rfl, rfl, h0, r0⟩ := trodAll_cons hA
  obtain ⟨rfl, rfl, rfl⟩ := trodAll_nil r0
  obtain rfl : args = #[v0] := by cases args; simp_all
  obtain ⟨a0, n0, c0, z0, rfl, s0, nn0⟩ := open_slr Try.underlying35 Try.underlying3 cells_i (by rw [bytes_i]; omega) (hval 0 _ v0 rfl rfl) h0 (fun el spa hd => sized_slice hsz (j := 0) rfl (by rw [hd]; rfl) Try.underlying35)
  exact walk W a0 n0 c0 z0 s0

/-- THE STATEMENT -/
theorem proved : Rows.PacketParsesMadeSaid :=
  OpenClaim.holds_of_wide 6 Try.f6 rfl rfl rfl rfl rfl rfl rfl ⟨rfl, rfl, rfl, rfl, rfl⟩ rfl rfl rfl rfl rfl (by kernel_rfl) Try.func6 (by kernel_rfl)
    (of_decide_eq_true (by kernel_rfl)) (by unfold Func.isWrapper; first | (rw [if_pos (by decide +kernel)]; kernel_rfl) | (rw [if_neg (by decide +kernel)]; exact ⟨rfl, rfl⟩))
    (fun os started H enc _ => lifted os started H enc)
#print axioms proved
end Go.Proofs.Ytfeeifemfhhijaa.packetParsesMade
