/-
  PacketBuildsMade: the same as PacketBuilds for made headers, odd ones, and payloads up to the greatest. No condition.
-/
import Derived.Test.YtfeeifemfhhijaaPacketBuilds
import Derived.Test.YtfeeifemfhhijaaDiceOdd
import Derived.Test.YtfeeifemfhhijaaDiceHeader2
import Derived.Test.YtfeeifemfhhijaaDiceBytes
import Derived.Test.YtfeeifemfhhijaaMod
import Derived.Deep.DeepCutAuto
namespace Go.Proofs.Ytfeeifemfhhijaa.packetBuildsMade
open Go Go.RowKit Go.ChangeShapes Go.WideShapes Go.ChangeAt

theorem builds_any (W : World) (h : Hd) (f : h.Fits) (a : Option Addr) (n cap : Nat) (zs : List Int) (hs : Sl .u8 W a n zs) (hn : a = none → cap = 0) (hr : n ≤ 2000) :
    Calls Try.prog 3 #[(.agg #[.int .i64 h.kind, .int .i64 h.tos, .int .i64 h.id, .int .i64 h.fixed, .int .i64 h.ttl, .int .i64 h.frm, .int .i64 h.to, .int .i64 h.fromPort, .int .i64 h.toPort, .int .i64 h.check, .int .i64 h.marker, .int .i64 h.type, .int .i64 h.seq, .int .i64 h.time, .int .i64 h.source]), .slice a n cap] W fun e w' => e = .returned (.bool true) ∧ Below W.heap.size W w' := by
  obtain ⟨N, HN, L, HL, E, V, UE, vb, K⟩ := packetBuilds.both W h f a n cap zs hs hn (by omega)
  exact packetBuilds.walkB W h a n cap N HN L HL E V UE vb K
theorem filled_lit (M : Nat) (Mi s : Int) (w : World) (hM : M ≤ 1048576) (hMi : Mi = M) :
    Calls Try.prog 26 #[.int .i64 Mi, .int .i64 s] w fun e w' => ∃ (o : Option Addr) (cp : Nat) (zs : List Int), e = .returned (.slice o M cp) ∧ Mk .u8 5 w.heap.size w' (.slice o M cp) M zs ∧ (o = none → cp = 0) ∧ w.grownBy w' none := by
  subst hMi
  exact filled_any M s w hM

/-- behind the first choice: the header lies in block b, the dice in the block of w -/
def R1 (w : World) (b : Nat) (wx : World) : Prop := ∃ x : Hd, x.Fits ∧ wx.heap[b]? = some (.cells #[.int .i64 x.kind, .int .i64 x.tos, .int .i64 x.id, .int .i64 x.fixed, .int .i64 x.ttl, .int .i64 x.frm, .int .i64 x.to, .int .i64 x.fromPort, .int .i64 x.toPort, .int .i64 x.check, .int .i64 x.marker, .int .i64 x.type, .int .i64 x.seq, .int .i64 x.time, .int .i64 x.source] 23 (0, 0)) ∧ DiceIn wx w.heap.size ∧ Below w.heap.size w wx ∧ w.heap.size < b
/-- behind the second one: and the payload -/
def R2 (w : World) (b : Nat) (v : Value) (wx : World) : Prop := ∃ (x : Hd) (o : Option Addr) (n c : Nat) (zs : List Int), x.Fits ∧ wx.heap[b]? = some (.cells #[.int .i64 x.kind, .int .i64 x.tos, .int .i64 x.id, .int .i64 x.fixed, .int .i64 x.ttl, .int .i64 x.frm, .int .i64 x.to, .int .i64 x.fromPort, .int .i64 x.toPort, .int .i64 x.check, .int .i64 x.marker, .int .i64 x.type, .int .i64 x.seq, .int .i64 x.time, .int .i64 x.source] 23 (0, 0)) ∧ Below w.heap.size w wx ∧ v = .slice o n c ∧ Sl .u8 wx o n zs ∧ (o = none → c = 0) ∧ n ≤ 2000

set_option maxRecDepth 100000 in
set_option maxHeartbeats 12800000 in
theorem walk (w : World) (a : Option Addr) (n cap : Nat) (t : List Int) (hs : Sl .i64 w a n t) (size : Int) (hsize : -9223372036854775808 ≤ size ∧ size ≤ 9223372036854775807) :
    Calls Try.prog 4 #[.slice a n cap, .int .i64 size] w fun e w' => e = .returned (.bool true) ∧ Below w.heap.size w w' := by
  have hr := hs.reach
  have Hs := Lib.hid hs
  have AW := Lib.hid awake_any
  clear hs
  by_cases hn : n ≤ 400
  · have hd : decide (n ≤ 400) = true := decide_eq_true hn
    go_enter Try.func4, Try.ntmps4
    go_wp2_with (go_at_call 19; refine (light_any _ _ _ _ (by omega)).mono ?_; rintro e w' ⟨rfl, rfl⟩)
    refine (roll_in a n cap t _ Hs.out).mono ?_
    rintro e w1 ⟨rfl, hd1, hb1, hz1⟩
    have D1 := Lib.hid hd1
    have B1 := Lib.hid hb1
    have hz1' : w.heap.size < w1.heap.size := by omega
    clear hd1 hb1 hz1 hd
    go_wp2_with fail
    refine (next_in w.heap.size 4 _ D1.out (by omega) (by omega)).mono ?_
    rintro e w2 ⟨r, rfl, r0, r1, hd2, hg2⟩
    have D2 := Lib.hid hd2
    have B2 := Lib.hid (B1.out.trans (Below.of_but hg2 (Nat.le_refl _) (by omega)))
    have hz2 := Nat.lt_of_lt_of_le hz1' hg2.size
    clear hd2 hg2
    go_wp2_with fail
    refine (header_in w.heap.size r _ D2.out r0 (by omega)).mono ?_
    rintro e w3 ⟨h, rfl, hv, hkk, hd3, hg3⟩
    have D3 := Lib.hid hd3
    have B3 := Lib.hid (B2.out.trans (Below.of_but hg3 (Nat.le_refl _) (by omega)))
    have hz3 := Nat.lt_of_lt_of_le hz2 hg3.size
    have HV := Lib.hid hv.fits
    clear hd3 hg3 hkk r0 r1 hv
    go_wp2_with fail
    refine (one_in w.heap.size 3 _ (D3.out.alloc _) (by omega) (by omega)).mono ?_
    rintro e w4 ⟨b1, rfl, hd4, hg4⟩
    have K4 := Lib.hid ((hg4.block w3.heap.size (by simp) (by simp; omega)).trans (heap_alloc_new w3 (.cells #[.int .i64 h.kind, .int .i64 h.tos, .int .i64 h.id, .int .i64 h.fixed, .int .i64 h.ttl, .int .i64 h.frm, .int .i64 h.to, .int .i64 h.fromPort, .int .i64 h.toPort, .int .i64 h.check, .int .i64 h.marker, .int .i64 h.type, .int .i64 h.seq, .int .i64 h.time, .int .i64 h.source] 23)))
    have D4 := Lib.hid hd4
    have B4 := Lib.hid ((B3.out.alloc B3.out.size _).trans (Below.of_but hg4 (Nat.le_refl _) (by simp; omega)))
    have hz4 : w3.heap.size < w4.heap.size := lt_of_block K4.out
    clear hd4 hg4 B1 B2 B3 D1 D2 D3
    have hc4 := cells_of K4.out
    have hf4 := frozen_of K4.out
    go_upto_if 19 with fail
    go_cut [] (fun wx => R1 w w3.heap.size wx)
    case first =>
      go_wp2_with (first
        | (go_at_call 24; refine (odd_in w.heap.size h _ D4.out HV.out).mono ?_; rintro e w5 ⟨x, rfl, hx, hd5, hg5⟩; have K5 := Lib.hid ((hg5.block w3.heap.size hz4 (by simp; omega)).trans K4.out); have D5 := Lib.hid hd5; have B5 := Lib.hid (B4.out.trans (Below.of_but hg5 (Nat.le_refl _) (by omega))); have HX := Lib.hid hx; clear hc4 hf4; have hc5 := cells_of K5.out; have hf5 := frozen_of K5.out; clear hd5 hg5 hx)
        | fail)
      all_goals go_meet
      all_goals first
        | exact at_put (Q := fun wx => R1 w w3.heap.size wx) x h w5 w3.heap.size K5.out (fun w6 K6 G6 => ⟨x, HX.out, K6, D5.out.keepRow G6 (fun q hq => by cases hq; omega), B5.out.trans (Below.of_row G6 (fun q hq => by cases hq; omega) B5.out.size), by omega⟩)
        | exact ⟨h, HV.out, K4.out, D4.out, B4.out, by omega⟩
    case rest =>
      obtain ⟨x, hx, KX, DX, BX, hbx⟩ := hcut
      have HX := Lib.hid hx
      have K5 := Lib.hid KX
      have D5 := Lib.hid DX
      have B5 := Lib.hid BX
      have hz5 := lt_of_block KX
      clear hx KX DX BX hc4 hf4 K4 D4 B4 HV hz4
      go_wp2_with fail
      refine (bytes_in w.heap.size 40 _ D5.out (by omega)).mono ?_
      rintro e w6 ⟨o6, n6, c6, ps, rfl, hn6, hm6, hno, hd6, hg6⟩
      have S6 := Lib.hid hm6.sl
      have N6 := Lib.hid hno
      have K6 := Lib.hid ((hg6.block w3.heap.size hz5 (by simp; omega)).trans K5.out)
      have D6 := Lib.hid hd6
      have B6 := Lib.hid (B5.out.trans (Below.of_but hg6 (Nat.le_refl _) (by omega)))
      have M6 := Lib.hid hm6
      clear hm6 hno hd6 hg6 S6
      go_wp2_with fail
      refine (one_in w.heap.size 4 _ D6.out (by omega) (by omega)).mono ?_
      rintro e w7 ⟨b2, rfl, hd7, hg7⟩
      have K7 := Lib.hid ((hg7.block w3.heap.size (lt_of_block K6.out) (by simp; omega)).trans K6.out)
      have B7 := Lib.hid (B6.out.trans (Below.of_but hg7 (Nat.le_refl _) (by have := D6.out.lt; omega)))
      have S7 := Lib.hid (M6.out.keepBut hg7 (by omega)).sl
      have hz7 := B7.out.size
      clear hd7 hg7 K6 D6 B6 M6 K5 D5 B5
      obtain ⟨m, HM, hm⟩ : ∃ m : Nat, Hid (size % 24 = (m : Int)) ∧ m ≤ 23 := ⟨(size % 24).toNat, Lib.hid (by omega), by omega⟩
      go_upto_if 26 with fail
      go_cut [7] (fun s7 wx => R2 w w3.heap.size s7 wx)
      case first =>
        go_wp2_with (first
          | (go_at_call 27; refine (mod_any size 24 _ (by omega) (by omega) hsize.1 hsize.2).mono ?_; rw [HM.out]; rintro e w' ⟨rfl, rfl⟩)
          | (go_at_call 26; refine (filled_lit (1455 + m) _ size _ (by omega) (by omega)).mono ?_; rintro e w8 ⟨o8, c8, zs8, rfl, hm8, hno, hg⟩; have M8 := Lib.hid hm8; have N8 := Lib.hid hno; have K8 := Lib.hid ((hg.block w3.heap.size (lt_of_block K7.out) (by simp)).trans K7.out); have B8 := Lib.hid (B7.out.trans (Below.of_row hg (fun q hq => by cases hq) hz7)); clear hm8 hno hg)
          | fail)
        all_goals go_meet
        all_goals first
          | exact ⟨x, _, _, _, _, HX.out, K8.out, B8.out, rfl, M8.out.sl, N8.out, by omega⟩
          | exact ⟨x, _, _, _, _, HX.out, K7.out, B7.out, rfl, S7.out, N6.out, by omega⟩
      case rest =>
        obtain ⟨x, o, n9, c9, zs, hx, KX, BX, rfl, hs9, hno9, hn9⟩ := hcut
        have S9 := Lib.hid hs9
        have N9 := Lib.hid hno9
        have HX9 := Lib.hid hx
        have B9 := Lib.hid BX
        have hc9 := cells_of KX
        clear hx KX BX hs9 hno9 HX S7 N6 K7 B7 HM
        go_wp2_with (first
          | (go_at_call 3; refine (builds_any _ x HX9.out o n9 c9 zs S9.out N9.out hn9).mono ?_; rintro e w10 ⟨rfl, hb⟩; have B10 := Lib.hid (B9.out.trans (hb.mono B9.out.size)); clear hb)
          | fail)
        go_ret
        exact ⟨rfl, B10.out⟩
  · have hd : decide (n ≤ 400) = false := decide_eq_false hn
    go_enter Try.func4, Try.ntmps4
    go_wp2_with (first
      | (go_at_call 19; refine (light_any _ _ _ _ (by omega)).mono ?_; rintro e w' ⟨rfl, rfl⟩)
      | (go_at_call 13; refine (AW.out _).mono ?_; rintro e w2 ⟨rfl, hb⟩; have B2 := Lib.hid hb; clear hb)
      | fail)
    go_ret
    exact ⟨rfl, B2.out⟩

theorem own : ownKnob Try.prog.godebug = none := by kernel_rfl
theorem laidOut : laidOutB Try.prog = true := by kernel_rfl
theorem read_ints : Try.prog.readableRec 35 = true := by kernel_rfl
theorem read_int : Try.prog.readableRec 3 = true := by kernel_rfl
theorem cells_i : Try.prog.cellsOf 3 = 1 := by kernel_rfl
theorem bytes_i : Try.prog.bytesOf 3 = 8 := by kernel_rfl
theorem lt_ints : 35 < Try.prog.types.size := of_decide_eq_true (by kernel_rfl)
theorem lt_int : 3 < Try.prog.types.size := of_decide_eq_true (by kernel_rfl)

set_option maxRecDepth 100000 in
theorem lifted (os : Os) (started : os.Started) (H : Type) (enc : TypeId × Value → H) :
    ReturnsInHanded {} Try.checked os 4 .any (Rows.packetBuildsMadeSpec.pre6 enc Try.prog Try.f4 Rows.packetBuildsMadeRow.domain false) (Rows.packetBuildsMadeSpec.post enc Try.prog Try.f4 false true false false) := by
  refine law_lifted (C := Try.checked) (rt := 4) [35, 3] own started (by kernel_rfl) Try.func4 laidOut (by rw [Try.params4])
    (fun t ht => by simp only [List.mem_cons, List.not_mem_nil, or_false] at ht; rcases ht with rfl | rfl <;> first | exact ⟨read_ints, lt_ints⟩ | exact ⟨read_int, lt_int⟩) rfl Try.underlying4 rfl
    (fun ds h => by match ds, h with | [d0, d1], _ => rfl)
    (ChangeSpec.witness6 (enc := enc) (C := Try.checked) false ⟨#[], #[.slice none 0 0, .int .i64 0], []⟩ 8 (by kernel_rfl) (by kernel_rfl) (by kernel_rfl) (by kernel_rfl)) ?_
  intro W base args ds p hval hA hsz
  obtain ⟨v0, vs0, d0, ds0, p0, q0, hargs, rfl, rfl, h0, r0⟩ := trodAll_cons hA
  obtain ⟨v1, vs1, d1, ds1, p1, q1, rfl, rfl, rfl, h1, r1⟩ := trodAll_cons r0
  obtain ⟨rfl, rfl, rfl⟩ := trodAll_nil r1
  obtain rfl : args = #[v0, v1] := by cases args; simp_all
  obtain ⟨a0, n0, c0, z0, rfl, s0, nn0⟩ := open_slr Try.underlying35 Try.underlying3 cells_i (by rw [bytes_i]; omega) (hval 0 _ v0 rfl rfl) h0 (fun el spa hd => sized_slice hsz (j := 0) rfl (by rw [hd]; rfl) Try.underlying35)
  obtain ⟨x1, rfl, b1⟩ := open_i64 Try.underlying3 (hval 1 _ v1 rfl rfl) h1
  exact walk W a0 n0 c0 z0 s0 x1 b1

/-- THE STATEMENT -/
theorem proved : Rows.PacketBuildsMadeSaid :=
  OpenClaim.holds_of_wide 4 Try.f4 rfl rfl rfl rfl rfl rfl rfl ⟨rfl, rfl, rfl, rfl, rfl⟩ rfl rfl rfl rfl rfl (by kernel_rfl) Try.func4 (by kernel_rfl)
    (of_decide_eq_true (by kernel_rfl)) (by unfold Func.isWrapper; first | (rw [if_pos (by decide +kernel)]; kernel_rfl) | (rw [if_neg (by decide +kernel)]; exact ⟨rfl, rfl⟩))
    (fun os started H enc _ => lifted os started H enc)
#print axioms proved
end Go.Proofs.Ytfeeifemfhhijaa.packetBuildsMade
