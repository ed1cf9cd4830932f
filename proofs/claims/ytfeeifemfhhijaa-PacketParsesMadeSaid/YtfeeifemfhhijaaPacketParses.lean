/-
  PacketParses: what Parse returns for any bytes is what the document says. No condition.
-/
import Derived.Test.YtfeeifemfhhijaaPkAwake
import Derived.Test.YtfeeifemfhhijaaPkRPar
import Derived.Test.YtfeeifemfhhijaaHdMem
import Derived.Test.YtfeeifemfhhijaaLift
import Derived.Test.YtfeeifemfhhijaaRows
import Derived.Laws.StructEq
namespace Go.Proofs.Ytfeeifemfhhijaa.packetParses
open Go Go.RowKit Go.ChangeShapes Go.WideShapes Go.ChangeAt

/-- a header, a slice of bytes and an error -/
def Ret3 (x : Hd) (N : Nat) (L : List Int) (E : Int) (W : World) (e : Ending) (w' : World) : Prop := ∃ o k, e = .returned (.tuple #[(.agg #[.int .i64 x.kind, .int .i64 x.tos, .int .i64 x.id, .int .i64 x.fixed, .int .i64 x.ttl, .int .i64 x.frm, .int .i64 x.to, .int .i64 x.fromPort, .int .i64 x.toPort, .int .i64 x.check, .int .i64 x.marker, .int .i64 x.type, .int .i64 x.seq, .int .i64 x.time, .int .i64 x.source]), .slice o N k, .int .i64 E]) ∧ Sl .u8 w' o N L ∧ Below W.heap.size W w'
theorem sl_none (W : World) : Sl .u8 W none 0 [] := ⟨rfl, by omega, by simp, fun i hi => by omega⟩

theorem both (w : World) (a : Option Addr) (n c : Nat) (zs : List Int) (hs : Sl .u8 w a n zs) (hc : n ≤ c) (hcap : c ≤ 140737488351232) : ∃ x N L E,
    (∀ W, Below w.heap.size w W → Calls Try.prog 28 #[.slice a n c] W (Ret3 x N L E W)) ∧ (∀ W, Below w.heap.size w W → Calls Try.prog 29 #[.slice a n c] W (Ret3 x N L E W)) := by
  by_cases hsz : n < 28 ∨ 1500 < n
  · refine ⟨⟨0, 0, 0, 0, 0, 0, 0, 0, 0, 0, 0, 0, 0, 0, 0⟩, 0, [], 2, fun W hb => ?_, fun W hb => ?_⟩
    · refine (Parse_size a n c W hs.reach hsz).mono ?_
      rintro e w' ⟨rfl, hb'⟩
      exact ⟨none, 0, rfl, sl_none w', hb'⟩
    · refine (rParse_size a n c W hs.reach hsz).mono ?_
      rintro e w' ⟨rfl, hb'⟩
      exact ⟨none, 0, rfl, sl_none w', hb'⟩
  · obtain ⟨g, off, rfl⟩ := hs.head (by omega)
    cases hp : parB zs with
    | true =>
      refine ⟨fldL zs, n - headN (fldL zs), zs.drop (headN (fldL zs)), 0, fun W hb => ?_, fun W hb => ?_⟩
      · refine (Parse_ok _ n c zs W (hs.keep hb) hc (by omega) (by omega) hp).mono ?_
        rintro e w' ⟨o, k, rfl, hm, _, hb'⟩
        exact ⟨o, k, rfl, hm.sl, hb'⟩
      · refine (rParse_any g off n c zs W (hs.keep hb) hc hcap (by omega) (by omega)).mono ?_
        intro e w' hq
        unfold RPar at hq
        rw [if_pos hp] at hq
        obtain ⟨o, k, rfl, hm, _, hb'⟩ := hq
        exact ⟨o, k, rfl, hm.sl, hb'⟩
    | false =>
      refine ⟨⟨0, 0, 0, 0, 0, 0, 0, 0, 0, 0, 0, 0, 0, 0, 0⟩, 0, [], 4, fun W hb => ?_, fun W hb => ?_⟩
      · refine (Parse_form _ n c zs W (hs.keep hb) hc (by omega) (by omega) hp).mono ?_
        rintro e w' ⟨rfl, hb'⟩
        exact ⟨none, 0, rfl, sl_none w', hb'⟩
      · refine (rParse_any g off n c zs W (hs.keep hb) hc hcap (by omega) (by omega)).mono ?_
        intro e w' hq
        unfold RPar at hq
        rw [if_neg (by rw [hp]; simp)] at hq
        obtain ⟨rfl, hb'⟩ := hq
        exact ⟨none, 0, rfl, sl_none w', hb'⟩

theorem same_true (o1 o2 : Option Addr) (N k1 k2 : Nat) (L : List Int) (W : World) (h1 : Sl .u8 W o1 N L) (h2 : Sl .u8 W o2 N L) :
    Calls Try.prog 16 #[.slice o1 N k1, .slice o2 N k2] W fun e w' => e = .returned (.bool true) ∧ W = w' := by
  have h := same_any o1 o2 N k1 N k2 L L W h1 h2
  rw [decide_eq_true rfl] at h
  exact h

/-- a header is equal to itself -/
theorem eql_self (h : Hd) (W : World) : Sem.run Try.prog (binOp .eql 23 (.agg #[.int .i64 h.kind, .int .i64 h.tos, .int .i64 h.id, .int .i64 h.fixed, .int .i64 h.ttl, .int .i64 h.frm, .int .i64 h.to, .int .i64 h.fromPort, .int .i64 h.toPort, .int .i64 h.check, .int .i64 h.marker, .int .i64 h.type, .int .i64 h.seq, .int .i64 h.time, .int .i64 h.source]) (.agg #[.int .i64 h.kind, .int .i64 h.tos, .int .i64 h.id, .int .i64 h.fixed, .int .i64 h.ttl, .int .i64 h.frm, .int .i64 h.to, .int .i64 h.fromPort, .int .i64 h.toPort, .int .i64 h.check, .int .i64 h.marker, .int .i64 h.type, .int .i64 h.seq, .int .i64 h.time, .int .i64 h.source])) W = .ok (.bool true) W := by
  have u3 := Try.underlying3
  have a3 := Try.isAgg3
  have z3 := Try.sizeOf3
  have hS : Try.prog.underlying 23 = some (.struct (Try.prog.fieldsOf 23)) := by kernel_rfl
  have hp : Try.prog.stoodInHeld 23 = false := by kernel_rfl
  rw [run_eql_struct, show (10000 : Nat) = 9999 + 1 from rfl, run_equalIn_agg W 9999 23 _ _ hS hp]
  simp only [Program.fieldsOf, Try.underlying23]
  go_simp

set_option maxRecDepth 100000 in
set_option maxHeartbeats 6400000 in
theorem walkP (w : World) (a : Option Addr) (n c : Nat) (x : Hd) (N : Nat) (L : List Int) (E : Int) (K1 : ∀ W, Below w.heap.size w W → Calls Try.prog 28 #[.slice a n c] W (Ret3 x N L E W)) (K2 : ∀ W, Below w.heap.size w W → Calls Try.prog 29 #[.slice a n c] W (Ret3 x N L E W)) :
    Calls Try.prog 5 #[.slice a n c] w fun e w' => e = .returned (.bool true) ∧ Below w.heap.size w w' := by
  have H1 := Lib.hid K1
  have H2 := Lib.hid K2
  have AW := Lib.hid awake_any
  have hE := eql_self x
  have BW := Lib.hid (Below.refl w.heap.size w)
  clear K1 K2
  go_enter Try.func5, Try.ntmps5
  go_wp2_with (first
    | (go_at_call 28; refine (H1.out _ BW.out).mono ?_; rintro e w1 ⟨o1, k1, rfl, hs, hb⟩; have S1 := Lib.hid hs; have B1 := Lib.hid hb; have hz1 := hb.size; clear hs hb)
    | (go_at_call 29; refine (H2.out _ (B1.out.alloc hz1 _)).mono ?_; rintro e w2 ⟨o2, k2, rfl, hs, hb⟩; have S2 := Lib.hid hs; have T2 := Lib.hid ((S1.out.alloc _).keep hb); have hb2 : Below (w1.heap.size + 1) (w1.alloc (.cells #[.int .i64 x.kind, .int .i64 x.tos, .int .i64 x.id, .int .i64 x.fixed, .int .i64 x.ttl, .int .i64 x.frm, .int .i64 x.to, .int .i64 x.fromPort, .int .i64 x.toPort, .int .i64 x.check, .int .i64 x.marker, .int .i64 x.type, .int .i64 x.seq, .int .i64 x.time, .int .i64 x.source] 23)) w2 := hb.mono (by simp); have X2 := Lib.hid (hbox_blk x w1 w2 hb2); have hc2 := cells_of X2.out; have hz2 : w1.heap.size < w2.heap.size := Nat.lt_of_lt_of_le (by simp) hb2.size; have B2 := Lib.hid ((B1.out.alloc hz1 _).trans (hb.mono (by simp; omega))); clear hs hb hb2)
    | (go_at_call 13; refine (AW.out _).mono ?_; rintro e w3 ⟨rfl, hb⟩; have S3 := Lib.hid ((S2.out.alloc _).keep hb); have T3 := Lib.hid ((T2.out.alloc _).keep hb); have hb3 : Below (w2.heap.size + 1) (w2.alloc (.cells #[.int .i64 x.kind, .int .i64 x.tos, .int .i64 x.id, .int .i64 x.fixed, .int .i64 x.ttl, .int .i64 x.frm, .int .i64 x.to, .int .i64 x.fromPort, .int .i64 x.toPort, .int .i64 x.check, .int .i64 x.marker, .int .i64 x.type, .int .i64 x.seq, .int .i64 x.time, .int .i64 x.source] 23)) w3 := hb.mono (by simp); have hd3 := cells_of (hbox_blk x w2 w3 hb3); have hc3 := cells_of ((hb3.block w1.heap.size (by omega)).trans ((heap_alloc_old w2 _ hz2).trans X2.out)); have hz3 : w2.heap.size < w3.heap.size := Nat.lt_of_lt_of_le (by simp) hb3.size; have B3 := Lib.hid ((B2.out.alloc (by omega) _).trans (hb3.mono (by omega))); clear hb hb3 hc2)
    | (go_at_call 16; refine (same_true o1 o2 N k1 k2 L _ T3.out S3.out).mono ?_; rintro e w' ⟨rfl, rfl⟩)
    | fail)
  go_ret
  exact ⟨by simp, B3.out⟩

theorem walk (W : World) (a : Option Addr) (n cap : Nat) (zs : List Int) (hs : Sl .u8 W a n zs) (_hn : a = none → cap = 0) (hc : n ≤ cap) (hr : cap ≤ 140737488351232) :
    Calls Try.prog 5 #[.slice a n cap] W fun e w' => e = .returned (.bool true) ∧ Below W.heap.size W w' := by
  obtain ⟨x, N, L, E, K1, K2⟩ := both W a n cap zs hs hc hr
  exact walkP W a n cap x N L E K1 K2

theorem own : ownKnob Try.prog.godebug = none := by kernel_rfl
theorem laidOut : laidOutB Try.prog = true := by kernel_rfl
theorem read_bytes : Try.prog.readableRec 24 = true := by kernel_rfl
theorem cells_b : Try.prog.cellsOf 5 = 1 := by kernel_rfl
theorem bytes_b : Try.prog.bytesOf 5 = 1 := by kernel_rfl
theorem lt_bytes : 24 < Try.prog.types.size := of_decide_eq_true (by kernel_rfl)

set_option maxRecDepth 100000 in
theorem lifted (os : Os) (started : os.Started) (H : Type) (enc : TypeId × Value → H) :
    ReturnsInHanded {} Try.checked os 5 .any (Rows.packetParsesSpec.pre6 enc Try.prog Try.f5 Rows.packetParsesRow.domain false) (Rows.packetParsesSpec.post enc Try.prog Try.f5 false true false false) := by
  refine law_lifted (C := Try.checked) (rt := 4) [24] own started (by kernel_rfl) Try.func5 laidOut (by rw [Try.params5])
    (fun t ht => by simp only [List.mem_cons, List.not_mem_nil, or_false] at ht; rcases ht with rfl <;> first | exact ⟨read_bytes, lt_bytes⟩) rfl Try.underlying4 rfl
    (fun ds h => by match ds, h with | [d0], _ => rfl)
    (ChangeSpec.witness6 (enc := enc) (C := Try.checked) false ⟨#[], #[.slice none 0 0], []⟩ 8 (by kernel_rfl) (by kernel_rfl) (by kernel_rfl) (by kernel_rfl)) ?_
  intro W base args ds p hval hA hsz
  obtain ⟨v0, vs0, d0, ds0, p0, q0, hargs, rfl, rfl, h0, r0⟩ := trodAll_cons hA
  obtain ⟨rfl, rfl, rfl⟩ := trodAll_nil r0
  obtain rfl : args = #[v0] := by cases args; simp_all
  obtain ⟨a0, n0, c0, z0, rfl, s0, nn0⟩ := open_slr Try.underlying24 Try.underlying5 cells_b (by rw [bytes_b]; omega) (hval 0 _ v0 rfl rfl) h0 (fun el spa hd => sized_slice hsz (j := 0) rfl (by rw [hd]; rfl) Try.underlying24)
  exact walk W a0 n0 c0 z0 s0 nn0.1 nn0.2.1 nn0.2.2

/-- THE STATEMENT -/
theorem proved : Rows.PacketParsesSaid :=
  OpenClaim.holds_of_wide 5 Try.f5 rfl rfl rfl rfl rfl rfl rfl ⟨rfl, rfl, rfl, rfl, rfl⟩ rfl rfl rfl rfl rfl (by kernel_rfl) Try.func5 (by kernel_rfl)
    (of_decide_eq_true (by kernel_rfl)) (by unfold Func.isWrapper; first | (rw [if_pos (by decide +kernel)]; kernel_rfl) | (rw [if_neg (by decide +kernel)]; exact ⟨rfl, rfl⟩))
    (fun os started H enc _ => lifted os started H enc)
#print axioms proved
end Go.Proofs.Ytfeeifemfhhijaa.packetParses
