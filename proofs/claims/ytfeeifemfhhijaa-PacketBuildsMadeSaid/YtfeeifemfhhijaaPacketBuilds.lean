/-
  PacketBuilds: what Valid, Head, Build and Udp return for any header and payload is what the document says. No condition.
-/
import Derived.Test.YtfeeifemfhhijaaPkAwake
import Derived.Test.YtfeeifemfhhijaaPkUdp2
import Derived.Test.YtfeeifemfhhijaaPkUdp
import Derived.Test.YtfeeifemfhhijaaHdOpen
import Derived.Test.YtfeeifemfhhijaaRows
import Derived.Deep.QuietTactic
import Derived.BigQuiet
import Derived.Deep.RegionHeld3
import Derived.Deep.DrawnRows
import Derived.Deep.DeepCutAuto
namespace Go.Proofs.Ytfeeifemfhhijaa.packetBuilds
open Go Go.RowKit Go.ChangeShapes Go.WideShapes Go.ChangeAt
attribute [local go_sem ↓] Go.wp_at_zero Go.wp_at_succ

/-- a slice of bytes and an error, of some length and content -/
def Ret2 (N : Nat) (L : List Int) (E : Int) (W : World) (e : Ending) (w' : World) : Prop := ∃ o k, e = .returned (.tuple #[.slice o N k, .int .i64 E]) ∧ Sl .u8 w' o N L ∧ Below W.heap.size W w'
def RetS (N : Nat) (L : List Int) (W : World) (e : Ending) (w' : World) : Prop := ∃ o k, e = .returned (.slice o N k) ∧ Sl .u8 w' o N L ∧ Below W.heap.size W w'

/-- all functions of both sides, each with the same answers -/
structure Both (w : World) (h : Hd) (a : Option Addr) (n c : Nat) (N HN : Nat) (L HL : List Int) (E V UE : Int) (vb : Bool) : Prop where
  b1 : ∀ W, Below w.heap.size w W → Calls Try.prog 9 #[(.agg #[.int .i64 h.kind, .int .i64 h.tos, .int .i64 h.id, .int .i64 h.fixed, .int .i64 h.ttl, .int .i64 h.frm, .int .i64 h.to, .int .i64 h.fromPort, .int .i64 h.toPort, .int .i64 h.check, .int .i64 h.marker, .int .i64 h.type, .int .i64 h.seq, .int .i64 h.time, .int .i64 h.source]), .slice a n c] W (Ret2 N L E W)
  b2 : ∀ W, Below w.heap.size w W → Calls Try.prog 10 #[(.agg #[.int .i64 h.kind, .int .i64 h.tos, .int .i64 h.id, .int .i64 h.fixed, .int .i64 h.ttl, .int .i64 h.frm, .int .i64 h.to, .int .i64 h.fromPort, .int .i64 h.toPort, .int .i64 h.check, .int .i64 h.marker, .int .i64 h.type, .int .i64 h.seq, .int .i64 h.time, .int .i64 h.source]), .slice a n c] W (Ret2 N L E W)
  u1 : ∀ W, Below w.heap.size w W → Calls Try.prog 11 #[(.agg #[.int .i64 h.kind, .int .i64 h.tos, .int .i64 h.id, .int .i64 h.fixed, .int .i64 h.ttl, .int .i64 h.frm, .int .i64 h.to, .int .i64 h.fromPort, .int .i64 h.toPort, .int .i64 h.check, .int .i64 h.marker, .int .i64 h.type, .int .i64 h.seq, .int .i64 h.time, .int .i64 h.source]), .slice a n c] W fun e w' => e = .returned (.tuple #[.int .i64 V, .int .i64 UE]) ∧ Below W.heap.size W w'
  u2 : ∀ W, Below w.heap.size w W → Calls Try.prog 12 #[(.agg #[.int .i64 h.kind, .int .i64 h.tos, .int .i64 h.id, .int .i64 h.fixed, .int .i64 h.ttl, .int .i64 h.frm, .int .i64 h.to, .int .i64 h.fromPort, .int .i64 h.toPort, .int .i64 h.check, .int .i64 h.marker, .int .i64 h.type, .int .i64 h.seq, .int .i64 h.time, .int .i64 h.source]), .slice a n c] W fun e w' => e = .returned (.tuple #[.int .i64 V, .int .i64 UE]) ∧ Below W.heap.size W w'
  v1 : ∀ W, Calls Try.prog 14 #[(.agg #[.int .i64 h.kind, .int .i64 h.tos, .int .i64 h.id, .int .i64 h.fixed, .int .i64 h.ttl, .int .i64 h.frm, .int .i64 h.to, .int .i64 h.fromPort, .int .i64 h.toPort, .int .i64 h.check, .int .i64 h.marker, .int .i64 h.type, .int .i64 h.seq, .int .i64 h.time, .int .i64 h.source])] W fun e w' => e = .returned (.bool vb) ∧ Below W.heap.size W w'
  v2 : ∀ W, Calls Try.prog 15 #[(.agg #[.int .i64 h.kind, .int .i64 h.tos, .int .i64 h.id, .int .i64 h.fixed, .int .i64 h.ttl, .int .i64 h.frm, .int .i64 h.to, .int .i64 h.fromPort, .int .i64 h.toPort, .int .i64 h.check, .int .i64 h.marker, .int .i64 h.type, .int .i64 h.seq, .int .i64 h.time, .int .i64 h.source])] W fun e w' => e = .returned (.bool vb) ∧ Below W.heap.size W w'
  h1 : ∀ W, Calls Try.prog 17 #[(.agg #[.int .i64 h.kind, .int .i64 h.tos, .int .i64 h.id, .int .i64 h.fixed, .int .i64 h.ttl, .int .i64 h.frm, .int .i64 h.to, .int .i64 h.fromPort, .int .i64 h.toPort, .int .i64 h.check, .int .i64 h.marker, .int .i64 h.type, .int .i64 h.seq, .int .i64 h.time, .int .i64 h.source])] W (RetS HN HL W)
  h2 : ∀ W, Calls Try.prog 18 #[(.agg #[.int .i64 h.kind, .int .i64 h.tos, .int .i64 h.id, .int .i64 h.fixed, .int .i64 h.ttl, .int .i64 h.frm, .int .i64 h.to, .int .i64 h.fromPort, .int .i64 h.toPort, .int .i64 h.check, .int .i64 h.marker, .int .i64 h.type, .int .i64 h.seq, .int .i64 h.time, .int .i64 h.source])] W (RetS HN HL W)

theorem sl_none (W : World) : Sl .u8 W none 0 [] := ⟨rfl, by omega, by simp, fun i hi => by omega⟩
theorem both (w : World) (h : Hd) (f : h.Fits) (a : Option Addr) (n c : Nat) (ps : List Int) (hs : Sl .u8 w a n ps) (hn : a = none → c = 0) (hm : n ≤ 140737488351232) : ∃ N HN L HL E V UE vb, Both w h a n c N HN L HL E V UE vb := by
  by_cases v : h.Valid
  · by_cases hsm : headN h + n ≤ 1500
    · refine ⟨headN h + n, headN h, pktL h ps, headL h, 0, udpV (pktL h ps), 0, validB h, ⟨fun W hb => ?_, fun W hb => ?_, fun W hb => ?_, fun W hb => ?_, fun W => Valid_any h W f, fun W => rValid_any h W f, fun W => ?_, fun W => ?_⟩⟩
      · refine (Build_ok h a n c ps W v (hs.keep hb) hn hsm).mono ?_
        rintro e w' ⟨g, cp, rfl, hm', hb'⟩
        exact ⟨_, cp, rfl, hm'.sl, hb'⟩
      · refine (rBuild_ok h a n c ps W v (hs.keep hb) hn hsm).mono ?_
        rintro e w' ⟨g, cp, rfl, hm', hb'⟩
        exact ⟨_, cp, rfl, hm'.sl, hb'⟩
      · exact Udp_ok h a n c ps W v (hs.keep hb) hn hsm
      · exact rUdp_ok h a n c ps W v (hs.keep hb) hn hsm
      · refine (Head_any h W v).mono ?_
        rintro e w' ⟨o, cp, rfl, hm', _, hb'⟩
        exact ⟨_, cp, rfl, hm'.sl, hb'⟩
      · refine (rHead_any h W v).mono ?_
        rintro e w' ⟨o, cp, rfl, hm', _, hb'⟩
        exact ⟨_, cp, rfl, hm'.sl, hb'⟩
    · refine ⟨0, headN h, [], headL h, 2, 0, 2, validB h, ⟨fun W hb => ?_, fun W hb => ?_, fun W hb => ?_, fun W hb => ?_, fun W => Valid_any h W f, fun W => rValid_any h W f, fun W => ?_, fun W => ?_⟩⟩
      · refine (Build_big h a n c ps W v (hs.keep hb) (by omega)).mono ?_
        rintro e w' ⟨rfl, hb'⟩
        exact ⟨none, 0, rfl, sl_none w', hb'⟩
      · refine (rBuild_big h a n c ps W v (hs.keep hb) hn hm (by omega)).mono ?_
        rintro e w' ⟨rfl, hb'⟩
        exact ⟨none, 0, rfl, sl_none w', hb'⟩
      · exact Udp_big h a n c ps W v (hs.keep hb) (by omega)
      · exact rUdp_big h a n c ps W v (hs.keep hb) hn hm (by omega)
      · refine (Head_any h W v).mono ?_
        rintro e w' ⟨o, cp, rfl, hm', _, hb'⟩
        exact ⟨_, cp, rfl, hm'.sl, hb'⟩
      · refine (rHead_any h W v).mono ?_
        rintro e w' ⟨o, cp, rfl, hm', _, hb'⟩
        exact ⟨_, cp, rfl, hm'.sl, hb'⟩
  · refine ⟨0, 0, [], [], 1, 0, 1, validB h, ⟨fun W hb => ?_, fun W hb => ?_, fun W hb => ?_, fun W hb => ?_, fun W => Valid_any h W f, fun W => rValid_any h W f, fun W => ?_, fun W => ?_⟩⟩
    · refine (Build_not h a n c W f v).mono ?_
      rintro e w' ⟨rfl, hb'⟩
      exact ⟨none, 0, rfl, sl_none w', hb'⟩
    · refine (rBuild_not h a n c W f v).mono ?_
      rintro e w' ⟨rfl, hb'⟩
      exact ⟨none, 0, rfl, sl_none w', hb'⟩
    · exact Udp_not h a n c W f v
    · exact rUdp_not h a n c W f v
    · refine (Head_not h W f v).mono ?_
      rintro e w' ⟨rfl, hb'⟩
      exact ⟨none, 0, rfl, sl_none w', hb'⟩
    · refine (rHead_not h W f v).mono ?_
      rintro e w' ⟨rfl, hb'⟩
      exact ⟨none, 0, rfl, sl_none w', hb'⟩

theorem same_true (o1 o2 : Option Addr) (N k1 k2 : Nat) (L : List Int) (W : World) (h1 : Sl .u8 W o1 N L) (h2 : Sl .u8 W o2 N L) :
    Calls Try.prog 16 #[.slice o1 N k1, .slice o2 N k2] W fun e w' => e = .returned (.bool true) ∧ W = w' := by
  have h := same_any o1 o2 N k1 N k2 L L W h1 h2
  rw [decide_eq_true rfl] at h
  exact h

set_option maxRecDepth 100000 in
set_option maxHeartbeats 6400000 in
theorem walkB (w : World) (h : Hd) (a : Option Addr) (n c : Nat) (N HN : Nat) (L HL : List Int) (E V UE : Int) (vb : Bool) (K : Both w h a n c N HN L HL E V UE vb) :
    Calls Try.prog 3 #[(.agg #[.int .i64 h.kind, .int .i64 h.tos, .int .i64 h.id, .int .i64 h.fixed, .int .i64 h.ttl, .int .i64 h.frm, .int .i64 h.to, .int .i64 h.fromPort, .int .i64 h.toPort, .int .i64 h.check, .int .i64 h.marker, .int .i64 h.type, .int .i64 h.seq, .int .i64 h.time, .int .i64 h.source]), .slice a n c] w fun e w' => e = .returned (.bool true) ∧ Below w.heap.size w w' := by
  have KB := Lib.hid K
  have HC := Lib.hid (hbox_cells h w)
  have BW := Lib.hid ((Below.refl w.heap.size w).alloc (Nat.le_refl _) (.cells #[.int .i64 h.kind, .int .i64 h.tos, .int .i64 h.id, .int .i64 h.fixed, .int .i64 h.ttl, .int .i64 h.frm, .int .i64 h.to, .int .i64 h.fromPort, .int .i64 h.toPort, .int .i64 h.check, .int .i64 h.marker, .int .i64 h.type, .int .i64 h.seq, .int .i64 h.time, .int .i64 h.source] 23))
  have AW := Lib.hid awake_any
  clear K
  go_enter Try.func3, Try.ntmps3
  go_wp2_with (first
    | (go_at_call 9; refine (KB.out.b1 _ BW.out).mono ?_; rintro e w1 ⟨o1, k1, rfl, hs, hb⟩; have S1 := Lib.hid hs; have hb1 : Below (w.heap.size + 1) (w.alloc (.cells #[.int .i64 h.kind, .int .i64 h.tos, .int .i64 h.id, .int .i64 h.fixed, .int .i64 h.ttl, .int .i64 h.frm, .int .i64 h.to, .int .i64 h.fromPort, .int .i64 h.toPort, .int .i64 h.check, .int .i64 h.marker, .int .i64 h.type, .int .i64 h.seq, .int .i64 h.time, .int .i64 h.source] 23)) w1 := hb.mono (by simp); have B1 := Lib.hid hb1; have hc1 := HC.out w1 hb1; have hz1 : w.heap.size < w1.heap.size := Nat.lt_of_lt_of_le (by simp) hb1.size; clear hs hb hb1)
    | (go_at_call 10; refine (KB.out.b2 _ (BW.out.trans (B1.out.mono (Nat.le_succ _)))).mono ?_; rintro e w2 ⟨o2, k2, rfl, hs, hb⟩; have S2 := Lib.hid hs; have T2 := Lib.hid (S1.out.keep hb); have hb2 := B1.out.trans (hb.mono (by omega)); have B2 := Lib.hid hb2; have hc2 := HC.out w2 hb2; have hz2 : w.heap.size < w2.heap.size := Nat.lt_of_lt_of_le (by simp) hb2.size; clear hs hb hb2 hc1 hz1)
    | (go_at_call 11; refine (KB.out.u1 _ (BW.out.trans (B2.out.mono (Nat.le_succ _)))).mono ?_; rintro e w3 ⟨rfl, hb⟩; have S3 := Lib.hid (S2.out.keep hb); have T3 := Lib.hid (T2.out.keep hb); have hb3 := B2.out.trans (hb.mono (by omega)); have B3 := Lib.hid hb3; have hc3 := HC.out w3 hb3; have hz3 : w.heap.size < w3.heap.size := Nat.lt_of_lt_of_le (by simp) hb3.size; clear hb hb3 hc2 hz2)
    | (go_at_call 12; refine (KB.out.u2 _ (BW.out.trans (B3.out.mono (Nat.le_succ _)))).mono ?_; rintro e w4 ⟨rfl, hb⟩; have S4 := Lib.hid (S3.out.keep hb); have T4 := Lib.hid (T3.out.keep hb); have hb4 := B3.out.trans (hb.mono (by omega)); have B4 := Lib.hid hb4; have hc4 := HC.out w4 hb4; have hz4 : w.heap.size < w4.heap.size := Nat.lt_of_lt_of_le (by simp) hb4.size; clear hb hb4 hc3 hz3)
    | fail)
  clear B1 B2 B3 S1 S2 S3 T2 T3
  as_aux_lemma =>
    go_region_held3 (fun w' => w'.cell? ⟨w.heap.size, 0, none⟩ = some (.int .i64 h.kind) ∧ w'.cell? ⟨w.heap.size, 1, none⟩ = some (.int .i64 h.tos) ∧ w'.cell? ⟨w.heap.size, 2, none⟩ = some (.int .i64 h.id) ∧ w'.cell? ⟨w.heap.size, 3, none⟩ = some (.int .i64 h.fixed) ∧ w'.cell? ⟨w.heap.size, 4, none⟩ = some (.int .i64 h.ttl) ∧ w'.cell? ⟨w.heap.size, 5, none⟩ = some (.int .i64 h.frm) ∧ w'.cell? ⟨w.heap.size, 6, none⟩ = some (.int .i64 h.to) ∧ w'.cell? ⟨w.heap.size, 7, none⟩ = some (.int .i64 h.fromPort) ∧ w'.cell? ⟨w.heap.size, 8, none⟩ = some (.int .i64 h.toPort) ∧ w'.cell? ⟨w.heap.size, 9, none⟩ = some (.int .i64 h.check) ∧ w'.cell? ⟨w.heap.size, 10, none⟩ = some (.int .i64 h.marker) ∧ w'.cell? ⟨w.heap.size, 11, none⟩ = some (.int .i64 h.type) ∧ w'.cell? ⟨w.heap.size, 12, none⟩ = some (.int .i64 h.seq) ∧ w'.cell? ⟨w.heap.size, 13, none⟩ = some (.int .i64 h.time) ∧ w'.cell? ⟨w.heap.size, 14, none⟩ = some (.int .i64 h.source)) (first | exact ⟨hc4 0, hc4 1, hc4 2, hc4 3, hc4 4, hc4 5, hc4 6, hc4 7, hc4 8, hc4 9, hc4 10, hc4 11, hc4 12, hc4 13, hc4 14⟩ | exact ⟨hc5 0, hc5 1, hc5 2, hc5 3, hc5 4, hc5 5, hc5 6, hc5 7, hc5 8, hc5 9, hc5 10, hc5 11, hc5 12, hc5 13, hc5 14⟩ | exact ⟨hc6 0, hc6 1, hc6 2, hc6 3, hc6 4, hc6 5, hc6 6, hc6 7, hc6 8, hc6 9, hc6 10, hc6 11, hc6 12, hc6 13, hc6 14⟩ | exact ⟨hc7 0, hc7 1, hc7 2, hc7 3, hc7 4, hc7 5, hc7 6, hc7 7, hc7 8, hc7 9, hc7 10, hc7 11, hc7 12, hc7 13, hc7 14⟩ | exact ⟨hc8 0, hc8 1, hc8 2, hc8 3, hc8 4, hc8 5, hc8 6, hc8 7, hc8 8, hc8 9, hc8 10, hc8 11, hc8 12, hc8 13, hc8 14⟩ | exact ⟨hc9 0, hc9 1, hc9 2, hc9 3, hc9 4, hc9 5, hc9 6, hc9 7, hc9 8, hc9 9, hc9 10, hc9 11, hc9 12, hc9 13, hc9 14⟩ | go_keep)
      (first
        | (go_at_call 13; ((with_reducible refine (AW.out _).mono ?_); rintro e w5 ⟨rfl, hb⟩; have S5 := Lib.hid (S4.out.drew.keep hb); have T5 := Lib.hid (T4.out.drew.keep hb); have hb5 := B4.out.drew.trans (hb.mono (by simp; omega)); have B5 := Lib.hid hb5; have hc5 := HC.out w5 hb5; have hz5 : w.heap.size < w5.heap.size := Nat.lt_of_lt_of_le (by simp) hb5.size; clear hb hb5))
        | (go_at_call 14; ((with_reducible refine (KB.out.v1 _).mono ?_); rintro e w6 ⟨rfl, hb⟩; have S6 := Lib.hid (S5.out.keep hb); have T6 := Lib.hid (T5.out.keep hb); have hb6 := B5.out.trans (hb.mono (by omega)); have B6 := Lib.hid hb6; have hc6 := HC.out w6 hb6; have hz6 : w.heap.size < w6.heap.size := Nat.lt_of_lt_of_le (by simp) hb6.size; clear hb hb6))
        | (go_at_call 15; ((with_reducible refine (KB.out.v2 _).mono ?_); rintro e w7 ⟨rfl, hb⟩; have S7 := Lib.hid (S6.out.keep hb); have T7 := Lib.hid (T6.out.keep hb); have hb7 := B6.out.trans (hb.mono (by omega)); have B7 := Lib.hid hb7; have hc7 := HC.out w7 hb7; have hz7 : w.heap.size < w7.heap.size := Nat.lt_of_lt_of_le (by simp) hb7.size; clear hb hb7))
        | (go_at_call 17; ((with_reducible refine (KB.out.h1 _).mono ?_); rintro e w8 ⟨o8, k8, rfl, hs, hb⟩; have U8 := Lib.hid hs; have S8 := Lib.hid (S7.out.keep hb); have T8 := Lib.hid (T7.out.keep hb); have hb8 := B7.out.trans (hb.mono (by omega)); have B8 := Lib.hid hb8; have hc8 := HC.out w8 hb8; have hz8 : w.heap.size < w8.heap.size := Nat.lt_of_lt_of_le (by simp) hb8.size; clear hs hb hb8))
        | (go_at_call 18; ((with_reducible refine (KB.out.h2 _).mono ?_); rintro e w9 ⟨o9, k9, rfl, hs, hb⟩; have U9 := Lib.hid hs; have V9 := Lib.hid (U8.out.keep hb); have S9 := Lib.hid (S8.out.keep hb); have T9 := Lib.hid (T8.out.keep hb); have hb9 := B8.out.trans (hb.mono (by omega)); have B9 := Lib.hid hb9; have hc9 := HC.out w9 hb9; have hz9 : w.heap.size < w9.heap.size := Nat.lt_of_lt_of_le (by simp) hb9.size; clear hs hb hb9))
        | (go_at_call 16; ((with_reducible refine (same_true o8 o9 HN k8 k9 HL _ V9.out U9.out).mono ?_); rintro e w' ⟨rfl, rfl⟩))
        | (go_at_call 16; ((with_reducible refine (same_true o1 o2 N k1 k2 L _ T9.out S9.out).mono ?_); rintro e w' ⟨rfl, rfl⟩))
        | fail)
    go_wp2
    go_ret
    exact ⟨by simp, BW.out.trans (B9.out.mono (Nat.le_succ _))⟩

theorem walk (W : World) (h : Hd) (f : h.Fits) (a : Option Addr) (n cap : Nat) (zs : List Int) (hs : Sl .u8 W a n zs) (hn : a = none → cap = 0) (hc : n ≤ cap) (hr : cap ≤ 140737488351232) :
    Calls Try.prog 3 #[(.agg #[.int .i64 h.kind, .int .i64 h.tos, .int .i64 h.id, .int .i64 h.fixed, .int .i64 h.ttl, .int .i64 h.frm, .int .i64 h.to, .int .i64 h.fromPort, .int .i64 h.toPort, .int .i64 h.check, .int .i64 h.marker, .int .i64 h.type, .int .i64 h.seq, .int .i64 h.time, .int .i64 h.source]), .slice a n cap] W fun e w' => e = .returned (.bool true) ∧ Below W.heap.size W w' := by
  obtain ⟨N, HN, L, HL, E, V, UE, vb, K⟩ := both W h f a n cap zs hs hn (by omega)
  exact walkB W h a n cap N HN L HL E V UE vb K

theorem own : ownKnob Try.prog.godebug = none := by kernel_rfl
theorem laidOut : laidOutB Try.prog = true := by kernel_rfl
theorem read_hd : Try.prog.readableRec 23 = true := by kernel_rfl
theorem read_bytes : Try.prog.readableRec 24 = true := by kernel_rfl
theorem cells_b : Try.prog.cellsOf 5 = 1 := by kernel_rfl
theorem bytes_b : Try.prog.bytesOf 5 = 1 := by kernel_rfl
theorem cells_hd : Try.prog.cellsOf 23 = 15 := by kernel_rfl
theorem lt_hd : 23 < Try.prog.types.size := of_decide_eq_true (by kernel_rfl)
theorem lt_bytes : 24 < Try.prog.types.size := of_decide_eq_true (by kernel_rfl)

set_option maxRecDepth 100000 in
theorem lifted (os : Os) (started : os.Started) (H : Type) (enc : TypeId × Value → H) :
    ReturnsInHanded {} Try.checked os 3 .any (Rows.packetBuildsSpec.pre6 enc Try.prog Try.f3 Rows.packetBuildsRow.domain false) (Rows.packetBuildsSpec.post enc Try.prog Try.f3 false true false false) := by
  refine law_lifted (C := Try.checked) (rt := 4) [23, 24] own started (by kernel_rfl) Try.func3 laidOut (by rw [Try.params3])
    (fun t ht => by simp only [List.mem_cons, List.not_mem_nil, or_false] at ht; rcases ht with rfl | rfl <;> first | exact ⟨read_hd, lt_hd⟩ | exact ⟨read_bytes, lt_bytes⟩) rfl Try.underlying4 rfl
    (fun ds h => by match ds, h with | [d0, d1], _ => rfl)
    (ChangeSpec.witness6 (enc := enc) (C := Try.checked) false ⟨#[], #[.agg #[.int .i64 0, .int .i64 0, .int .i64 0, .int .i64 0, .int .i64 0, .int .i64 0, .int .i64 0, .int .i64 0, .int .i64 0, .int .i64 0, .int .i64 0, .int .i64 0, .int .i64 0, .int .i64 0, .int .i64 0], .slice none 0 0], []⟩ 8 (by kernel_rfl) (by kernel_rfl) (by kernel_rfl) (by kernel_rfl)) ?_
  intro W base args ds p hval hA hsz
  obtain ⟨v0, vs0, d0, ds0, p0, q0, hargs, rfl, rfl, h0, r0⟩ := trodAll_cons hA
  obtain ⟨v1, vs1, d1, ds1, p1, q1, rfl, rfl, rfl, h1, r1⟩ := trodAll_cons r0
  obtain ⟨rfl, rfl, rfl⟩ := trodAll_nil r1
  obtain rfl : args = #[v0, v1] := by cases args; simp_all
  obtain ⟨y0, rfl, f0⟩ := open_hd Try.underlying23 (by kernel_rfl) cells_hd (fun f hf => by simp only [List.mem_cons, List.not_mem_nil, or_false] at hf; rcases hf with rfl | rfl | rfl | rfl | rfl | rfl | rfl | rfl | rfl | rfl | rfl | rfl | rfl | rfl | rfl <;> exact Try.underlying3) (hval 0 _ v0 rfl rfl) h0
  obtain ⟨a1, n1, c1, z1, rfl, s1, nn1⟩ := open_slr Try.underlying24 Try.underlying5 cells_b (by rw [bytes_b]; omega) (hval 1 _ v1 rfl rfl) h1 (fun el spa hd => sized_slice hsz (j := 1) rfl (by rw [hd]; rfl) Try.underlying24)
  exact walk W y0 f0 a1 n1 c1 z1 s1 nn1.1 nn1.2.1 nn1.2.2

/-- THE STATEMENT -/
theorem proved : Rows.PacketBuildsSaid :=
  OpenClaim.holds_of_wide 3 Try.f3 rfl rfl rfl rfl rfl rfl rfl ⟨rfl, rfl, rfl, rfl, rfl⟩ rfl rfl rfl rfl rfl (by kernel_rfl) Try.func3 (by kernel_rfl)
    (of_decide_eq_true (by kernel_rfl)) (by unfold Func.isWrapper; first | (rw [if_pos (by decide +kernel)]; kernel_rfl) | (rw [if_neg (by decide +kernel)]; exact ⟨rfl, rfl⟩))
    (fun os started H enc _ => lifted os started H enc)
#print axioms proved
end Go.Proofs.Ytfeeifemfhhijaa.packetBuilds
