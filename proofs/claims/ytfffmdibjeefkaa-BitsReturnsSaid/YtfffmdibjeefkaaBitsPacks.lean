/-
  Proved: the Go function BitsPacks, called with any two lists of numbers and any bytes, returns true and leaves its arguments as they were (Pack and Unpack return what the document's own Pack and Unpack return).
  Conditions: none beyond those of the given row.
-/
import Derived.Test.YtfffmdibjeefkaaBitsSplits
import Derived.Test.YtfffmdibjeefkaaBitsRefPack
import Derived.Test.YtfffmdibjeefkaaBitsRefUnpack
namespace Go.Proofs.Ytfffmdibjeefkaa.bitsPacks
open Go Go.RowKit Go.ChangeShapes Go.WideShapes Go.ChangeAt
open Go.Proofs.Ytfffmdibjeefkaa.bitsSplits (own laidOut cells5 cells3 bytes5 big)

theorem bytes3 : Try.prog.bytesOf 3 = 8 := by kernel_rfl

set_option maxHeartbeats 3200000 in
theorem walk (a b c : Option Addr) (n capa m capb l capc : Nat) (ws vs zs : List Int) (w : World) (hws : Sl .i64 w a n ws) (hvs : Sl .i64 w b m vs) (hzs : Sl .u8 w c l zs) :
    Calls Try.prog 4 #[.slice a n capa, .slice b m capb, .slice c l capc] w fun e w' => e = .returned (.bool true) ∧ Below w.heap.size w w' := by
  have Hws := Lib.hid hws
  have Hvs := Lib.hid hvs
  have Hzs := Lib.hid hzs
  clear hws hvs hzs
  go_enter Try.func4, Try.ntmps4
  go_wp2_with fail
  refine (Pack_any _ _ _ _ _ _ ws vs _ Hws.out Hvs.out).mono ?_
  rintro e w1 ⟨a1, n1, c1, rfl, hc1, hm1, hb1⟩
  have S1 := Lib.hid hm1.sl
  have B1 := Lib.hid hb1
  clear hm1 hb1
  go_wp2_with fail
  refine (refPack_any _ _ _ _ _ _ ws vs _ (Hws.out.keep B1.out) (Hvs.out.keep B1.out)).mono ?_
  rintro e w2 ⟨a2, n2, c2, rfl, hc2, hm2, hb2⟩
  have S2 := Lib.hid hm2.sl
  have S1b := Lib.hid (S1.out.keep hb2)
  have B2 := Lib.hid (B1.out.trans (hb2.mono B1.out.size))
  clear hm2 hb2
  go_wp2_with fail
  refine (Unpack_any _ _ _ _ _ _ zs ws _ (Hzs.out.keep B2.out) (Hws.out.keep B2.out)).mono ?_
  rintro e w3 ⟨a3, n3, c3, rfl, hc3, hm3, hb3⟩
  have S3 := Lib.hid hm3.sl
  have S2c := Lib.hid (S2.out.keep hb3)
  have S1c := Lib.hid (S1b.out.keep hb3)
  have B3 := Lib.hid (B2.out.trans (hb3.mono B2.out.size))
  clear hm3 hb3
  go_wp2_with fail
  refine (refUnpack_any _ _ _ _ _ _ zs ws _ (Hzs.out.keep B3.out) (Hws.out.keep B3.out)).mono ?_
  rintro e w4 ⟨a4, n4, c4, rfl, hc4, hm4, hb4⟩
  have S4 := Lib.hid hm4.sl
  have S3d := Lib.hid (S3.out.keep hb4)
  have S2d := Lib.hid (S2c.out.keep hb4)
  have S1d := Lib.hid (S1c.out.keep hb4)
  have B4 := Lib.hid (B3.out.trans (hb4.mono B3.out.size))
  clear hm4 hb4
  go_wp2_with fail
  refine (awake01_any _).mono ?_
  rintro e w5 ⟨rfl, hb5⟩
  have S4e := Lib.hid (S4.out.keep hb5)
  have S3e := Lib.hid (S3d.out.keep hb5)
  have S2e := Lib.hid (S2d.out.keep hb5)
  have S1e := Lib.hid (S1d.out.keep hb5)
  have B5 := Lib.hid (B4.out.trans (hb5.mono B4.out.size))
  clear hb5
  generalize packE ws vs = e1
  generalize unpackE zs ws = e2
  go_wp2_with fail
  refine (same_any _ _ _ _ _ _ _ _ _ S1e.out S2e.out).mono ?_
  rintro e w6 ⟨rfl, rfl⟩
  rw [show decide (packV ws vs = packV ws vs) = true from decide_eq_true rfl]
  go_wp2_with fail
  refine (sameInts_any _ _ _ _ _ _ _ _ _ S3e.out S4e.out).mono ?_
  rintro e w7 ⟨rfl, hb7⟩
  rw [show decide (unpackV zs ws = unpackV zs ws) = true from decide_eq_true rfl]
  have B7 := Lib.hid (B5.out.trans (hb7.mono B5.out.size))
  clear hb7
  go_wp2
  go_ret
  exact ⟨rfl, B7.out⟩

theorem lifted (os : Os) (started : os.Started) (H : Type) (enc : TypeId × Value → H) :
    ReturnsInHanded {} Try.checked os 4 .any (Rows.bitsPacksSpec.pre6 enc Try.prog Try.f4 Rows.bitsPacksRow.domain false) (Rows.bitsPacksSpec.post enc Try.prog Try.f4 false true false false) := by
  refine law_lifted (C := Try.checked) (rt := 4) [35, 35, 22] own started (by kernel_rfl) Try.func4 laidOut (by rw [Try.params4])
    (fun t ht => by simp at ht; rcases ht with rfl | rfl <;> exact ⟨by kernel_rfl, Nat.lt_trans (by omega) big⟩) rfl Try.underlying4 rfl
    (fun ds h => by match ds, h with | [d1, d2, d3], _ => rfl)
    (ChangeSpec.witness6 (enc := enc) (C := Try.checked) false ⟨#[], #[.slice none 0 0, .slice none 0 0, .slice none 0 0], []⟩ 8 (by kernel_rfl) (by kernel_rfl) (by kernel_rfl) (by kernel_rfl)) ?_
  intro W base args ds p hval hA hsz
  obtain ⟨v0, vs0, d0, ds0, p0, q0, hargs, rfl, rfl, h0, r0⟩ := trodAll_cons hA
  obtain ⟨v1, vs1, d1, ds1, p1, q1, rfl, rfl, rfl, h1, r1⟩ := trodAll_cons r0
  obtain ⟨v2, vs2, d2, ds2, p2, q2, rfl, rfl, rfl, h2, r2⟩ := trodAll_cons r1
  obtain ⟨rfl, rfl, rfl⟩ := trodAll_nil r2
  obtain rfl : args = #[v0, v1, v2] := by cases args; simp_all
  obtain ⟨a, n, capa, ws, rfl, hws, _⟩ := open_sl Try.underlying35 Try.underlying3 cells3 (by rw [bytes3]; omega) (hval 0 35 v0 rfl rfl) h0 (fun el spa hd => sized_slice hsz (j := 0) rfl (by rw [hd]; rfl) Try.underlying35)
  obtain ⟨b, m, capb, vs, rfl, hvs, _⟩ := open_sl Try.underlying35 Try.underlying3 cells3 (by rw [bytes3]; omega) (hval 1 35 v1 rfl rfl) h1 (fun el spa hd => sized_slice hsz (j := 1) rfl (by rw [hd]; rfl) Try.underlying35)
  obtain ⟨c, l, capc, zs, rfl, hzs, _⟩ := open_sl Try.underlying22 Try.underlying5 cells5 (by rw [bytes5]; omega) (hval 2 22 v2 rfl rfl) h2 (fun el spa hd => sized_slice hsz (j := 2) rfl (by rw [hd]; rfl) Try.underlying22)
  exact walk a b c n capa m capb l capc ws vs zs W hws hvs hzs

/-- THE STATEMENT -/
theorem proved : Rows.BitsPacksSaid :=
  OpenClaim.holds_of_wide 4 Try.f4 rfl rfl rfl rfl rfl rfl rfl ⟨rfl, rfl, rfl, rfl, rfl⟩ rfl rfl rfl rfl rfl (by kernel_rfl) Try.func4 (by kernel_rfl)
    (of_decide_eq_true (by kernel_rfl)) (by unfold Func.isWrapper; first | (rw [if_pos (by decide +kernel)]; kernel_rfl) | (rw [if_neg (by decide +kernel)]; exact ⟨rfl, rfl⟩))
    (fun os started H enc _ => lifted os started H enc)
#print axioms proved
end Go.Proofs.Ytfffmdibjeefkaa.bitsPacks
