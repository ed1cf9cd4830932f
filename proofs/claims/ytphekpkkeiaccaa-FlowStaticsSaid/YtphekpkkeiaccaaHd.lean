/-
  A header of layer 5 as fifteen numbers; when it is valid.
-/
import Derived.Test.YtphekpkkeiaccaaBase
namespace Go.Proofs.Ytphekpkkeiaccaa
open Go Go.RowKit

structure Hd where
  kind : Int
  tos : Int
  id : Int
  fixed : Int
  ttl : Int
  frm : Int
  to : Int
  fromPort : Int
  toPort : Int
  check : Int
  marker : Int
  type : Int
  seq : Int
  time : Int
  source : Int

/-- each number is one of int's -/
structure Hd.Fits (h : Hd) : Prop where
  kind : -9223372036854775808 ≤ h.kind ∧ h.kind ≤ 9223372036854775807
  tos : -9223372036854775808 ≤ h.tos ∧ h.tos ≤ 9223372036854775807
  id : -9223372036854775808 ≤ h.id ∧ h.id ≤ 9223372036854775807
  fixed : -9223372036854775808 ≤ h.fixed ∧ h.fixed ≤ 9223372036854775807
  ttl : -9223372036854775808 ≤ h.ttl ∧ h.ttl ≤ 9223372036854775807
  frm : -9223372036854775808 ≤ h.frm ∧ h.frm ≤ 9223372036854775807
  to : -9223372036854775808 ≤ h.to ∧ h.to ≤ 9223372036854775807
  fromPort : -9223372036854775808 ≤ h.fromPort ∧ h.fromPort ≤ 9223372036854775807
  toPort : -9223372036854775808 ≤ h.toPort ∧ h.toPort ≤ 9223372036854775807
  check : -9223372036854775808 ≤ h.check ∧ h.check ≤ 9223372036854775807
  marker : -9223372036854775808 ≤ h.marker ∧ h.marker ≤ 9223372036854775807
  type : -9223372036854775808 ≤ h.type ∧ h.type ≤ 9223372036854775807
  seq : -9223372036854775808 ≤ h.seq ∧ h.seq ≤ 9223372036854775807
  time : -9223372036854775808 ≤ h.time ∧ h.time ≤ 9223372036854775807
  source : -9223372036854775808 ≤ h.source ∧ h.source ≤ 9223372036854775807

/-- the fields that both kinds have -/
structure Hd.Ip (h : Hd) : Prop where
  tos0 : 0 ≤ h.tos
  tos1 : h.tos ≤ 255
  ttl0 : 0 ≤ h.ttl
  ttl1 : h.ttl ≤ 255
  id0 : 0 ≤ h.id
  id1 : h.id ≤ 65535
  fromPort0 : 0 ≤ h.fromPort
  fromPort1 : h.fromPort ≤ 65535
  toPort0 : 0 ≤ h.toPort
  toPort1 : h.toPort ≤ 65535
  check0 : 0 ≤ h.check
  check1 : h.check ≤ 65535
  fixed0 : 0 ≤ h.fixed
  fixed1 : h.fixed ≤ 1
  frm0 : 0 ≤ h.frm
  frm1 : h.frm ≤ 4294967295
  to0 : 0 ≤ h.to
  to1 : h.to ≤ 4294967295
structure Hd.Plain (h : Hd) : Prop where
  marker : h.marker = 0
  type : h.type = 0
  seq : h.seq = 0
  time : h.time = 0
  source : h.source = 0
structure Hd.Rtp (h : Hd) : Prop where
  marker0 : 0 ≤ h.marker
  marker1 : h.marker ≤ 1
  type0 : 0 ≤ h.type
  type1 : h.type ≤ 127
  seq0 : 0 ≤ h.seq
  seq1 : h.seq ≤ 65535
  time0 : 0 ≤ h.time
  time1 : h.time ≤ 4294967295
  source0 : 0 ≤ h.source
  source1 : h.source ≤ 4294967295
def Hd.Valid (h : Hd) : Prop := h.Ip ∧ (h.kind = 1 ∧ h.Plain ∨ h.kind = 2 ∧ h.Rtp)
def validB (h : Hd) : Bool :=
  decide ((0 ≤ h.tos ∧ h.tos ≤ 255 ∧ 0 ≤ h.ttl ∧ h.ttl ≤ 255 ∧ 0 ≤ h.id ∧ h.id ≤ 65535 ∧ 0 ≤ h.fromPort ∧ h.fromPort ≤ 65535 ∧ 0 ≤ h.toPort ∧ h.toPort ≤ 65535 ∧ 0 ≤ h.check ∧ h.check ≤ 65535 ∧
      0 ≤ h.fixed ∧ h.fixed ≤ 1 ∧ 0 ≤ h.frm ∧ h.frm ≤ 4294967295 ∧ 0 ≤ h.to ∧ h.to ≤ 4294967295) ∧
    (h.kind = 1 ∧ (h.marker = 0 ∧ h.type = 0 ∧ h.seq = 0 ∧ h.time = 0 ∧ h.source = 0) ∨
      h.kind = 2 ∧ (0 ≤ h.marker ∧ h.marker ≤ 1 ∧ 0 ≤ h.type ∧ h.type ≤ 127 ∧ 0 ≤ h.seq ∧ h.seq ≤ 65535 ∧ 0 ≤ h.time ∧ h.time ≤ 4294967295 ∧ 0 ≤ h.source ∧ h.source ≤ 4294967295)))
theorem validB_iff (h : Hd) : validB h = true ↔ h.Valid := by
  unfold validB Hd.Valid
  rw [decide_eq_true_iff]
  constructor
  · rintro ⟨⟨a1, a2, a3, a4, a5, a6, a7, a8, a9, a10, a11, a12, a13, a14, a15, a16, a17, a18⟩, ⟨k, p1, p2, p3, p4, p5⟩ | ⟨k, r1, r2, r3, r4, r5, r6, r7, r8, r9, r10⟩⟩
    · exact ⟨⟨a1, a2, a3, a4, a5, a6, a7, a8, a9, a10, a11, a12, a13, a14, a15, a16, a17, a18⟩, .inl ⟨k, ⟨p1, p2, p3, p4, p5⟩⟩⟩
    · exact ⟨⟨a1, a2, a3, a4, a5, a6, a7, a8, a9, a10, a11, a12, a13, a14, a15, a16, a17, a18⟩, .inr ⟨k, ⟨r1, r2, r3, r4, r5, r6, r7, r8, r9, r10⟩⟩⟩
  · rintro ⟨⟨a1, a2, a3, a4, a5, a6, a7, a8, a9, a10, a11, a12, a13, a14, a15, a16, a17, a18⟩, ⟨k, ⟨p1, p2, p3, p4, p5⟩⟩ | ⟨k, ⟨r1, r2, r3, r4, r5, r6, r7, r8, r9, r10⟩⟩⟩
    · exact ⟨⟨a1, a2, a3, a4, a5, a6, a7, a8, a9, a10, a11, a12, a13, a14, a15, a16, a17, a18⟩, .inl ⟨k, p1, p2, p3, p4, p5⟩⟩
    · exact ⟨⟨a1, a2, a3, a4, a5, a6, a7, a8, a9, a10, a11, a12, a13, a14, a15, a16, a17, a18⟩, .inr ⟨k, r1, r2, r3, r4, r5, r6, r7, r8, r9, r10⟩⟩
theorem validB_true {h : Hd} (v : h.Valid) : validB h = true := (validB_iff h).2 v
theorem validB_false {h : Hd} (v : ¬ h.Valid) : validB h = false := by
  cases e : validB h with
  | false => rfl
  | true => exact absurd ((validB_iff h).1 e) v
theorem validB_of {h : Hd} (v : validB h = true) : h.Valid := (validB_iff h).1 v
theorem Hd.Valid.fits {h : Hd} (v : h.Valid) : h.Fits := by
  obtain ⟨i, ⟨hk, p⟩ | ⟨hk, r⟩⟩ := v
  · cases i; cases p; constructor <;> constructor <;> omega
  · cases i; cases r; constructor <;> constructor <;> omega
end Go.Proofs.Ytphekpkkeiaccaa
