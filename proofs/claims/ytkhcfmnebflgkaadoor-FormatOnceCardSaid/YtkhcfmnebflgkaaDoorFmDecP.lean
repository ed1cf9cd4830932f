/-
  The program's Decode of layer 8. (gen_decp.py writes this text.)
-/
import Derived.Test.YtkhcfmnebflgkaaDoorFmReadP
import Derived.Test.YtkhcfmnebflgkaaDoorFmEncQ
import Derived.Test.YtkhcfmnebflgkaaDoorJBase
import Derived.WalkSmall
import Derived.Deep.DeepCutAuto
namespace Go.Proofs.YtkhcfmnebflgkaaDoor
open Go Go.RowKit

theorem equal_any (a b : Option Addr) (n cap m cap' : Nat) (xs ys : List Int) (w : World) (hx : Sl .u8 w a n xs) (hy : Sl .u8 w b m ys) :
    Calls Tryd.prog 54 #[.slice a n cap, .slice b m cap'] w fun e w' => e = .returned (.bool (decide (xs = ys))) ∧ w = w' := by
  have c1 := run_string_of (P := Tryd.prog) hx cap 26 5 9 Tryd.underlying26 Tryd.underlying5 Tryd.underlying9
  have c2 := run_string_of (P := Tryd.prog) hy cap' 26 5 9 Tryd.underlying26 Tryd.underlying5 Tryd.underlying9
  go_enter Tryd.func54, Tryd.ntmps54
  go_wp2
  go_ret
  refine ⟨ret_bool ?_, rfl⟩
  rw [ByteArray.toList_eq, ByteArray.toList_eq, Bool.eq_iff_iff]
  simp only [beq_iff_eq, decide_eq_true_eq]
  exact ⟨fun h => bytes_back hx.all255 hy.all255 h, fun h => by rw [h]⟩

/-- the bytes behind the byte of the context -/
def restL (x : Int) (zs : List Int) : List Int := if 0 < x then zs.drop 1 else zs
def decX (zs : List Int) : Int := (peekV zs).1
def decF (zs : List Int) : Int := (peekV zs).2.1
def decR (zs : List Int) : List Int := restL (decX zs) zs
def decK (kind : Int) (zs : List Int) : Int := (kindV (decR zs) (decF zs) kind).1
/-- the parts that bytes say, with a payload's slice -/
def decS (kind : Int) (zs : List Int) (c : Bool) (a : Option Addr) (cap : Nat) : Sm := rdW (decX zs) (decF zs) (decK kind zs) (decR zs) c a cap
def decD (kind : Int) (zs : List Int) (c : Bool) : Nat := endL (decF zs) (decK kind zs) (decR zs) c
/-- the error -/
def decE (kind : Int) (zs : List Int) (c : Bool) : Int :=
  if (peekV zs).2.2 ≠ 0 then (peekV zs).2.2 else if (kindV (decR zs) (decF zs) kind).2 ≠ 0 then (kindV (decR zs) (decF zs) kind).2
  else if ¬ decD kind zs c ≤ (decR zs).length then 5 else if smB (decS kind zs c none 0) = true ∧ encL (decS kind zs c none 0) = zs then 0 else 4
/-- what Decode leaves -/
def DecR (kind : Int) (zs : List Int) (c : Bool) (w : World) (e : Ending) (w' : World) : Prop :=
  Below w.heap.size w w' ∧ if decE kind zs c = 0 then ∃ a cap, (a = none → cap = 0) ∧ Mk .u8 5 w.heap.size w' (.slice a (decS kind zs c none 0).pn cap) (decS kind zs c none 0).pn (decS kind zs c none 0).pz ∧ e = .returned (.tuple #[(.agg #[.int .i64 (decS kind zs c a cap).ctx, .int .i64 (decS kind zs c a cap).fmt, .int .i64 (decS kind zs c a cap).num, .int .i64 (decS kind zs c a cap).time, .int .i64 (decS kind zs c a cap).mark, .int .i64 (decS kind zs c a cap).id, .int .i64 (decS kind zs c a cap).udp, .int .i64 (decS kind zs c a cap).h.kind, .int .i64 (decS kind zs c a cap).h.tos, .int .i64 (decS kind zs c a cap).h.id, .int .i64 (decS kind zs c a cap).h.fixed, .int .i64 (decS kind zs c a cap).h.ttl, .int .i64 (decS kind zs c a cap).h.frm, .int .i64 (decS kind zs c a cap).h.to, .int .i64 (decS kind zs c a cap).h.fromPort, .int .i64 (decS kind zs c a cap).h.toPort, .int .i64 (decS kind zs c a cap).h.check, .int .i64 (decS kind zs c a cap).h.marker, .int .i64 (decS kind zs c a cap).h.type, .int .i64 (decS kind zs c a cap).h.seq, .int .i64 (decS kind zs c a cap).h.time, .int .i64 (decS kind zs c a cap).h.source, .int .i64 (decS kind zs c a cap).ds, .int .i64 (decS kind zs c a cap).df, .int .i64 (decS kind zs c a cap).chk, .slice (decS kind zs c a cap).pa (decS kind zs c a cap).pn (decS kind zs c a cap).pc]), .int .i64 0]) else e = .returned (.tuple #[(.agg #[.int .i64 zeroS.ctx, .int .i64 zeroS.fmt, .int .i64 zeroS.num, .int .i64 zeroS.time, .int .i64 zeroS.mark, .int .i64 zeroS.id, .int .i64 zeroS.udp, .int .i64 zeroS.h.kind, .int .i64 zeroS.h.tos, .int .i64 zeroS.h.id, .int .i64 zeroS.h.fixed, .int .i64 zeroS.h.ttl, .int .i64 zeroS.h.frm, .int .i64 zeroS.h.to, .int .i64 zeroS.h.fromPort, .int .i64 zeroS.h.toPort, .int .i64 zeroS.h.check, .int .i64 zeroS.h.marker, .int .i64 zeroS.h.type, .int .i64 zeroS.h.seq, .int .i64 zeroS.h.time, .int .i64 zeroS.h.source, .int .i64 zeroS.ds, .int .i64 zeroS.df, .int .i64 zeroS.chk, .slice zeroS.pa zeroS.pn zeroS.pc]), .int .i64 (decE kind zs c)])
theorem decR_err {kind : Int} {zs : List Int} {c : Bool} {w w' : World} {e : Int} (hb : Below w.heap.size w w') (h : decE kind zs c = e ∧ e ≠ 0) : DecR kind zs c w (.returned (.tuple #[(.agg #[.int .i64 zeroS.ctx, .int .i64 zeroS.fmt, .int .i64 zeroS.num, .int .i64 zeroS.time, .int .i64 zeroS.mark, .int .i64 zeroS.id, .int .i64 zeroS.udp, .int .i64 zeroS.h.kind, .int .i64 zeroS.h.tos, .int .i64 zeroS.h.id, .int .i64 zeroS.h.fixed, .int .i64 zeroS.h.ttl, .int .i64 zeroS.h.frm, .int .i64 zeroS.h.to, .int .i64 zeroS.h.fromPort, .int .i64 zeroS.h.toPort, .int .i64 zeroS.h.check, .int .i64 zeroS.h.marker, .int .i64 zeroS.h.type, .int .i64 zeroS.h.seq, .int .i64 zeroS.h.time, .int .i64 zeroS.h.source, .int .i64 zeroS.ds, .int .i64 zeroS.df, .int .i64 zeroS.chk, .slice zeroS.pa zeroS.pn zeroS.pc]), .int .i64 e])) w' := by
  refine ⟨hb, ?_⟩
  rw [h.1, if_neg h.2]

/-- what Peek says without error -/
theorem peek_ok {zs : List Int} (h : (peekV zs).2.2 = 0) : (0 ≤ decX zs ∧ decX zs ≤ 15) ∧ (1 ≤ decF zs ∧ decF zs ≤ 6) ∧ (0 < decX zs → 2 ≤ zs.length) ∧ 1 ≤ zs.length := by
  have pa : ∀ c x : Int, (peekAt c x).2.2 = 0 → (peekAt c x).1 = x ∧ 1 ≤ (peekAt c x).2.1 ∧ (peekAt c x).2.1 ≤ 6 := by
    intro c x hh
    unfold peekAt at hh ⊢
    by_cases e : fmtOf c x = 0
    · rw [if_pos e] at hh; cases hh
    · rw [if_neg e]
      refine ⟨rfl, ?_⟩
      show 1 ≤ fmtOf c x ∧ fmtOf c x ≤ 6
      unfold fmtOf at e ⊢
      (repeat' split) <;> first | omega | (exfalso; apply e; simp_all)
  unfold decX decF
  unfold peekV at h ⊢
  by_cases h0 : zs.length = 0
  · rw [if_pos h0] at h; cases h
  · rw [if_neg h0] at h ⊢
    by_cases h1 : zs.getD 0 0 / 16 = 14
    · rw [if_pos h1] at h ⊢
      by_cases h2 : zs.length = 1
      · rw [if_pos h2] at h; cases h
      · rw [if_neg h2] at h ⊢
        by_cases h3 : zs.getD 0 0 % 16 = 0
        · rw [if_pos h3] at h; cases h
        · rw [if_neg h3] at h ⊢
          obtain ⟨a, b, d⟩ := pa _ _ h
          rw [a]
          exact ⟨by omega, ⟨b, d⟩, fun _ => by omega, by omega⟩
    · rw [if_neg h1] at h ⊢
      obtain ⟨a, b, d⟩ := pa _ _ h
      rw [a]
      exact ⟨by omega, ⟨b, d⟩, fun hh => by omega, by omega⟩
theorem kind_fk {zs : List Int} {f k : Int} (hf : 1 ≤ f ∧ f ≤ 6) (h : (kindV zs f k).2 = 0) : FK f (kindV zs f k).1 := by
  unfold kindV at h ⊢
  by_cases f6 : f = 6
  · rw [if_pos f6] at h ⊢; exact .inr ⟨f6, rfl⟩
  · rw [if_neg f6] at h ⊢
    by_cases f5 : f = 5
    · rw [if_pos f5] at h ⊢
      split at h
      · cases h
      · rename_i hl
        rw [if_neg hl]
        split at h
        · rename_i hz; rw [if_pos hz]; exact .inl ⟨by omega, hz⟩
        · cases h
    · rw [if_neg f5] at h ⊢
      split at h
      · rename_i hz; rw [if_pos hz]; exact .inl ⟨by omega, hz⟩
      · cases h

theorem decS_fits (kind : Int) (zs : List Int) (c : Bool) (a : Option Addr) (cap : Nat) (hz : Bytes (decR zs)) : (decS kind zs c a cap).h.Fits := by
  have q := rdS_fits (decX zs) (decF zs) (decK kind zs) (decR zs) hz
  have g := getB_fit hz (hlen (decF zs) (decK kind zs)) 2 (by omega)
  show (rdP (decX zs) (decF zs) (decK kind zs) (decR zs) c).h.Fits
  unfold rdP rdC
  split
  · split
    · exact ⟨q.kind, q.tos, q.id, q.fixed, q.ttl, q.frm, q.to, q.fromPort, q.toPort, g, q.marker, q.type, q.seq, q.time, q.source⟩
    · exact q
  · exact q
/-- the worlds of Decode: the result in R, the bytes -/
structure DeS (w W : World) (R : Nat) (pb : Option Addr) (nb : Nat) (zs : List Int) : Prop where
  r : Blk 28 W R #[.int .i64 0, .int .i64 0, .int .i64 0, .int .i64 0, .int .i64 0, .int .i64 0, .int .i64 0, .int .i64 0, .int .i64 0, .int .i64 0, .int .i64 0, .int .i64 0, .int .i64 0, .int .i64 0, .int .i64 0, .int .i64 0, .int .i64 0, .int .i64 0, .int .i64 0, .int .i64 0, .int .i64 0, .int .i64 0, .int .i64 0, .int .i64 0, .int .i64 0, .slice none 0 0]
  t : St W
  s : Sl .u8 W pb nb zs
  b : Below w.heap.size w W
theorem DeS.keep {w W W' : World} {R : Nat} {pb : Option Addr} {nb : Nat} {zs : List Int} (q : DeS w W R pb nb zs) (hb : Below W.heap.size W W') : DeS w W' R pb nb zs :=
  ⟨q.r.keep hb, q.t.keep hb, q.s.keep hb, q.b.trans (hb.mono q.b.size)⟩

set_option maxRecDepth 100000 in
set_option maxHeartbeats 6400000 in
theorem Decode_any (kind : Int) (pb : Option Addr) (nb capb : Nat) (zs : List Int) (c : Bool) (w : World) (sl : Sl .u8 w pb nb zs) (hcap : nb ≤ capb) (hnil : pb = none → capb = 0) (hs : St w) :
    Calls Tryd.prog 23 #[.slice pb nb capb, .int .i64 kind, .bool c] w (DecR kind zs c w) := by
  have hb0 := (Below.refl w.heap.size w).alloc (Nat.le_refl _) (.cells #[.int .i64 0, .int .i64 0, .int .i64 0, .int .i64 0, .int .i64 0, .int .i64 0, .int .i64 0, .int .i64 0, .int .i64 0, .int .i64 0, .int .i64 0, .int .i64 0, .int .i64 0, .int .i64 0, .int .i64 0, .int .i64 0, .int .i64 0, .int .i64 0, .int .i64 0, .int .i64 0, .int .i64 0, .int .i64 0, .int .i64 0, .int .i64 0, .int .i64 0, .slice none 0 0] 28)
  have Q0 : Hid (DeS w (w.alloc (.cells #[.int .i64 0, .int .i64 0, .int .i64 0, .int .i64 0, .int .i64 0, .int .i64 0, .int .i64 0, .int .i64 0, .int .i64 0, .int .i64 0, .int .i64 0, .int .i64 0, .int .i64 0, .int .i64 0, .int .i64 0, .int .i64 0, .int .i64 0, .int .i64 0, .int .i64 0, .int .i64 0, .int .i64 0, .int .i64 0, .int .i64 0, .int .i64 0, .int .i64 0, .slice none 0 0] 28)) w.heap.size pb nb zs) := Lib.hid ⟨heap_alloc_new w _, hs.keep hb0, sl.keep hb0, hb0⟩
  have hr := sl.reach
  have hzl := sl.len
  have HNI := Lib.hid hnil
  have hu8 := Lib.hid sl.u8
  have HPK := Lib.hid (fun h => peek_ok (zs := zs) h)
  have HX : Hid (decX zs = (peekV zs).1) := Lib.hid rfl
  have HF : Hid (decF zs = (peekV zs).2.1) := Lib.hid rfl
  clear sl hs hnil hb0
  go_enter Tryd.func23, Tryd.ntmps23
  go_wp2_with fail
  generalize w.alloc (.cells #[.int .i64 0, .int .i64 0, .int .i64 0, .int .i64 0, .int .i64 0, .int .i64 0, .int .i64 0, .int .i64 0, .int .i64 0, .int .i64 0, .int .i64 0, .int .i64 0, .int .i64 0, .int .i64 0, .int .i64 0, .int .i64 0, .int .i64 0, .int .i64 0, .int .i64 0, .int .i64 0, .int .i64 0, .int .i64 0, .int .i64 0, .int .i64 0, .int .i64 0, .slice none 0 0] 28) = W1 at Q0 ⊢
  refine (Peek_any pb nb capb zs W1 Q0.out.s hcap Q0.out.t).mono ?_
  rintro e w' ⟨rfl, m, rfl⟩
  have Q1 := Lib.hid (Q0.out.keep (below_drewN (Below.refl _ _) m))
  clear Q0
  generalize W1.drewN m = W2 at Q1 ⊢
  have HE0 : Hid ((peekV zs).2.2 ≠ 0 → decE kind zs c = (peekV zs).2.2 ∧ (peekV zs).2.2 ≠ 0) := Lib.hid (fun h => ⟨by unfold decE; rw [if_pos h], h⟩)
  rw [← HX.out, ← HF.out]
  generalize hpe : (peekV zs).2.2 = pe at HE0 HPK ⊢
  have HPE := Lib.hid hpe
  clear hpe HX HF
  by_cases he : pe = 0
  · have e1 : (pe != 0) = false := by simpa using he
    obtain ⟨hx, hf, hx2, hn1⟩ := HPK.out he
    clear HE0 HPK
    have HP0 : Hid ((peekV zs).2.2 = 0) := Lib.hid (HPE.out.trans he)
    clear he
    go_upto_if 26 with fail
    go_cut [11] (fun s11 wc => ∃ pr nr cr wx, s11 = .slice pr nr cr ∧ wx = wc ∧ Sl .u8 wx pr nr (decR zs) ∧ nr ≤ cr ∧ (pr = none → cr = 0) ∧ DeS w wx w.heap.size pb nb zs)
    case first =>
      by_cases h0 : 0 < decX zs
      · have hn2 := hx2 h0
        obtain ⟨b, off, rfl⟩ := Q1.out.s.head (by omega)
        have hcp : ¬ capb = 1 := by omega
        have h1n : (1 : Int) ≤ (nb : Int) := by omega
        have SR : Hid (Sl .u8 W2 (some ⟨b, off + 1, none⟩) (nb - 1) (decR zs)) := by
          refine Lib.hid ?_
          have q := Q1.out.s.sub 1 (nb - 1) (by omega)
          rw [List.take_of_length_le (by rw [List.length_drop]; omega)] at q
          unfold decR restL
          rw [if_pos h0]
          exact q
        go_wp2_with fail
        go_meet
        exact ⟨_, _, _, _, rfl, rfl, SR.out, by omega, (fun h => by cases h), Q1.out⟩
      · have SR : Hid (Sl .u8 W2 pb nb (decR zs)) := by
          refine Lib.hid ?_
          unfold decR restL
          rw [if_neg h0]
          exact Q1.out.s
        go_wp2_with fail
        go_meet
        exact ⟨_, _, _, _, rfl, rfl, SR.out, hcap, HNI.out, Q1.out⟩
    case rest =>
      obtain ⟨pr, nr, cr, W3, rfl, rfl, hsr, hncr, hnr, q3⟩ := hcut
      have Q3 := Lib.hid q3
      have SR := Lib.hid hsr
      have HNR := Lib.hid hnr
      have hrl := hsr.len
      have hrr := hsr.reach
      clear Q1 q3 hsr hnr
      have KO := Lib.hid (kindOf_any pr nr cr (decR zs) (decF zs) kind W3 SR.out)
      have HKF := Lib.hid (fun h => kind_fk (zs := decR zs) (k := kind) hf h)
      have HE1 : Hid ((kindV (decR zs) (decF zs) kind).2 ≠ 0 → decE kind zs c = (kindV (decR zs) (decF zs) kind).2 ∧ (kindV (decR zs) (decF zs) kind).2 ≠ 0) := Lib.hid (fun h => ⟨by unfold decE; rw [if_neg (by rw [HP0.out]; simp), if_pos h], h⟩)
      have HK : Hid (decK kind zs = (kindV (decR zs) (decF zs) kind).1) := Lib.hid rfl
      rw [← HK.out] at KO HKF
      generalize hke : (kindV (decR zs) (decF zs) kind).2 = ke at KO HKF HE1
      have HKE := Lib.hid hke
      clear hke
      go_wp2_with fail
      refine KO.out.mono ?_
      rintro e w' ⟨rfl, rfl⟩
      by_cases hk0 : ke = 0
      · have e2 : (ke != 0) = false := by simpa using hk0
        have FKK := Lib.hid (HKF.out hk0)
        have HP1 : Hid ((kindV (decR zs) (decF zs) kind).2 = 0) := Lib.hid (HKE.out.trans hk0)
        clear hk0 KO HKF HE1
        have RC : Hid (Calls Tryd.prog 53 #[.slice pr nr cr, .agg #[.int .i64 (decX zs), .int .i64 (decF zs), .int .i64 0, .int .i64 0, .int .i64 0, .int .i64 0, .int .i64 0, .int .i64 (decK kind zs), .int .i64 0, .int .i64 0, .int .i64 0, .int .i64 0, .int .i64 0, .int .i64 0, .int .i64 0, .int .i64 0, .int .i64 0, .int .i64 0, .int .i64 0, .int .i64 0, .int .i64 0, .int .i64 0, .int .i64 0, .int .i64 0, .int .i64 0, .slice none 0 0], .bool c] W3 (ReadR (decX zs) (decF zs) (decK kind zs) (decR zs) c W3)) := Lib.hid (read_any (kSm (decX zs) (decF zs) (decK kind zs)) pr nr cr (decR zs) c W3 FKK.out rfl SR.out hncr HNR.out Q3.out.t)
        go_wp2_with fail
        refine RC.out.mono ?_
        rintro e W5 ⟨hb5, hif⟩
        have Q5 := Lib.hid (Q3.out.keep hb5)
        clear hb5 RC
        by_cases hen : decD kind zs c ≤ (decR zs).length
        · obtain ⟨a5, c5, hn5, hm5, rfl⟩ := show ∃ a cap, (a = none → cap = 0) ∧ Mk .u8 5 W3.heap.size W5 (.slice a ((decR zs).length - decD kind zs c) cap) ((decR zs).length - decD kind zs c) ((decR zs).drop (decD kind zs c)) ∧ e = .returned (.tuple #[(.agg #[.int .i64 (decS kind zs c a cap).ctx, .int .i64 (decS kind zs c a cap).fmt, .int .i64 (decS kind zs c a cap).num, .int .i64 (decS kind zs c a cap).time, .int .i64 (decS kind zs c a cap).mark, .int .i64 (decS kind zs c a cap).id, .int .i64 (decS kind zs c a cap).udp, .int .i64 (decS kind zs c a cap).h.kind, .int .i64 (decS kind zs c a cap).h.tos, .int .i64 (decS kind zs c a cap).h.id, .int .i64 (decS kind zs c a cap).h.fixed, .int .i64 (decS kind zs c a cap).h.ttl, .int .i64 (decS kind zs c a cap).h.frm, .int .i64 (decS kind zs c a cap).h.to, .int .i64 (decS kind zs c a cap).h.fromPort, .int .i64 (decS kind zs c a cap).h.toPort, .int .i64 (decS kind zs c a cap).h.check, .int .i64 (decS kind zs c a cap).h.marker, .int .i64 (decS kind zs c a cap).h.type, .int .i64 (decS kind zs c a cap).h.seq, .int .i64 (decS kind zs c a cap).h.time, .int .i64 (decS kind zs c a cap).h.source, .int .i64 (decS kind zs c a cap).ds, .int .i64 (decS kind zs c a cap).df, .int .i64 (decS kind zs c a cap).chk, .slice (decS kind zs c a cap).pa (decS kind zs c a cap).pn (decS kind zs c a cap).pc]), .int .i64 0]) from by
            have h := hif
            rw [if_pos (show endL (decF zs) (decK kind zs) (decR zs) c ≤ (decR zs).length from hen)] at h
            exact h
          clear hif
          have M5 := Lib.hid (hm5.mono Q3.out.b.size)
          have N5 := Lib.hid hn5
          have HGE : Hid (∀ x, a5 = some x → w.heap.size < x.block) := Lib.hid (fun x e => by
            have h1 := (hm5.own_ge x.block (by rw [e]; rfl)).1
            have h2 : w.heap.size < W3.heap.size := Q3.out.r.lt
            omega)
          have HFT := Lib.hid (decS_fits kind zs c a5 c5 SR.out.u8)
          have HIN : Hid ((decS kind zs c a5 c5).In W5) := Lib.hid ⟨hm5.sl, hn5, by
            have h := hm5.own.2
            rcases h with ⟨h1, h2⟩ | ⟨g9, cap9, cur9, h1, _, _, h2, _⟩
            · simp at h1; show (decR zs).length - decD kind zs c ≤ c5; omega
            · simp only [Value.slice.injEq] at h1; show (decR zs).length - decD kind zs c ≤ c5; omega⟩
          have HB5 : Hid (smB (decS kind zs c a5 c5) = smB (decS kind zs c none 0)) := Lib.hid rfl
          have HL5 : Hid (encL (decS kind zs c a5 c5) = encL (decS kind zs c none 0)) := Lib.hid rfl
          have HSS : Hid (decS kind zs c a5 c5 = decS kind zs c a5 c5) := Lib.hid rfl
          have HE2 : Hid (decE kind zs c = if smB (decS kind zs c none 0) = true ∧ encL (decS kind zs c none 0) = zs then 0 else 4) := Lib.hid (by unfold decE; rw [if_neg (by rw [HP0.out]; simp), if_neg (by rw [HP1.out]; simp), if_neg (by simpa using hen)])
          have HPZ : Hid ((decS kind zs c none 0).pn = (decR zs).length - decD kind zs c ∧ (decS kind zs c none 0).pz = (decR zs).drop (decD kind zs c)) := Lib.hid ⟨rfl, rfl⟩
          clear hm5 hn5 hen
          generalize hS5 : decS kind zs c a5 c5 = S5 at HFT HIN HB5 HL5 ⊢
          have HS5 := Lib.hid hS5
          clear hS5 HSS
          dsimp only
          refine ‹∀ (a : Act) (w : World), wpList _ _ _ _ a w → _› _ _ ?_
          refine wpList_run (.tuple #[(.agg #[.int .i64 S5.ctx, .int .i64 S5.fmt, .int .i64 S5.num, .int .i64 S5.time, .int .i64 S5.mark, .int .i64 S5.id, .int .i64 S5.udp, .int .i64 S5.h.kind, .int .i64 S5.h.tos, .int .i64 S5.h.id, .int .i64 S5.h.fixed, .int .i64 S5.h.ttl, .int .i64 S5.h.frm, .int .i64 S5.h.to, .int .i64 S5.h.fromPort, .int .i64 S5.h.toPort, .int .i64 S5.h.check, .int .i64 S5.h.marker, .int .i64 S5.h.type, .int .i64 S5.h.seq, .int .i64 S5.h.time, .int .i64 S5.h.source, .int .i64 S5.ds, .int .i64 S5.df, .int .i64 S5.chk, .slice S5.pa S5.pn S5.pc]), .int .i64 0]) W5 rfl (by kernel_rfl) ?_
          refine wpList_run (.agg #[.int .i64 S5.ctx, .int .i64 S5.fmt, .int .i64 S5.num, .int .i64 S5.time, .int .i64 S5.mark, .int .i64 S5.id, .int .i64 S5.udp, .int .i64 S5.h.kind, .int .i64 S5.h.tos, .int .i64 S5.h.id, .int .i64 S5.h.fixed, .int .i64 S5.h.ttl, .int .i64 S5.h.frm, .int .i64 S5.h.to, .int .i64 S5.h.fromPort, .int .i64 S5.h.toPort, .int .i64 S5.h.check, .int .i64 S5.h.marker, .int .i64 S5.h.type, .int .i64 S5.h.seq, .int .i64 S5.h.time, .int .i64 S5.h.source, .int .i64 S5.ds, .int .i64 S5.df, .int .i64 S5.chk, .slice S5.pa S5.pn S5.pc]) W5 rfl (by kernel_rfl) ?_
          refine wpList_run (.int .i64 0) W5 rfl (by kernel_rfl) ?_
          refine wpList_run (.pointer (some ⟨W5.heap.size, 0, none⟩)) (W5.alloc (.cells #[.int .i64 0, .int .i64 0, .int .i64 0, .int .i64 0, .int .i64 0, .int .i64 0, .int .i64 0, .int .i64 0, .int .i64 0, .int .i64 0, .int .i64 0, .int .i64 0, .int .i64 0, .int .i64 0, .int .i64 0, .int .i64 0, .int .i64 0, .int .i64 0, .int .i64 0, .int .i64 0, .int .i64 0, .int .i64 0, .int .i64 0, .int .i64 0, .int .i64 0, .slice none 0 0] 28)) rfl (by kernel_rfl) ?_
          refine wpList_store_blk (n := 26) rfl rfl _ _ rfl rfl rfl (heap_alloc_new W5 _) rfl rfl info_sm (by simp [Value.oneCell']) ?_
          intro W6 K6 G6
          refine wpList_run (.int .i64 0) W6 rfl (by kernel_rfl) ?_
          simp only [Act.put, List.setIfInBounds_toArray, List.set_cons_zero, List.set_cons_succ]
          have b6 : Below W5.heap.size W5 W6 := ((Below.refl W5.heap.size W5).alloc (Nat.le_refl _) _).trans (Below.of_row G6 (fun g e => by rw [← Option.some.inj e]; exact Nat.le_refl _) (by simp))
          have Q6 := Lib.hid (Q5.out.keep b6)
          have hPR : w.heap.size < W5.heap.size := Q5.out.r.lt
          have P6 : Hid (Blk 28 W6 W5.heap.size #[.int .i64 S5.ctx, .int .i64 S5.fmt, .int .i64 S5.num, .int .i64 S5.time, .int .i64 S5.mark, .int .i64 S5.id, .int .i64 S5.udp, .int .i64 S5.h.kind, .int .i64 S5.h.tos, .int .i64 S5.h.id, .int .i64 S5.h.fixed, .int .i64 S5.h.ttl, .int .i64 S5.h.frm, .int .i64 S5.h.to, .int .i64 S5.h.fromPort, .int .i64 S5.h.toPort, .int .i64 S5.h.check, .int .i64 S5.h.marker, .int .i64 S5.h.type, .int .i64 S5.h.seq, .int .i64 S5.h.time, .int .i64 S5.h.source, .int .i64 S5.ds, .int .i64 S5.df, .int .i64 S5.chk, .slice S5.pa S5.pn S5.pc]) := Lib.hid K6
          have HIN6 : Hid (S5.In W6) := Lib.hid (HIN.out.keep b6)
          have M6 := Lib.hid (M5.out.keep b6)
          clear K6 G6 b6
          generalize W5.heap.size = P at hPR P6 ⊢
          go_upto_region 13 with fail
          refine wp_region_lit ?_
          refine wpList_load_sm P6.out rfl _ rfl rfl ?_
          go_wp2_with fail
          by_cases hv : smB S5 = true
          · have EO := Lib.hid (enc_ok S5 W6 HFT.out hv Q6.out.t HIN6.out)
            refine EO.out.mono ?_
            rintro e W7 ⟨a7, n7, c7, rfl, hn7, hm7, hb7⟩
            have Q7 := Lib.hid (Q6.out.keep hb7)
            have P7 := Lib.hid (P6.out.keep hb7)
            have M7 := Lib.hid (M6.out.keep hb7)
            have EQ := Lib.hid (equal_any a7 pb n7 c7 nb capb (encL S5) zs W7 hm7.sl Q7.out.s)
            clear hn7 hm7 hb7 EO Q6 P6
            by_cases heq : encL S5 = zs
            · have HEE : Hid (decE kind zs c = 0) := Lib.hid (by rw [HE2.out, if_pos ⟨HB5.out.symm.trans hv, HL5.out.symm.trans heq⟩])
              rw [decide_eq_true heq] at EQ
              clear heq hv
              go_upto_region 16 with (first | (go_at_call 54; ((with_reducible refine EQ.out.mono ?_); rintro e w' ⟨rfl, rfl⟩)) | fail)
              refine wp_region_lit ?_
              refine wpList_load_sm P7.out rfl _ rfl rfl ?_
              refine wpList_store_blk (n := 26) rfl rfl _ _ rfl rfl rfl Q7.out.r rfl rfl info_sm (by simp [Value.oneCell']) ?_
              intro W9 K9 G9
              simp only [Act.put, List.setIfInBounds_toArray, List.set_cons_zero, List.set_cons_succ]
              have B9 := Lib.hid (Q7.out.b.trans (Below.of_row G9 (fun g e => by rw [← Option.some.inj e]; exact Nat.le_refl _) Q7.out.b.size))
              have M9 := Lib.hid (M7.out.keepRow G9 (by
                cases a5 with
                | none => exact .inl rfl
                | some x => exact .inr (fun e => by have h1 := (HGE.out x rfl); have h2 : x.block = w.heap.size := Option.some.inj e; omega)))
              have KK9 := Lib.hid K9
              clear K9 G9
              go_wp2_with fail
              refine bodyPost_ret (results_sm Tryd.results23 _ _ _ _ rfl KK9.out rfl) rfl ?_
              refine ⟨B9.out, ?_⟩
              rw [HEE.out, if_pos rfl]
              refine ⟨a5, c5, N5.out, ?_, ?_⟩
              · rw [HPZ.out.1, HPZ.out.2]; exact M9.out
              · rw [HS5.out]; rfl
            · have HEE : Hid (decE kind zs c = 4 ∧ (4 : Int) ≠ 0) := Lib.hid ⟨by rw [HE2.out, if_neg (fun h => heq (HL5.out.trans h.2))], by decide⟩
              rw [decide_eq_false heq] at EQ
              clear heq hv
              go_upto_region 15 with (first | (go_at_call 54; ((with_reducible refine EQ.out.mono ?_); rintro e w' ⟨rfl, rfl⟩)) | fail)
              refine wp_region_lit ?_
              refine wpList_run (.agg #[.int .i64 zeroS.ctx, .int .i64 zeroS.fmt, .int .i64 zeroS.num, .int .i64 zeroS.time, .int .i64 zeroS.mark, .int .i64 zeroS.id, .int .i64 zeroS.udp, .int .i64 zeroS.h.kind, .int .i64 zeroS.h.tos, .int .i64 zeroS.h.id, .int .i64 zeroS.h.fixed, .int .i64 zeroS.h.ttl, .int .i64 zeroS.h.frm, .int .i64 zeroS.h.to, .int .i64 zeroS.h.fromPort, .int .i64 zeroS.h.toPort, .int .i64 zeroS.h.check, .int .i64 zeroS.h.marker, .int .i64 zeroS.h.type, .int .i64 zeroS.h.seq, .int .i64 zeroS.h.time, .int .i64 zeroS.h.source, .int .i64 zeroS.ds, .int .i64 zeroS.df, .int .i64 zeroS.chk, .slice zeroS.pa zeroS.pn zeroS.pc]) W7 rfl (by kernel_rfl) ?_
              refine wpList_store_blk (n := 26) rfl rfl _ _ rfl rfl rfl Q7.out.r rfl rfl info_sm (by simp [Value.oneCell']) ?_
              intro WZ KZ GZ
              simp only [Act.put, List.setIfInBounds_toArray, List.set_cons_zero, List.set_cons_succ]
              have BZ := Lib.hid (Q7.out.b.trans (Below.of_row GZ (fun g e => by rw [← Option.some.inj e]; exact Nat.le_refl _) Q7.out.b.size))
              have KKZ := Lib.hid KZ
              clear KZ GZ
              go_wp2_with fail
              refine bodyPost_ret (results_sm Tryd.results23 _ _ _ _ rfl KKZ.out rfl) rfl ?_
              exact decR_err BZ.out (HEE.out)
          · have hv : smB S5 = false := by simpa using hv
            have EN := Lib.hid (enc_no S5 W6 HFT.out hv)
            have HEE : Hid (decE kind zs c = 4 ∧ (4 : Int) ≠ 0) := Lib.hid ⟨by rw [HE2.out, if_neg (fun h => by rw [← HB5.out, hv] at h; cases h.1)], by decide⟩
            clear hv
            refine EN.out.mono ?_
            rintro e W7 ⟨rfl, hb7⟩
            have Q7 := Lib.hid (Q6.out.keep hb7)
            clear hb7 Q6 EN
            go_upto_region 15 with fail
            refine wp_region_lit ?_
            refine wpList_run (.agg #[.int .i64 zeroS.ctx, .int .i64 zeroS.fmt, .int .i64 zeroS.num, .int .i64 zeroS.time, .int .i64 zeroS.mark, .int .i64 zeroS.id, .int .i64 zeroS.udp, .int .i64 zeroS.h.kind, .int .i64 zeroS.h.tos, .int .i64 zeroS.h.id, .int .i64 zeroS.h.fixed, .int .i64 zeroS.h.ttl, .int .i64 zeroS.h.frm, .int .i64 zeroS.h.to, .int .i64 zeroS.h.fromPort, .int .i64 zeroS.h.toPort, .int .i64 zeroS.h.check, .int .i64 zeroS.h.marker, .int .i64 zeroS.h.type, .int .i64 zeroS.h.seq, .int .i64 zeroS.h.time, .int .i64 zeroS.h.source, .int .i64 zeroS.ds, .int .i64 zeroS.df, .int .i64 zeroS.chk, .slice zeroS.pa zeroS.pn zeroS.pc]) W7 rfl (by kernel_rfl) ?_
            refine wpList_store_blk (n := 26) rfl rfl _ _ rfl rfl rfl Q7.out.r rfl rfl info_sm (by simp [Value.oneCell']) ?_
            intro WZ KZ GZ
            simp only [Act.put, List.setIfInBounds_toArray, List.set_cons_zero, List.set_cons_succ]
            have BZ := Lib.hid (Q7.out.b.trans (Below.of_row GZ (fun g e => by rw [← Option.some.inj e]; exact Nat.le_refl _) Q7.out.b.size))
            have KKZ := Lib.hid KZ
            clear KZ GZ
            go_wp2_with fail
            refine bodyPost_ret (results_sm Tryd.results23 _ _ _ _ rfl KKZ.out rfl) rfl ?_
            exact decR_err BZ.out (HEE.out)
        · have hif2 : e = .returned (.tuple #[(.agg #[.int .i64 zeroS.ctx, .int .i64 zeroS.fmt, .int .i64 zeroS.num, .int .i64 zeroS.time, .int .i64 zeroS.mark, .int .i64 zeroS.id, .int .i64 zeroS.udp, .int .i64 zeroS.h.kind, .int .i64 zeroS.h.tos, .int .i64 zeroS.h.id, .int .i64 zeroS.h.fixed, .int .i64 zeroS.h.ttl, .int .i64 zeroS.h.frm, .int .i64 zeroS.h.to, .int .i64 zeroS.h.fromPort, .int .i64 zeroS.h.toPort, .int .i64 zeroS.h.check, .int .i64 zeroS.h.marker, .int .i64 zeroS.h.type, .int .i64 zeroS.h.seq, .int .i64 zeroS.h.time, .int .i64 zeroS.h.source, .int .i64 zeroS.ds, .int .i64 zeroS.df, .int .i64 zeroS.chk, .slice zeroS.pa zeroS.pn zeroS.pc]), .int .i64 5]) := by
            have h := hif
            rw [if_neg (show ¬ endL (decF zs) (decK kind zs) (decR zs) c ≤ (decR zs).length from hen)] at h
            exact h
          subst hif2
          clear hif
          have HEE : Hid (decE kind zs c = 5 ∧ (5 : Int) ≠ 0) := Lib.hid ⟨by unfold decE; rw [if_neg (by rw [HP0.out]; simp), if_neg (by rw [HP1.out]; simp), if_pos hen], by decide⟩
          clear hen
          dsimp only
          refine ‹∀ (a : Act) (w : World), wpList _ _ _ _ a w → _› _ _ ?_
          refine wpList_run (.tuple #[(.agg #[.int .i64 zeroS.ctx, .int .i64 zeroS.fmt, .int .i64 zeroS.num, .int .i64 zeroS.time, .int .i64 zeroS.mark, .int .i64 zeroS.id, .int .i64 zeroS.udp, .int .i64 zeroS.h.kind, .int .i64 zeroS.h.tos, .int .i64 zeroS.h.id, .int .i64 zeroS.h.fixed, .int .i64 zeroS.h.ttl, .int .i64 zeroS.h.frm, .int .i64 zeroS.h.to, .int .i64 zeroS.h.fromPort, .int .i64 zeroS.h.toPort, .int .i64 zeroS.h.check, .int .i64 zeroS.h.marker, .int .i64 zeroS.h.type, .int .i64 zeroS.h.seq, .int .i64 zeroS.h.time, .int .i64 zeroS.h.source, .int .i64 zeroS.ds, .int .i64 zeroS.df, .int .i64 zeroS.chk, .slice zeroS.pa zeroS.pn zeroS.pc]), .int .i64 5]) W5 rfl (by kernel_rfl) ?_
          refine wpList_run (.agg #[.int .i64 zeroS.ctx, .int .i64 zeroS.fmt, .int .i64 zeroS.num, .int .i64 zeroS.time, .int .i64 zeroS.mark, .int .i64 zeroS.id, .int .i64 zeroS.udp, .int .i64 zeroS.h.kind, .int .i64 zeroS.h.tos, .int .i64 zeroS.h.id, .int .i64 zeroS.h.fixed, .int .i64 zeroS.h.ttl, .int .i64 zeroS.h.frm, .int .i64 zeroS.h.to, .int .i64 zeroS.h.fromPort, .int .i64 zeroS.h.toPort, .int .i64 zeroS.h.check, .int .i64 zeroS.h.marker, .int .i64 zeroS.h.type, .int .i64 zeroS.h.seq, .int .i64 zeroS.h.time, .int .i64 zeroS.h.source, .int .i64 zeroS.ds, .int .i64 zeroS.df, .int .i64 zeroS.chk, .slice zeroS.pa zeroS.pn zeroS.pc]) W5 rfl (by kernel_rfl) ?_
          refine wpList_run (.int .i64 5) W5 rfl (by kernel_rfl) ?_
          refine wpList_run (.pointer (some ⟨W5.heap.size, 0, none⟩)) (W5.alloc (.cells #[.int .i64 0, .int .i64 0, .int .i64 0, .int .i64 0, .int .i64 0, .int .i64 0, .int .i64 0, .int .i64 0, .int .i64 0, .int .i64 0, .int .i64 0, .int .i64 0, .int .i64 0, .int .i64 0, .int .i64 0, .int .i64 0, .int .i64 0, .int .i64 0, .int .i64 0, .int .i64 0, .int .i64 0, .int .i64 0, .int .i64 0, .int .i64 0, .int .i64 0, .slice none 0 0] 28)) rfl (by kernel_rfl) ?_
          refine wpList_store_blk (n := 26) rfl rfl _ _ rfl rfl rfl (heap_alloc_new W5 _) rfl rfl info_sm (by simp [Value.oneCell']) ?_
          intro W6 K6 G6
          refine wpList_run (.int .i64 5) W6 rfl (by kernel_rfl) ?_
          simp only [Act.put, List.setIfInBounds_toArray, List.set_cons_zero, List.set_cons_succ]
          have b6 : Below W5.heap.size W5 W6 := ((Below.refl W5.heap.size W5).alloc (Nat.le_refl _) _).trans (Below.of_row G6 (fun g e => by rw [← Option.some.inj e]; exact Nat.le_refl _) (by simp))
          have Q6 := Lib.hid (Q5.out.keep b6)
          clear K6 G6 b6
          go_upto_region 12 with fail
          refine wp_region_lit ?_
          refine wpList_run (.agg #[.int .i64 zeroS.ctx, .int .i64 zeroS.fmt, .int .i64 zeroS.num, .int .i64 zeroS.time, .int .i64 zeroS.mark, .int .i64 zeroS.id, .int .i64 zeroS.udp, .int .i64 zeroS.h.kind, .int .i64 zeroS.h.tos, .int .i64 zeroS.h.id, .int .i64 zeroS.h.fixed, .int .i64 zeroS.h.ttl, .int .i64 zeroS.h.frm, .int .i64 zeroS.h.to, .int .i64 zeroS.h.fromPort, .int .i64 zeroS.h.toPort, .int .i64 zeroS.h.check, .int .i64 zeroS.h.marker, .int .i64 zeroS.h.type, .int .i64 zeroS.h.seq, .int .i64 zeroS.h.time, .int .i64 zeroS.h.source, .int .i64 zeroS.ds, .int .i64 zeroS.df, .int .i64 zeroS.chk, .slice zeroS.pa zeroS.pn zeroS.pc]) W6 rfl (by kernel_rfl) ?_
          refine wpList_run (.int .i64 5) W6 rfl (by kernel_rfl) ?_
          refine wpList_store_blk (n := 26) rfl rfl _ _ rfl rfl rfl Q6.out.r rfl rfl info_sm (by simp [Value.oneCell']) ?_
          intro WZ KZ GZ
          simp only [Act.put, List.setIfInBounds_toArray, List.set_cons_zero, List.set_cons_succ]
          have BZ := Lib.hid (Q6.out.b.trans (Below.of_row GZ (fun g e => by rw [← Option.some.inj e]; exact Nat.le_refl _) Q6.out.b.size))
          have KKZ := Lib.hid KZ
          clear KZ GZ
          go_wp2_with fail
          refine bodyPost_ret (results_sm Tryd.results23 _ _ _ _ rfl KKZ.out rfl) rfl ?_
          exact decR_err BZ.out (HEE.out)
      · have e2 : (ke != 0) = true := by simpa using hk0
        have HEE := Lib.hid (HE1.out hk0)
        clear hk0 KO HKF HE1
        go_upto_region 9 with fail
        refine wp_region_lit ?_
        refine wpList_run (.agg #[.int .i64 zeroS.ctx, .int .i64 zeroS.fmt, .int .i64 zeroS.num, .int .i64 zeroS.time, .int .i64 zeroS.mark, .int .i64 zeroS.id, .int .i64 zeroS.udp, .int .i64 zeroS.h.kind, .int .i64 zeroS.h.tos, .int .i64 zeroS.h.id, .int .i64 zeroS.h.fixed, .int .i64 zeroS.h.ttl, .int .i64 zeroS.h.frm, .int .i64 zeroS.h.to, .int .i64 zeroS.h.fromPort, .int .i64 zeroS.h.toPort, .int .i64 zeroS.h.check, .int .i64 zeroS.h.marker, .int .i64 zeroS.h.type, .int .i64 zeroS.h.seq, .int .i64 zeroS.h.time, .int .i64 zeroS.h.source, .int .i64 zeroS.ds, .int .i64 zeroS.df, .int .i64 zeroS.chk, .slice zeroS.pa zeroS.pn zeroS.pc]) W3 rfl (by kernel_rfl) ?_
        refine wpList_run (.int .i64 ke) W3 rfl (by kernel_rfl) ?_
        refine wpList_store_blk (n := 26) rfl rfl _ _ rfl rfl rfl Q3.out.r rfl rfl info_sm (by simp [Value.oneCell']) ?_
        intro WZ KZ GZ
        simp only [Act.put, List.setIfInBounds_toArray, List.set_cons_zero, List.set_cons_succ]
        have BZ := Lib.hid (Q3.out.b.trans (Below.of_row GZ (fun g e => by rw [← Option.some.inj e]; exact Nat.le_refl _) Q3.out.b.size))
        have KKZ := Lib.hid KZ
        clear KZ GZ
        go_wp2_with fail
        refine bodyPost_ret (results_sm Tryd.results23 _ _ _ _ rfl KKZ.out rfl) rfl ?_
        exact decR_err BZ.out (HEE.out)
  · have e1 : (pe != 0) = true := by simpa using he
    have HEE := Lib.hid (HE0.out he)
    clear he HE0 HPK
    go_upto_region 3 with fail
    refine wp_region_lit ?_
    refine wpList_run (.agg #[.int .i64 zeroS.ctx, .int .i64 zeroS.fmt, .int .i64 zeroS.num, .int .i64 zeroS.time, .int .i64 zeroS.mark, .int .i64 zeroS.id, .int .i64 zeroS.udp, .int .i64 zeroS.h.kind, .int .i64 zeroS.h.tos, .int .i64 zeroS.h.id, .int .i64 zeroS.h.fixed, .int .i64 zeroS.h.ttl, .int .i64 zeroS.h.frm, .int .i64 zeroS.h.to, .int .i64 zeroS.h.fromPort, .int .i64 zeroS.h.toPort, .int .i64 zeroS.h.check, .int .i64 zeroS.h.marker, .int .i64 zeroS.h.type, .int .i64 zeroS.h.seq, .int .i64 zeroS.h.time, .int .i64 zeroS.h.source, .int .i64 zeroS.ds, .int .i64 zeroS.df, .int .i64 zeroS.chk, .slice zeroS.pa zeroS.pn zeroS.pc]) W2 rfl (by kernel_rfl) ?_
    refine wpList_run (.int .i64 pe) W2 rfl (by kernel_rfl) ?_
    refine wpList_store_blk (n := 26) rfl rfl _ _ rfl rfl rfl Q1.out.r rfl rfl info_sm (by simp [Value.oneCell']) ?_
    intro WZ KZ GZ
    simp only [Act.put, List.setIfInBounds_toArray, List.set_cons_zero, List.set_cons_succ]
    have BZ := Lib.hid (Q1.out.b.trans (Below.of_row GZ (fun g e => by rw [← Option.some.inj e]; exact Nat.le_refl _) Q1.out.b.size))
    have KKZ := Lib.hid KZ
    clear KZ GZ
    go_wp2_with fail
    refine bodyPost_ret (results_sm Tryd.results23 _ _ _ _ rfl KKZ.out rfl) rfl ?_
    exact decR_err BZ.out (HEE.out)
end Go.Proofs.YtkhcfmnebflgkaaDoor
