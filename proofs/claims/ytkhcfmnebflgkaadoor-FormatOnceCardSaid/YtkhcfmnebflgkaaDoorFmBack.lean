/-
  What is encoded is decoded (layer 8), plainly.
-/
import Derived.Test.YtkhcfmnebflgkaaDoorFmDecP
namespace Go.Proofs.YtkhcfmnebflgkaaDoor
open Go Go.RowKit

/-- the first byte of a format -/
theorem encH_first {s : Sm} (v : OkS s) : ∃ c r, encH s = c :: r ∧ 0 ≤ c ∧ c ≤ 210 ∧ fmtOf c s.ctx = s.fmt := by
  unfold encH
  rcases v.arm with ⟨f, k, b⟩ | ⟨f, b⟩ | ⟨f, b⟩
  · have hf := v.fmt
    have e1 := b.num
    have e3 := b.mark
    have e5 := b.chk
    rcases (show s.fmt = 1 ∨ s.fmt = 2 ∨ s.fmt = 3 by omega) with e | e | e <;> rcases k with k | k <;> rw [e, k] at e1 e3 <;> rw [e] at e5 <;> simp only [smNumM, smMarkM, smChkM] at e1 e3 e5 <;> simp at e1 e3 e5
    · exact ⟨8 * s.num + s.chk, [], by rw [if_pos e], by omega, by omega, by rw [e]; unfold fmtOf; rw [if_pos (by omega)]⟩
    · exact ⟨8 * s.num + s.chk, [], by rw [if_pos e], by omega, by omega, by rw [e]; unfold fmtOf; rw [if_pos (by omega)]⟩
    · exact ⟨128 + 32 * s.mark + s.num, [s.chk], by rw [if_neg (by omega), if_pos e, if_neg (by omega)]; rfl, by omega, by omega, by rw [e]; unfold fmtOf; rw [if_neg (by omega), if_pos (by omega)]⟩
    · exact ⟨128 + 32 * s.mark + s.num, putB 2 s.time 2 ++ [s.chk], by rw [if_neg (by omega), if_pos e, if_pos k]; rfl, by omega, by omega, by rw [e]; unfold fmtOf; rw [if_neg (by omega), if_pos (by omega)]⟩
    · exact ⟨192 + s.mark, putB 2 s.num 2 ++ [s.chk], by rw [if_neg (by omega), if_neg (by omega), if_pos e, if_neg (by omega)]; rfl, by omega, by omega, by rw [e]; unfold fmtOf; rw [if_neg (by omega), if_neg (by omega)]; by_cases m : s.mark = 0 <;> simp [m] <;> omega⟩
    · exact ⟨192 + s.mark, (putB 1 s.num 1 ++ putB 4 s.time 4 ++ putB 2 s.id 2) ++ [s.chk], by rw [if_neg (by omega), if_neg (by omega), if_pos e, if_pos k]; rfl, by omega, by omega, by rw [e]; unfold fmtOf; rw [if_neg (by omega), if_neg (by omega)]; by_cases m : s.mark = 0 <;> simp [m] <;> omega⟩
  · rcases f with e | e
    · exact ⟨208, dynL s ++ [s.chk], by rw [if_neg (by omega), if_neg (by omega), if_neg (by omega), if_pos e]; rfl, by omega, by omega, by rw [e]; rfl⟩
    · exact ⟨209, _, by rw [if_neg (by omega), if_neg (by omega), if_neg (by omega), if_neg (by omega), if_pos e]; rfl, by omega, by omega, by rw [e]; rfl⟩
  · exact ⟨210, [], by rw [if_neg (by omega), if_neg (by omega), if_neg (by omega), if_neg (by omega), if_neg (by omega)], by omega, by omega, by rw [f, b.ctx]; rfl⟩
/-- Peek says what was encoded -/
theorem peek_enc {s : Sm} (v : OkS s) : peekV (encL s) = (s.ctx, s.fmt, 0) := by
  obtain ⟨c, r, he, c0, c1, hf⟩ := encH_first v
  have hc := v.ctx
  have hfm := v.fmt
  have at1 : peekAt c s.ctx = (s.ctx, s.fmt, 0) := by unfold peekAt; rw [hf, if_neg (by omega)]
  unfold peekV encL ctxL
  rw [he]
  by_cases h0 : 0 < s.ctx
  · rw [if_pos h0]
    simp only [List.cons_append, List.nil_append, List.length_cons, List.getD_cons_zero, List.getD_cons_succ]
    rw [if_neg (by omega), if_pos (by omega), if_neg (by omega), if_neg (by omega), show (224 + s.ctx) % 16 = s.ctx by omega, at1]
  · have hz : s.ctx = 0 := by omega
    rw [if_neg h0]
    simp only [List.cons_append, List.nil_append, List.length_cons, List.getD_cons_zero]
    rw [hz] at at1
    rw [if_neg (by omega), if_neg (by omega), at1, hz]
theorem decR_enc {s : Sm} (v : OkS s) : decR (encL s) = encH s ++ ckL s ++ s.pz := by
  unfold decR decX restL
  rw [peek_enc v]
  unfold encL ctxL
  by_cases h0 : 0 < s.ctx
  · rw [if_pos h0, if_pos h0]; simp
  · rw [if_neg h0, if_neg h0]; simp
/-- the parts without checksum and payload -/
def bareS (s : Sm) : Sm := { s with udp := 0, h := { s.h with check := 0 }, pa := none, pn := 0, pc := 0, pz := [] }
set_option maxHeartbeats 6400000 in
theorem rdS_low {s : Sm} (v : OkS s) (f : s.fmt ≤ 3) (T : List Int) : rdS s.ctx s.fmt s.h.kind (encH s ++ T) = bareS s := by
  have hf := v.fmt
  rcases v.arm with ⟨_, k, b⟩ | ⟨f', b⟩ | ⟨f', b⟩
  · have e1 := b.num
    have e2 := b.time
    have e3 := b.mark
    have e4 := b.id
    have e5 := b.chk
    have eh := b.head
    have d1 := b.ds
    have d2 := b.df
    clear v b
    obtain ⟨ctx, fmt, num, time, mark, id, udp, h, ds, df, chk, pa, pn, pc, pz⟩ := s
    simp only at *
    rw [eh] at *
    generalize h.kind = kd at *
    subst d1; subst d2
    simp only [kindH] at *
    rcases (show fmt = 1 ∨ fmt = 2 ∨ fmt = 3 by omega) with rfl | rfl | rfl <;> rcases k with rfl | rfl <;> simp [smNumM, smTimeM, smMarkM, smIdM, smChkM] at e1 e2 e3 e4 e5 <;>
      simp [bareS, rdS, rdS_1_1, rdS_1_2, rdS_2_1, rdS_2_2, rdS_3_1, rdS_3_2, encH, putB1, putB2, putB4, getB] <;> omega
  · omega
  · omega
set_option maxRecDepth 100000 in
set_option maxHeartbeats 12800000 in
theorem rdS_big {s : Sm} (v : OkS s) (f : s.fmt = 4 ∨ s.fmt = 5) (T : List Int) : rdS s.ctx s.fmt s.h.kind (encH s ++ T) = bareS s ∧ ckF s.fmt s.h.kind (encH s ++ T) = (if s.h.check = 0 then 0 else 1) := by
  rcases v.arm with ⟨f', _⟩ | ⟨_, b⟩ | ⟨f', b⟩
  · omega
  · obtain ⟨a, r⟩ := b.head
    have e1 := b.ds
    have e2 := b.df
    have e3 := b.one
    have e4 := b.chk
    have n1 := b.num
    have n2 := b.time
    have n3 := b.mark
    have n4 := b.id
    have n5 := b.udp
    have st := b.stat
    obtain ⟨a1, a2, a3, a4, a5, a6, a7, a8, a9, a10, a11, a12, a13, a14, a15, a16, a17, a18⟩ := a
    clear v b
    obtain ⟨ctx, fmt, num, time, mark, id, udp, ⟨kind, tos, hid, fixed, ttl, frm, too, fromPort, toPort, check, marker, type, seq, htime, source⟩, ds, df, chk, pa, pn, pc, pz⟩ := s
    simp only at *
    subst n1; subst n2; subst n3; subst n4; subst n5
    rcases r with ⟨k, r⟩ | ⟨k, r⟩
    · obtain ⟨r1, r2, r3, r4, r5⟩ := r
      simp only at *
      subst k
      obtain ⟨q1, q2⟩ := e3 rfl
      subst r1; subst r2; subst r3; subst r4; subst r5; subst q1; subst q2
      rcases f with rfl | rfl
      · have t := st rfl
        simp [statH, kindH] at t
        by_cases hc : check = 0 <;> simp [bareS, rdS, rdS_4_1, encH, dynL, flagV, putB2, getB, ckF, hc, t] <;> omega
      · by_cases hc : check = 0 <;> simp [bareS, rdS, rdS_5_1, encH, dynL, flagV, putB2, putB4, getB, ckF, hc] <;> omega
    · obtain ⟨r1, r2, r3, r4, r5, r6, r7, r8, r9, r10⟩ := r
      simp only at *
      subst k
      rcases f with rfl | rfl
      · have t := st rfl
        simp [statH, kindH] at t
        by_cases hc : check = 0 <;> simp [bareS, rdS, rdS_4_2, encH, dynL, flagV, putB2, putB4, getB, ckF, hc, t] <;> omega
      · by_cases hc : check = 0 <;> simp [bareS, rdS, rdS_5_2, encH, dynL, flagV, putB2, putB4, getB, ckF, hc] <;> omega
  · omega
theorem encH_hlen {s : Sm} (v : OkS s) : (encH s).length = hlen s.fmt s.h.kind := by
  unfold encH hlen
  rcases v.arm with ⟨f, k, _⟩ | ⟨f, b⟩ | ⟨f, b⟩
  · have := v.fmt
    rcases (show s.fmt = 1 ∨ s.fmt = 2 ∨ s.fmt = 3 by omega) with e | e | e <;> rcases k with k | k <;> simp [e, k, putB_len]
  · rcases b.head.2 with ⟨k, _⟩ | ⟨k, _⟩ <;> rcases f with e | e <;> simp [e, k, putB_len, dynL]
  · simp [f]
theorem rdS_enc {s : Sm} (v : OkS s) (T : List Int) : rdS s.ctx s.fmt s.h.kind (encH s ++ T) = bareS s := by
  rcases v.arm with ⟨f, _⟩ | ⟨f, _⟩ | ⟨f, b⟩
  · exact rdS_low v f T
  · exact (rdS_big v f T).1
  · obtain ⟨b1, b2, b3, b4, b5, b6, b7, b8, b9, b10⟩ := b
    clear v
    obtain ⟨ctx, fmt, num, time, mark, id, udp, h, ds, df, chk, pa, pn, pc, pz⟩ := s
    simp only at *
    subst b1; subst b2; subst b3; subst b4; subst b5; subst b6; subst b7; subst b8; subst b9; subst b10; subst f
    rfl
theorem hasC_enc {s : Sm} (v : OkS s) (c : Bool) (hc : s.fmt ≤ 3 → c = (s.udp != 0)) (T : List Int) : hasC s.fmt s.h.kind (encH s ++ T) c = (ckV s != 0) := by
  unfold hasC ckV
  have hf := v.fmt
  rcases v.arm with ⟨f, _⟩ | ⟨f, b⟩ | ⟨f, b⟩
  · rw [if_pos (by omega), if_neg (by omega)]; exact hc f
  · rw [if_neg (by omega), if_pos f, (rdS_big v f T).2]
    by_cases h : s.h.check = 0 <;> simp [h]
  · rw [if_neg (by omega), if_neg (by omega), b.udp, f]
    simp [ckF]
theorem kind_enc {s : Sm} (v : OkS s) (T : List Int) : kindV (encH s ++ T) s.fmt s.h.kind = (s.h.kind, 0) := by
  unfold kindV
  rcases v.arm with ⟨f, k, _⟩ | ⟨f, b⟩ | ⟨f, b⟩
  · rw [if_neg (by omega), if_neg (by omega), if_pos k]
  · have k : s.h.kind = 1 ∨ s.h.kind = 2 := b.head.2.elim (fun h => .inl h.1) (fun h => .inr h.1)
    rw [if_neg (by omega)]
    by_cases f5 : s.fmt = 5
    · rw [if_pos f5]
      have h1 : (encH s ++ T).getD 1 0 = s.h.kind := by unfold encH; simp [f5]
      have h2 : ¬ (encH s ++ T).length < 2 := by unfold encH; simp [f5]
      rw [if_neg h2, h1, if_pos k]
    · rw [if_neg f5, if_pos k]
  · rw [if_pos f, b.head]; rfl
theorem ck_get {s : Sm} (v : OkS s) (h : ckV s ≠ 0) (T : List Int) : getB (encH s ++ (ckL s ++ T)) (hlen s.fmt s.h.kind) 2 = ckV s := by
  have hl := encH_hlen v
  unfold ckL
  rw [if_neg h]
  have g : ∀ i, (encH s ++ ([ckV s / 256, ckV s % 256] ++ T)).getD (hlen s.fmt s.h.kind + i) 0 = ([ckV s / 256, ckV s % 256] ++ T).getD i 0 := fun i => by
    rw [← hl]
    simp [List.getD_eq_getElem?_getD, List.getElem?_append_right]
  simp only [getB]
  rw [g 0, g 1]
  simp
  omega
theorem back_eq {s : Sm} (v : OkS s) : rdC s.fmt (bareS s) (ckV s) = { s with pa := none, pn := 0, pc := 0, pz := [] } := by
  unfold rdC ckV bareS
  have hf := v.fmt
  rcases v.arm with ⟨f, _, b⟩ | ⟨f, b⟩ | ⟨f, b⟩
  · have c0 : s.h.check = 0 := by rw [b.head]; rfl
    rw [if_neg (by omega), if_neg (by omega)]
    obtain ⟨ctx, fmt, num, time, mark, id, udp, ⟨kind, tos, hid, fixed, ttl, frm, too, fromPort, toPort, check, marker, type, seq, htime, source⟩, ds, df, chk, pa, pn, pc, pz⟩ := s
    simp only at c0
    subst c0
    rfl
  · have c0 := b.udp
    rw [if_pos f, if_pos f]
    obtain ⟨ctx, fmt, num, time, mark, id, udp, h, ds, df, chk, pa, pn, pc, pz⟩ := s
    simp only at c0
    subst c0
    rfl
  · have c0 : s.h.check = 0 := by rw [b.head]; rfl
    rw [if_neg (by omega), if_neg (by omega)]
    obtain ⟨ctx, fmt, num, time, mark, id, udp, ⟨kind, tos, hid, fixed, ttl, frm, too, fromPort, toPort, check, marker, type, seq, htime, source⟩, ds, df, chk, pa, pn, pc, pz⟩ := s
    simp only at c0
    subst c0
    rfl
theorem back_zero (s : Sm) (f : Int) : rdC f (bareS s) 0 = bareS s := by
  unfold rdC
  split <;> rfl
/-- the parts that come out -/
theorem decS_enc {s : Sm} (v : OkS s) (hp : s.pz.length = s.pn) (c : Bool) (hc : s.fmt ≤ 3 → c = (s.udp != 0)) (a : Option Addr) (cap : Nat) :
    decS s.h.kind (encL s) c a cap = { s with pa := a, pc := cap } ∧ decD s.h.kind (encL s) c ≤ (decR (encL s)).length := by
  have e0 := hasC_enc v c hc (ckL s ++ s.pz)
  have e1 := rdS_enc v (ckL s ++ s.pz)
  have e2 := kind_enc v (ckL s ++ s.pz)
  have hl := encH_hlen v
  have hR : decR (encL s) = encH s ++ (ckL s ++ s.pz) := by rw [decR_enc v, List.append_assoc]
  have hX : decX (encL s) = s.ctx := by unfold decX; rw [peek_enc v]
  have hF : decF (encL s) = s.fmt := by unfold decF; rw [peek_enc v]
  have hK : decK s.h.kind (encL s) = s.h.kind := by unfold decK; rw [hR, hF, e2]
  unfold decS decD rdW rdP endL
  rw [hX, hF, hK, hR, e0, e1]
  by_cases h : ckV s = 0
  · have hb : (ckV s != 0) = false := by rw [h]; rfl
    have hk : ckL s = [] := by unfold ckL; rw [if_pos h]
    rw [hb, hk]
    simp only [Bool.false_eq_true, if_false, List.nil_append, Nat.add_zero]
    refine ⟨?_, by simp; omega⟩
    have hb2 : bareS s = { s with pa := none, pn := 0, pc := 0, pz := [] } := by rw [← back_eq v, h, back_zero]
    rw [← hl, List.length_append, Nat.add_sub_cancel_left, List.drop_left, hp, hb2]
  · have hb : (ckV s != 0) = true := by simpa using h
    rw [hb, ck_get v h s.pz]
    simp only [if_true]
    have hk : (ckL s).length = 2 := by unfold ckL; rw [if_neg h]; rfl
    refine ⟨?_, by simp; omega⟩
    have hd : hlen s.fmt s.h.kind + 2 = (encH s ++ ckL s).length := by rw [List.length_append, hl, hk]
    rw [hd, ← List.append_assoc, @List.length_append Int (encH s ++ ckL s) s.pz, Nat.add_sub_cancel_left, List.drop_left, hp, back_eq v]
/-- what is encoded is decoded without error -/
theorem decE_enc {s : Sm} (hv : smB s = true) (hp : s.pz.length = s.pn) (c : Bool) (hc : s.fmt ≤ 3 → c = (s.udp != 0)) : decE s.h.kind (encL s) c = 0 := by
  have v := ok_of hv
  have d := decS_enc v hp c hc none 0
  unfold decE
  rw [peek_enc v]
  have hR : decR (encL s) = encH s ++ (ckL s ++ s.pz) := by rw [decR_enc v, List.append_assoc]
  have hF : decF (encL s) = s.fmt := by unfold decF; rw [peek_enc v]
  rw [if_neg (by simp), if_neg (by rw [hR, hF, kind_enc v]; simp), if_neg (by simpa using d.2), d.1, if_pos ⟨hv, rfl⟩]
/-- .. as Decode answers it -/
theorem decR_back {s : Sm} {w w' : World} {e : Ending} {c : Bool} (hv : smB s = true) (hp : s.pz.length = s.pn) (hc : s.fmt ≤ 3 → c = (s.udp != 0)) (h : DecR s.h.kind (encL s) c w e w') :
    ∃ a cap, e = .returned (.tuple #[(.agg #[.int .i64 s.ctx, .int .i64 s.fmt, .int .i64 s.num, .int .i64 s.time, .int .i64 s.mark, .int .i64 s.id, .int .i64 s.udp, .int .i64 s.h.kind, .int .i64 s.h.tos, .int .i64 s.h.id, .int .i64 s.h.fixed, .int .i64 s.h.ttl, .int .i64 s.h.frm, .int .i64 s.h.to, .int .i64 s.h.fromPort, .int .i64 s.h.toPort, .int .i64 s.h.check, .int .i64 s.h.marker, .int .i64 s.h.type, .int .i64 s.h.seq, .int .i64 s.h.time, .int .i64 s.h.source, .int .i64 s.ds, .int .i64 s.df, .int .i64 s.chk, .slice a s.pn cap]), .int .i64 0]) ∧ Sl .u8 w' a s.pn s.pz ∧ Below w.heap.size w w' := by
  obtain ⟨hb, h⟩ := h
  rw [if_pos (decE_enc hv hp c hc)] at h
  obtain ⟨a, cap, _, hm, he⟩ := h
  have d := (decS_enc (ok_of hv) hp c hc none 0).1
  have d2 := (decS_enc (ok_of hv) hp c hc a cap).1
  refine ⟨a, cap, ?_, ?_, hb⟩
  · rw [he, d2]
  · have q := hm.sl
    rw [d] at q
    exact q
end Go.Proofs.YtkhcfmnebflgkaaDoor
