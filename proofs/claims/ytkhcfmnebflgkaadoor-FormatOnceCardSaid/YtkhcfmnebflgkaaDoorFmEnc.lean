/-
  The bytes of a packet in parts (layer 8), plainly; the program's fields pack to them. (gen_enc.py writes this text.)
-/
import Derived.Test.YtkhcfmnebflgkaaDoorJLow
import Derived.Test.YtkhcfmnebflgkaaDoorFmDyn
namespace Go.Proofs.YtkhcfmnebflgkaaDoor
open Go Go.RowKit

/-- the program's fields of a format and a kind: how many bits, and at which place of a draft -/
def fldL (f k : Int) : List (Int × Nat) :=
  if f = 1 then [(1, 26), (4, 2), (3, 24)] else if f = 2 then (if k = 2 then [(2, 26), (1, 4), (5, 2), (16, 3), (8, 24)] else [(2, 26), (1, 4), (5, 2), (0, 3), (8, 24)]) else if f = 3 then (if k = 2 then [(7, 26), (1, 4), (8, 2), (32, 3), (16, 5), (8, 24)] else [(7, 26), (1, 4), (16, 2), (0, 3), (0, 5), (8, 24)])
  else if f = 4 then (if k = 2 then [(8, 26), (8, 8), (8, 11), (1, 10), (1, 27), (1, 23), (1, 17), (4, 28), (8, 18), (16, 19), (16, 9), (32, 20), (16, 22), (8, 24)] else [(8, 26), (8, 8), (8, 11), (1, 10), (1, 27), (1, 23), (1, 17), (4, 28), (16, 9), (8, 24)]) else if f = 5 then (if k = 2 then [(8, 26), (8, 7), (32, 12), (32, 13), (16, 14), (16, 15), (32, 21), (8, 8), (8, 11), (1, 10), (1, 27), (1, 23), (1, 17), (4, 28), (8, 18), (16, 19), (16, 9), (32, 20), (16, 22), (8, 24)] else [(8, 26), (8, 7), (32, 12), (32, 13), (16, 14), (16, 15), (8, 8), (8, 11), (1, 10), (1, 27), (1, 23), (1, 17), (4, 28), (16, 9), (8, 24)]) else [(8, 26)]
def startV (f : Int) : Int := if f = 1 then 0 else if f = 2 then 2 else if f = 3 then 96 else if f = 4 then 208 else if f = 5 then 209 else 210
/-- the numbers of a draft -/
def dvL (s : Sm) (st ck : Int) : List Int := [s.ctx, s.fmt, s.num, s.time, s.mark, s.id, s.udp, s.h.kind, s.h.tos, s.h.id, s.h.fixed, s.h.ttl, s.h.frm, s.h.to, s.h.fromPort, s.h.toPort, s.h.check, s.h.marker, s.h.type, s.h.seq, s.h.time, s.h.source, s.ds, s.df, s.chk, 0, st, ck, 0]
def fWs (f k : Int) : List Int := (fldL f k).map (·.1)
def fVs (s : Sm) (st ck : Int) (f k : Int) : List Int := (fldL f k).map fun p => (dvL s st ck).getD p.2 0
/-- whether a kind goes with a format -/
def FK (f k : Int) : Prop := (1 ≤ f ∧ f ≤ 5) ∧ (k = 1 ∨ k = 2) ∨ f = 6 ∧ k = 0

/-- the bytes of a format -/
def encH (s : Sm) : List Int :=
  if s.fmt = 1 then [8 * s.num + s.chk]
  else if s.fmt = 2 then [128 + 32 * s.mark + s.num] ++ (if s.h.kind = 2 then putB 2 s.time 2 else []) ++ [s.chk]
  else if s.fmt = 3 then [192 + s.mark] ++ (if s.h.kind = 2 then putB 1 s.num 1 ++ putB 4 s.time 4 ++ putB 2 s.id 2 else putB 2 s.num 2) ++ [s.chk]
  else if s.fmt = 4 then [208] ++ dynL s ++ [s.chk]
  else if s.fmt = 5 then [209, s.h.kind] ++ putB 4 s.h.frm 4 ++ putB 4 s.h.to 4 ++ putB 2 s.h.fromPort 2 ++ putB 2 s.h.toPort 2 ++ (if s.h.kind = 2 then putB 4 s.h.source 4 else []) ++ dynL s ++ [s.chk]
  else [210]
/-- the checksum of UDP, 0 for none -/
def ckV (s : Sm) : Int := if s.fmt = 4 ∨ s.fmt = 5 then s.h.check else s.udp
def ctxL (s : Sm) : List Int := if 0 < s.ctx then [224 + s.ctx] else []
def ckL (s : Sm) : List Int := if ckV s = 0 then [] else [ckV s / 256, ckV s % 256]
def encL (s : Sm) : List Int := ctxL s ++ (encH s ++ ckL s) ++ s.pz

theorem putB1 (x : Int) : putB 1 x 1 = [x % 256] := by simp [putB]
theorem putB2 (x : Int) : putB 2 x 2 = [x / 256 % 256, x % 256] := by simp [putB, List.range_succ]
theorem putB4 (x : Int) : putB 4 x 4 = [x / 16777216 % 256, x / 65536 % 256, x / 256 % 256, x % 256] := by simp [putB, List.range_succ]
theorem bytes_all {l : List Int} (h : ∀ z ∈ l, 0 ≤ z ∧ z ≤ 255) : Bytes l := fun i => by
  rcases Nat.lt_or_ge i l.length with hi | hi
  · rw [List.getD_eq_getElem?_getD, List.getElem?_eq_getElem hi]; exact h _ (List.getElem_mem hi)
  · rw [List.getD_eq_getElem?_getD, List.getElem?_eq_none hi]; simp

/-- numbers that fit into their widths, which take whole bytes, and these -/
structure PackOk (ws vs zs : List Int) : Prop where
  len : vs.length = ws.length
  le : ws.length ≤ 200
  fits : fitsTo ws vs ws.length = true
  bytes : Bytes zs
  sum : sumTo ws ws.length = 8 * zs.length
  pack : packV ws vs = zs
/-- what a valid packet in parts has: the bounds of its numbers -/
structure LowB (s : Sm) : Prop where
  num : 0 ≤ s.num ∧ s.num ≤ smNumM s.fmt s.h.kind
  time : 0 ≤ s.time ∧ s.time ≤ smTimeM s.fmt s.h.kind
  mark : 0 ≤ s.mark ∧ s.mark ≤ smMarkM s.fmt s.h.kind
  id : 0 ≤ s.id ∧ s.id ≤ smIdM s.fmt s.h.kind
  chk : 0 ≤ s.chk ∧ s.chk ≤ smChkM s.fmt
  udp : 0 ≤ s.udp ∧ s.udp ≤ 65535
  head : s.h = kindH s.h.kind
  ds : s.ds = 0
  df : s.df = 0
structure BigB (s : Sm) : Prop where
  head : s.h.Valid
  ds : 0 ≤ s.ds ∧ s.ds ≤ 65535
  df : 0 ≤ s.df ∧ s.df ≤ 1
  one : s.h.kind = 1 → s.ds = 0 ∧ s.df = 0
  chk : 0 ≤ s.chk ∧ s.chk ≤ 255
  num : s.num = 0
  time : s.time = 0
  mark : s.mark = 0
  id : s.id = 0
  udp : s.udp = 0
  stat : s.fmt = 4 → statH s.h = kindH s.h.kind
structure RawB (s : Sm) : Prop where
  ctx : s.ctx = 0
  num : s.num = 0
  time : s.time = 0
  mark : s.mark = 0
  id : s.id = 0
  udp : s.udp = 0
  chk : s.chk = 0
  head : s.h = zeroH
  ds : s.ds = 0
  df : s.df = 0
structure OkS (s : Sm) : Prop where
  ctx : 0 ≤ s.ctx ∧ s.ctx ≤ 15
  fmt : 1 ≤ s.fmt ∧ s.fmt ≤ 6
  pn : s.pn ≤ 1500
  arm : (s.fmt ≤ 3 ∧ (s.h.kind = 1 ∨ s.h.kind = 2) ∧ LowB s) ∨ ((s.fmt = 4 ∨ s.fmt = 5) ∧ BigB s) ∨ (s.fmt = 6 ∧ RawB s)
theorem ok_of {s : Sm} (h : smB s = true) : OkS s := by
  unfold smB at h
  simp only [Bool.and_eq_true, decide_eq_true_eq] at h
  obtain ⟨⟨⟨hc, hf⟩, hp⟩, ha⟩ := h
  refine ⟨by unfold inB at hc; simpa using hc, hf, hp, ?_⟩
  by_cases f4 : s.fmt < 4
  · rw [if_pos f4] at ha
    unfold smSmallB smHeadB smLowB smDyn0 inB at ha
    simp only [Bool.and_eq_true, Bool.or_eq_true, beq_iff_eq, decide_eq_true_eq] at ha
    obtain ⟨⟨⟨⟨k, e⟩, d1, d2⟩, u⟩, ⟨⟨⟨a1, a2⟩, a3⟩, a4⟩, a5⟩ := ha
    exact .inl ⟨by omega, k, ⟨a1, a2, a3, a4, a5, u, (eqB_iff _ _).1 e, d1, d2⟩⟩
  · rw [if_neg f4] at ha
    by_cases f6 : s.fmt = 6
    · rw [if_pos f6] at ha
      unfold smNoneB smRawB smDyn0 at ha
      simp only [Bool.and_eq_true, beq_iff_eq] at ha
      obtain ⟨⟨⟨⟨⟨a1, a2⟩, a3⟩, a4⟩, a5⟩, ⟨⟨c, e⟩, d1, d2⟩, k⟩ := ha
      exact .inr (.inr ⟨f6, ⟨c, a1, a2, a3, a4, a5, k, (eqB_iff _ _).1 e, d1, d2⟩⟩)
    · rw [if_neg f6] at ha
      unfold smNoneB smBigB at ha
      simp only [Bool.and_eq_true, beq_iff_eq] at ha
      obtain ⟨⟨⟨⟨⟨a1, a2⟩, a3⟩, a4⟩, a5⟩, ⟨⟨⟨v, d⟩, o⟩, c⟩, e⟩ := ha
      unfold dynB at d
      unfold inB at c
      simp only [decide_eq_true_eq] at d c
      refine .inr (.inl ⟨by omega, ⟨validB_of v, d.1, by omega, fun k => ?_, c, a1, a2, a3, a4, a5, fun f => ?_⟩⟩)
      · rw [k] at o; unfold smDyn0 at o; simpa using o
      · rw [f] at e; exact (eqB_iff _ _).1 (by simpa using e)
theorem OkS.fk {s : Sm} (h : OkS s) : FK s.fmt s.h.kind := by
  have hf := h.fmt
  rcases h.arm with ⟨f, k, _⟩ | ⟨f, b⟩ | ⟨f, r⟩
  · exact .inl ⟨⟨by omega, by omega⟩, k⟩
  · exact .inl ⟨⟨by omega, by omega⟩, b.head.2.elim (fun h => .inl h.1) (fun h => .inr h.1)⟩
  · exact .inr ⟨f, by rw [r.head]; rfl⟩

theorem enc_1_1 (s : Sm) (f : s.fmt = 1) (_ : s.h.kind = 1) : encH s = [8 * s.num + s.chk] := by
  unfold encH; rw [f]; simp
set_option maxHeartbeats 6400000 in
theorem pack_1_1 (s : Sm) (f : s.fmt = 1) (k : s.h.kind = 1) (v : OkS s) (ck : Int) (_ : ck = if s.h.check = 0 then 0 else 1) : PackOk (fWs 1 1) (fVs s 0 ck 1 1) (encH s) := by
  rw [enc_1_1 s f k]
  obtain ⟨_, _, b⟩ | ⟨f', _⟩ | ⟨f', _⟩ := v.arm
  rotate_left
  · omega
  · omega
  have e1 := b.num
  have e2 := b.time
  have e3 := b.mark
  have e4 := b.id
  have e5 := b.chk
  rw [f, k] at e1 e2 e3 e4
  rw [f] at e5
  simp only [smNumM, smTimeM, smMarkM, smIdM, smChkM] at e1 e2 e3 e4 e5
  simp at e1 e2 e3 e4 e5
  have hz : Bytes [8 * s.num + s.chk] := bytes_all fun z hz => by
    simp only [List.mem_cons, List.not_mem_nil, or_false] at hz
    rcases hz with rfl <;> omega
  have hfit : fitsTo [1, 4, 3] [0, s.num, s.chk] 3 = true := by
    simp only [fitsTo, fitsAt, List.getD_cons_zero, List.getD_cons_succ, Bool.and_eq_true, Bool.true_and]
    exact ⟨⟨fitsB_yes ⟨by decide, by decide, by omega, by decide⟩, fitsB_yes ⟨by decide, by decide, by omega, by simp; omega⟩⟩, fitsB_yes ⟨by decide, by decide, by omega, by simp; omega⟩⟩
  refine ⟨rfl, by decide, hfit, hz, rfl, pack_eq (ws := [1, 4, 3]) (vs := [0, s.num, s.chk]) (n := 3) rfl rfl (by omega) hfit hz rfl ?_⟩
  · intro i hi
    match i, hi with
    | 0, _ => exact (numAt_in _ hz 0 0 1 (by omega)).trans (by simp only [wid, List.getD_cons_zero]; omega)
    | 1, _ => exact (numAt_in _ hz 0 1 4 (by omega)).trans (by simp only [wid, List.getD_cons_zero, List.getD_cons_succ]; omega)
    | 2, _ => exact (numAt_in _ hz 0 5 3 (by omega)).trans (by simp only [wid, List.getD_cons_zero, List.getD_cons_succ]; omega)
    | i + 3, hi => omega

theorem enc_1_2 (s : Sm) (f : s.fmt = 1) (_ : s.h.kind = 2) : encH s = [8 * s.num + s.chk] := by
  unfold encH; rw [f]; simp
set_option maxHeartbeats 6400000 in
theorem pack_1_2 (s : Sm) (f : s.fmt = 1) (k : s.h.kind = 2) (v : OkS s) (ck : Int) (_ : ck = if s.h.check = 0 then 0 else 1) : PackOk (fWs 1 2) (fVs s 0 ck 1 2) (encH s) := by
  rw [enc_1_2 s f k]
  obtain ⟨_, _, b⟩ | ⟨f', _⟩ | ⟨f', _⟩ := v.arm
  rotate_left
  · omega
  · omega
  have e1 := b.num
  have e2 := b.time
  have e3 := b.mark
  have e4 := b.id
  have e5 := b.chk
  rw [f, k] at e1 e2 e3 e4
  rw [f] at e5
  simp only [smNumM, smTimeM, smMarkM, smIdM, smChkM] at e1 e2 e3 e4 e5
  simp at e1 e2 e3 e4 e5
  have hz : Bytes [8 * s.num + s.chk] := bytes_all fun z hz => by
    simp only [List.mem_cons, List.not_mem_nil, or_false] at hz
    rcases hz with rfl <;> omega
  have hfit : fitsTo [1, 4, 3] [0, s.num, s.chk] 3 = true := by
    simp only [fitsTo, fitsAt, List.getD_cons_zero, List.getD_cons_succ, Bool.and_eq_true, Bool.true_and]
    exact ⟨⟨fitsB_yes ⟨by decide, by decide, by omega, by decide⟩, fitsB_yes ⟨by decide, by decide, by omega, by simp; omega⟩⟩, fitsB_yes ⟨by decide, by decide, by omega, by simp; omega⟩⟩
  refine ⟨rfl, by decide, hfit, hz, rfl, pack_eq (ws := [1, 4, 3]) (vs := [0, s.num, s.chk]) (n := 3) rfl rfl (by omega) hfit hz rfl ?_⟩
  · intro i hi
    match i, hi with
    | 0, _ => exact (numAt_in _ hz 0 0 1 (by omega)).trans (by simp only [wid, List.getD_cons_zero]; omega)
    | 1, _ => exact (numAt_in _ hz 0 1 4 (by omega)).trans (by simp only [wid, List.getD_cons_zero, List.getD_cons_succ]; omega)
    | 2, _ => exact (numAt_in _ hz 0 5 3 (by omega)).trans (by simp only [wid, List.getD_cons_zero, List.getD_cons_succ]; omega)
    | i + 3, hi => omega

theorem enc_2_1 (s : Sm) (f : s.fmt = 2) (k : s.h.kind = 1) : encH s = [128 + 32 * s.mark + s.num, s.chk] := by
  unfold encH; rw [f]; simp [k]
set_option maxHeartbeats 6400000 in
theorem pack_2_1 (s : Sm) (f : s.fmt = 2) (k : s.h.kind = 1) (v : OkS s) (ck : Int) (_ : ck = if s.h.check = 0 then 0 else 1) : PackOk (fWs 2 1) (fVs s 2 ck 2 1) (encH s) := by
  rw [enc_2_1 s f k]
  obtain ⟨_, _, b⟩ | ⟨f', _⟩ | ⟨f', _⟩ := v.arm
  rotate_left
  · omega
  · omega
  have e1 := b.num
  have e2 := b.time
  have e3 := b.mark
  have e4 := b.id
  have e5 := b.chk
  rw [f, k] at e1 e2 e3 e4
  rw [f] at e5
  simp only [smNumM, smTimeM, smMarkM, smIdM, smChkM] at e1 e2 e3 e4 e5
  simp at e1 e2 e3 e4 e5
  have hz : Bytes [128 + 32 * s.mark + s.num, s.chk] := bytes_all fun z hz => by
    simp only [List.mem_cons, List.not_mem_nil, or_false] at hz
    rcases hz with rfl | rfl <;> omega
  have hfit : fitsTo [2, 1, 5, 0, 8] [2, s.mark, s.num, s.time, s.chk] 5 = true := by
    simp only [fitsTo, fitsAt, List.getD_cons_zero, List.getD_cons_succ, Bool.and_eq_true, Bool.true_and]
    exact ⟨⟨⟨⟨fitsB_yes ⟨by decide, by decide, by omega, by decide⟩, fitsB_yes ⟨by decide, by decide, by omega, by simp; omega⟩⟩, fitsB_yes ⟨by decide, by decide, by omega, by simp; omega⟩⟩, fitsB_yes ⟨by decide, by decide, by omega, by simp; omega⟩⟩, fitsB_yes ⟨by decide, by decide, by omega, by simp; omega⟩⟩
  refine ⟨rfl, by decide, hfit, hz, rfl, pack_eq (ws := [2, 1, 5, 0, 8]) (vs := [2, s.mark, s.num, s.time, s.chk]) (n := 5) rfl rfl (by omega) hfit hz rfl ?_⟩
  · intro i hi
    match i, hi with
    | 0, _ => exact (numAt_in _ hz 0 0 2 (by omega)).trans (by simp only [wid, List.getD_cons_zero]; omega)
    | 1, _ => exact (numAt_in _ hz 0 2 1 (by omega)).trans (by simp only [wid, List.getD_cons_zero, List.getD_cons_succ]; omega)
    | 2, _ => exact (numAt_in _ hz 0 3 5 (by omega)).trans (by simp only [wid, List.getD_cons_zero, List.getD_cons_succ]; omega)
    | 3, _ => exact (by simp [wid]; omega : 0 = wid [2, s.mark, s.num, s.time, s.chk] 3)
    | 4, _ => exact (numAt_in _ hz 1 0 8 (by omega)).trans (by simp only [wid, List.getD_cons_zero, List.getD_cons_succ]; omega)
    | i + 5, hi => omega

theorem enc_2_2 (s : Sm) (f : s.fmt = 2) (k : s.h.kind = 2) : encH s = [128 + 32 * s.mark + s.num, s.time / 256 % 256, s.time % 256, s.chk] := by
  unfold encH; rw [f]; simp [k, putB2]
set_option maxHeartbeats 6400000 in
theorem pack_2_2 (s : Sm) (f : s.fmt = 2) (k : s.h.kind = 2) (v : OkS s) (ck : Int) (_ : ck = if s.h.check = 0 then 0 else 1) : PackOk (fWs 2 2) (fVs s 2 ck 2 2) (encH s) := by
  rw [enc_2_2 s f k]
  obtain ⟨_, _, b⟩ | ⟨f', _⟩ | ⟨f', _⟩ := v.arm
  rotate_left
  · omega
  · omega
  have e1 := b.num
  have e2 := b.time
  have e3 := b.mark
  have e4 := b.id
  have e5 := b.chk
  rw [f, k] at e1 e2 e3 e4
  rw [f] at e5
  simp only [smNumM, smTimeM, smMarkM, smIdM, smChkM] at e1 e2 e3 e4 e5
  simp at e1 e2 e3 e4 e5
  have hz : Bytes [128 + 32 * s.mark + s.num, s.time / 256 % 256, s.time % 256, s.chk] := bytes_all fun z hz => by
    simp only [List.mem_cons, List.not_mem_nil, or_false] at hz
    rcases hz with rfl | rfl | rfl | rfl <;> omega
  have hfit : fitsTo [2, 1, 5, 16, 8] [2, s.mark, s.num, s.time, s.chk] 5 = true := by
    simp only [fitsTo, fitsAt, List.getD_cons_zero, List.getD_cons_succ, Bool.and_eq_true, Bool.true_and]
    exact ⟨⟨⟨⟨fitsB_yes ⟨by decide, by decide, by omega, by decide⟩, fitsB_yes ⟨by decide, by decide, by omega, by simp; omega⟩⟩, fitsB_yes ⟨by decide, by decide, by omega, by simp; omega⟩⟩, fitsB_yes ⟨by decide, by decide, by omega, by simp; omega⟩⟩, fitsB_yes ⟨by decide, by decide, by omega, by simp; omega⟩⟩
  refine ⟨rfl, by decide, hfit, hz, rfl, pack_eq (ws := [2, 1, 5, 16, 8]) (vs := [2, s.mark, s.num, s.time, s.chk]) (n := 5) rfl rfl (by omega) hfit hz rfl ?_⟩
  · intro i hi
    match i, hi with
    | 0, _ => exact (numAt_in _ hz 0 0 2 (by omega)).trans (by simp only [wid, List.getD_cons_zero]; omega)
    | 1, _ => exact (numAt_in _ hz 0 2 1 (by omega)).trans (by simp only [wid, List.getD_cons_zero, List.getD_cons_succ]; omega)
    | 2, _ => exact (numAt_in _ hz 0 3 5 (by omega)).trans (by simp only [wid, List.getD_cons_zero, List.getD_cons_succ]; omega)
    | 3, _ => exact (numAt_two _ hz 1).trans (by simp only [wid, List.getD_cons_zero, List.getD_cons_succ]; omega)
    | 4, _ => exact (numAt_in _ hz 3 0 8 (by omega)).trans (by simp only [wid, List.getD_cons_zero, List.getD_cons_succ]; omega)
    | i + 5, hi => omega

theorem enc_3_1 (s : Sm) (f : s.fmt = 3) (k : s.h.kind = 1) : encH s = [192 + s.mark, s.num / 256 % 256, s.num % 256, s.chk] := by
  unfold encH; rw [f]; simp [k, putB2]
set_option maxHeartbeats 6400000 in
theorem pack_3_1 (s : Sm) (f : s.fmt = 3) (k : s.h.kind = 1) (v : OkS s) (ck : Int) (_ : ck = if s.h.check = 0 then 0 else 1) : PackOk (fWs 3 1) (fVs s 96 ck 3 1) (encH s) := by
  rw [enc_3_1 s f k]
  obtain ⟨_, _, b⟩ | ⟨f', _⟩ | ⟨f', _⟩ := v.arm
  rotate_left
  · omega
  · omega
  have e1 := b.num
  have e2 := b.time
  have e3 := b.mark
  have e4 := b.id
  have e5 := b.chk
  rw [f, k] at e1 e2 e3 e4
  rw [f] at e5
  simp only [smNumM, smTimeM, smMarkM, smIdM, smChkM] at e1 e2 e3 e4 e5
  simp at e1 e2 e3 e4 e5
  have hz : Bytes [192 + s.mark, s.num / 256 % 256, s.num % 256, s.chk] := bytes_all fun z hz => by
    simp only [List.mem_cons, List.not_mem_nil, or_false] at hz
    rcases hz with rfl | rfl | rfl | rfl <;> omega
  have hfit : fitsTo [7, 1, 16, 0, 0, 8] [96, s.mark, s.num, s.time, s.id, s.chk] 6 = true := by
    simp only [fitsTo, fitsAt, List.getD_cons_zero, List.getD_cons_succ, Bool.and_eq_true, Bool.true_and]
    exact ⟨⟨⟨⟨⟨fitsB_yes ⟨by decide, by decide, by omega, by decide⟩, fitsB_yes ⟨by decide, by decide, by omega, by simp; omega⟩⟩, fitsB_yes ⟨by decide, by decide, by omega, by simp; omega⟩⟩, fitsB_yes ⟨by decide, by decide, by omega, by simp; omega⟩⟩, fitsB_yes ⟨by decide, by decide, by omega, by simp; omega⟩⟩, fitsB_yes ⟨by decide, by decide, by omega, by simp; omega⟩⟩
  refine ⟨rfl, by decide, hfit, hz, rfl, pack_eq (ws := [7, 1, 16, 0, 0, 8]) (vs := [96, s.mark, s.num, s.time, s.id, s.chk]) (n := 6) rfl rfl (by omega) hfit hz rfl ?_⟩
  · intro i hi
    match i, hi with
    | 0, _ => exact (numAt_in _ hz 0 0 7 (by omega)).trans (by simp only [wid, List.getD_cons_zero]; omega)
    | 1, _ => exact (numAt_in _ hz 0 7 1 (by omega)).trans (by simp only [wid, List.getD_cons_zero, List.getD_cons_succ]; omega)
    | 2, _ => exact (numAt_two _ hz 1).trans (by simp only [wid, List.getD_cons_zero, List.getD_cons_succ]; omega)
    | 3, _ => exact (by simp [wid]; omega : 0 = wid [96, s.mark, s.num, s.time, s.id, s.chk] 3)
    | 4, _ => exact (by simp [wid]; omega : 0 = wid [96, s.mark, s.num, s.time, s.id, s.chk] 4)
    | 5, _ => exact (numAt_in _ hz 3 0 8 (by omega)).trans (by simp only [wid, List.getD_cons_zero, List.getD_cons_succ]; omega)
    | i + 6, hi => omega

theorem enc_3_2 (s : Sm) (f : s.fmt = 3) (k : s.h.kind = 2) : encH s = [192 + s.mark, s.num % 256, s.time / 16777216 % 256, s.time / 65536 % 256, s.time / 256 % 256, s.time % 256, s.id / 256 % 256, s.id % 256, s.chk] := by
  unfold encH; rw [f]; simp [k, putB1, putB2, putB4]
set_option maxHeartbeats 6400000 in
theorem pack_3_2 (s : Sm) (f : s.fmt = 3) (k : s.h.kind = 2) (v : OkS s) (ck : Int) (_ : ck = if s.h.check = 0 then 0 else 1) : PackOk (fWs 3 2) (fVs s 96 ck 3 2) (encH s) := by
  rw [enc_3_2 s f k]
  obtain ⟨_, _, b⟩ | ⟨f', _⟩ | ⟨f', _⟩ := v.arm
  rotate_left
  · omega
  · omega
  have e1 := b.num
  have e2 := b.time
  have e3 := b.mark
  have e4 := b.id
  have e5 := b.chk
  rw [f, k] at e1 e2 e3 e4
  rw [f] at e5
  simp only [smNumM, smTimeM, smMarkM, smIdM, smChkM] at e1 e2 e3 e4 e5
  simp at e1 e2 e3 e4 e5
  have hz : Bytes [192 + s.mark, s.num % 256, s.time / 16777216 % 256, s.time / 65536 % 256, s.time / 256 % 256, s.time % 256, s.id / 256 % 256, s.id % 256, s.chk] := bytes_all fun z hz => by
    simp only [List.mem_cons, List.not_mem_nil, or_false] at hz
    rcases hz with rfl | rfl | rfl | rfl | rfl | rfl | rfl | rfl | rfl <;> omega
  have hfit : fitsTo [7, 1, 8, 32, 16, 8] [96, s.mark, s.num, s.time, s.id, s.chk] 6 = true := by
    simp only [fitsTo, fitsAt, List.getD_cons_zero, List.getD_cons_succ, Bool.and_eq_true, Bool.true_and]
    exact ⟨⟨⟨⟨⟨fitsB_yes ⟨by decide, by decide, by omega, by decide⟩, fitsB_yes ⟨by decide, by decide, by omega, by simp; omega⟩⟩, fitsB_yes ⟨by decide, by decide, by omega, by simp; omega⟩⟩, fitsB_yes ⟨by decide, by decide, by omega, by simp; omega⟩⟩, fitsB_yes ⟨by decide, by decide, by omega, by simp; omega⟩⟩, fitsB_yes ⟨by decide, by decide, by omega, by simp; omega⟩⟩
  refine ⟨rfl, by decide, hfit, hz, rfl, pack_eq (ws := [7, 1, 8, 32, 16, 8]) (vs := [96, s.mark, s.num, s.time, s.id, s.chk]) (n := 6) rfl rfl (by omega) hfit hz rfl ?_⟩
  · intro i hi
    match i, hi with
    | 0, _ => exact (numAt_in _ hz 0 0 7 (by omega)).trans (by simp only [wid, List.getD_cons_zero]; omega)
    | 1, _ => exact (numAt_in _ hz 0 7 1 (by omega)).trans (by simp only [wid, List.getD_cons_zero, List.getD_cons_succ]; omega)
    | 2, _ => exact (numAt_in _ hz 1 0 8 (by omega)).trans (by simp only [wid, List.getD_cons_zero, List.getD_cons_succ]; omega)
    | 3, _ => exact (numAt_four _ hz 2).trans (by simp only [wid, List.getD_cons_zero, List.getD_cons_succ]; omega)
    | 4, _ => exact (numAt_two _ hz 6).trans (by simp only [wid, List.getD_cons_zero, List.getD_cons_succ]; omega)
    | 5, _ => exact (numAt_in _ hz 8 0 8 (by omega)).trans (by simp only [wid, List.getD_cons_zero, List.getD_cons_succ]; omega)
    | i + 6, hi => omega

theorem enc_4_1 (s : Sm) (f : s.fmt = 4) (k : s.h.kind = 1) : encH s = [208, s.h.tos, s.h.ttl, flagV s, s.h.id / 256 % 256, s.h.id % 256, s.chk] := by
  unfold encH; rw [f]; simp [k, putB2, dynL]
set_option maxHeartbeats 6400000 in
theorem pack_4_1 (s : Sm) (f : s.fmt = 4) (k : s.h.kind = 1) (v : OkS s) (ck : Int) (hck : ck = if s.h.check = 0 then 0 else 1) : PackOk (fWs 4 1) (fVs s 208 ck 4 1) (encH s) := by
  rw [enc_4_1 s f k]
  obtain ⟨f', _⟩ | ⟨_, b⟩ | ⟨f', _⟩ := v.arm
  · omega
  rotate_left
  · omega
  obtain ⟨i, g⟩ := b.head
  have a1 := i.tos0
  have a2 := i.tos1
  have a3 := i.ttl0
  have a4 := i.ttl1
  have a5 := i.id0
  have a6 := i.id1
  have a7 := i.fixed0
  have a8 := i.fixed1
  have a9 := b.df
  have a10 := b.chk
  have m0 : s.h.marker = 0 := by
    obtain ⟨_, p⟩ | ⟨k2, _⟩ := g
    · exact p.marker
    · omega
  have hck0 : ck = 0 ∨ ck = 1 := by rw [hck]; split <;> simp
  have hfl : flagV s = 128 * s.h.fixed + 32 * s.df + 16 * s.h.marker + 64 * ck := by unfold flagV; rw [hck]; split <;> simp
  clear hck
  generalize flagV s = fl at hfl ⊢
  have hz : Bytes [208, s.h.tos, s.h.ttl, fl, s.h.id / 256 % 256, s.h.id % 256, s.chk] := bytes_all fun z hz => by
    simp only [List.mem_cons, List.not_mem_nil, or_false] at hz
    rcases hz with rfl | rfl | rfl | rfl | rfl | rfl | rfl <;> omega
  have hfit : fitsTo [8, 8, 8, 1, 1, 1, 1, 4, 16, 8] [208, s.h.tos, s.h.ttl, s.h.fixed, ck, s.df, s.h.marker, 0, s.h.id, s.chk] 10 = true := by
    simp only [fitsTo, fitsAt, List.getD_cons_zero, List.getD_cons_succ, Bool.and_eq_true, Bool.true_and]
    exact ⟨⟨⟨⟨⟨⟨⟨⟨⟨fitsB_yes ⟨by decide, by decide, by omega, by decide⟩, fitsB_yes ⟨by decide, by decide, by omega, by simp; omega⟩⟩, fitsB_yes ⟨by decide, by decide, by omega, by simp; omega⟩⟩, fitsB_yes ⟨by decide, by decide, by omega, by simp; omega⟩⟩, fitsB_yes ⟨by decide, by decide, by omega, by simp; omega⟩⟩, fitsB_yes ⟨by decide, by decide, by omega, by simp; omega⟩⟩, fitsB_yes ⟨by decide, by decide, by omega, by simp; omega⟩⟩, fitsB_yes ⟨by decide, by decide, by omega, by decide⟩⟩, fitsB_yes ⟨by decide, by decide, by omega, by simp; omega⟩⟩, fitsB_yes ⟨by decide, by decide, by omega, by simp; omega⟩⟩
  refine ⟨rfl, by decide, hfit, hz, rfl, pack_eq (ws := [8, 8, 8, 1, 1, 1, 1, 4, 16, 8]) (vs := [208, s.h.tos, s.h.ttl, s.h.fixed, ck, s.df, s.h.marker, 0, s.h.id, s.chk]) (n := 10) rfl rfl (by omega) hfit hz rfl ?_⟩
  · intro i hi
    match i, hi with
    | 0, _ => exact (numAt_in _ hz 0 0 8 (by omega)).trans (by simp only [wid, List.getD_cons_zero]; omega)
    | 1, _ => exact (numAt_in _ hz 1 0 8 (by omega)).trans (by simp only [wid, List.getD_cons_zero, List.getD_cons_succ]; omega)
    | 2, _ => exact (numAt_in _ hz 2 0 8 (by omega)).trans (by simp only [wid, List.getD_cons_zero, List.getD_cons_succ]; omega)
    | 3, _ => exact (numAt_in _ hz 3 0 1 (by omega)).trans (by simp only [wid, List.getD_cons_zero, List.getD_cons_succ]; omega)
    | 4, _ => exact (numAt_in _ hz 3 1 1 (by omega)).trans (by simp only [wid, List.getD_cons_zero, List.getD_cons_succ]; omega)
    | 5, _ => exact (numAt_in _ hz 3 2 1 (by omega)).trans (by simp only [wid, List.getD_cons_zero, List.getD_cons_succ]; omega)
    | 6, _ => exact (numAt_in _ hz 3 3 1 (by omega)).trans (by simp only [wid, List.getD_cons_zero, List.getD_cons_succ]; omega)
    | 7, _ => exact (numAt_in _ hz 3 4 4 (by omega)).trans (by simp only [wid, List.getD_cons_zero, List.getD_cons_succ]; omega)
    | 8, _ => exact (numAt_two _ hz 4).trans (by simp only [wid, List.getD_cons_zero, List.getD_cons_succ]; omega)
    | 9, _ => exact (numAt_in _ hz 6 0 8 (by omega)).trans (by simp only [wid, List.getD_cons_zero, List.getD_cons_succ]; omega)
    | i + 10, hi => omega

theorem enc_4_2 (s : Sm) (f : s.fmt = 4) (k : s.h.kind = 2) : encH s = [208, s.h.tos, s.h.ttl, flagV s, s.h.type, s.h.seq / 256 % 256, s.h.seq % 256, s.h.id / 256 % 256, s.h.id % 256, s.h.time / 16777216 % 256, s.h.time / 65536 % 256, s.h.time / 256 % 256, s.h.time % 256, s.ds / 256 % 256, s.ds % 256, s.chk] := by
  unfold encH; rw [f]; simp [k, putB2, putB4, dynL]
set_option maxHeartbeats 6400000 in
theorem pack_4_2 (s : Sm) (f : s.fmt = 4) (k : s.h.kind = 2) (v : OkS s) (ck : Int) (hck : ck = if s.h.check = 0 then 0 else 1) : PackOk (fWs 4 2) (fVs s 208 ck 4 2) (encH s) := by
  rw [enc_4_2 s f k]
  obtain ⟨f', _⟩ | ⟨_, b⟩ | ⟨f', _⟩ := v.arm
  · omega
  rotate_left
  · omega
  obtain ⟨i, g⟩ := b.head
  have a1 := i.tos0
  have a2 := i.tos1
  have a3 := i.ttl0
  have a4 := i.ttl1
  have a5 := i.id0
  have a6 := i.id1
  have a7 := i.fixed0
  have a8 := i.fixed1
  have a9 := b.df
  have a10 := b.chk
  have b1 := b.ds
  obtain ⟨k2, _⟩ | ⟨_, p⟩ := g
  · omega
  have q0 := p.marker0
  have q1 := p.marker1
  have q2 := p.type0
  have q3 := p.type1
  have q4 := p.seq0
  have q5 := p.seq1
  have q6 := p.time0
  have q7 := p.time1
  have q8 := p.source0
  have q9 := p.source1
  have hck0 : ck = 0 ∨ ck = 1 := by rw [hck]; split <;> simp
  have hfl : flagV s = 128 * s.h.fixed + 32 * s.df + 16 * s.h.marker + 64 * ck := by unfold flagV; rw [hck]; split <;> simp
  clear hck
  generalize flagV s = fl at hfl ⊢
  have hz : Bytes [208, s.h.tos, s.h.ttl, fl, s.h.type, s.h.seq / 256 % 256, s.h.seq % 256, s.h.id / 256 % 256, s.h.id % 256, s.h.time / 16777216 % 256, s.h.time / 65536 % 256, s.h.time / 256 % 256, s.h.time % 256, s.ds / 256 % 256, s.ds % 256, s.chk] := bytes_all fun z hz => by
    simp only [List.mem_cons, List.not_mem_nil, or_false] at hz
    rcases hz with rfl | rfl | rfl | rfl | rfl | rfl | rfl | rfl | rfl | rfl | rfl | rfl | rfl | rfl | rfl | rfl <;> omega
  have hfit : fitsTo [8, 8, 8, 1, 1, 1, 1, 4, 8, 16, 16, 32, 16, 8] [208, s.h.tos, s.h.ttl, s.h.fixed, ck, s.df, s.h.marker, 0, s.h.type, s.h.seq, s.h.id, s.h.time, s.ds, s.chk] 14 = true := by
    simp only [fitsTo, fitsAt, List.getD_cons_zero, List.getD_cons_succ, Bool.and_eq_true, Bool.true_and]
    exact ⟨⟨⟨⟨⟨⟨⟨⟨⟨⟨⟨⟨⟨fitsB_yes ⟨by decide, by decide, by omega, by decide⟩, fitsB_yes ⟨by decide, by decide, by omega, by simp; omega⟩⟩, fitsB_yes ⟨by decide, by decide, by omega, by simp; omega⟩⟩, fitsB_yes ⟨by decide, by decide, by omega, by simp; omega⟩⟩, fitsB_yes ⟨by decide, by decide, by omega, by simp; omega⟩⟩, fitsB_yes ⟨by decide, by decide, by omega, by simp; omega⟩⟩, fitsB_yes ⟨by decide, by decide, by omega, by simp; omega⟩⟩, fitsB_yes ⟨by decide, by decide, by omega, by decide⟩⟩, fitsB_yes ⟨by decide, by decide, by omega, by simp; omega⟩⟩, fitsB_yes ⟨by decide, by decide, by omega, by simp; omega⟩⟩, fitsB_yes ⟨by decide, by decide, by omega, by simp; omega⟩⟩, fitsB_yes ⟨by decide, by decide, by omega, by simp; omega⟩⟩, fitsB_yes ⟨by decide, by decide, by omega, by simp; omega⟩⟩, fitsB_yes ⟨by decide, by decide, by omega, by simp; omega⟩⟩
  refine ⟨rfl, by decide, hfit, hz, rfl, pack_eq (ws := [8, 8, 8, 1, 1, 1, 1, 4, 8, 16, 16, 32, 16, 8]) (vs := [208, s.h.tos, s.h.ttl, s.h.fixed, ck, s.df, s.h.marker, 0, s.h.type, s.h.seq, s.h.id, s.h.time, s.ds, s.chk]) (n := 14) rfl rfl (by omega) hfit hz rfl ?_⟩
  · intro i hi
    match i, hi with
    | 0, _ => exact (numAt_in _ hz 0 0 8 (by omega)).trans (by simp only [wid, List.getD_cons_zero]; omega)
    | 1, _ => exact (numAt_in _ hz 1 0 8 (by omega)).trans (by simp only [wid, List.getD_cons_zero, List.getD_cons_succ]; omega)
    | 2, _ => exact (numAt_in _ hz 2 0 8 (by omega)).trans (by simp only [wid, List.getD_cons_zero, List.getD_cons_succ]; omega)
    | 3, _ => exact (numAt_in _ hz 3 0 1 (by omega)).trans (by simp only [wid, List.getD_cons_zero, List.getD_cons_succ]; omega)
    | 4, _ => exact (numAt_in _ hz 3 1 1 (by omega)).trans (by simp only [wid, List.getD_cons_zero, List.getD_cons_succ]; omega)
    | 5, _ => exact (numAt_in _ hz 3 2 1 (by omega)).trans (by simp only [wid, List.getD_cons_zero, List.getD_cons_succ]; omega)
    | 6, _ => exact (numAt_in _ hz 3 3 1 (by omega)).trans (by simp only [wid, List.getD_cons_zero, List.getD_cons_succ]; omega)
    | 7, _ => exact (numAt_in _ hz 3 4 4 (by omega)).trans (by simp only [wid, List.getD_cons_zero, List.getD_cons_succ]; omega)
    | 8, _ => exact (numAt_in _ hz 4 0 8 (by omega)).trans (by simp only [wid, List.getD_cons_zero, List.getD_cons_succ]; omega)
    | 9, _ => exact (numAt_two _ hz 5).trans (by simp only [wid, List.getD_cons_zero, List.getD_cons_succ]; omega)
    | 10, _ => exact (numAt_two _ hz 7).trans (by simp only [wid, List.getD_cons_zero, List.getD_cons_succ]; omega)
    | 11, _ => exact (numAt_four _ hz 9).trans (by simp only [wid, List.getD_cons_zero, List.getD_cons_succ]; omega)
    | 12, _ => exact (numAt_two _ hz 13).trans (by simp only [wid, List.getD_cons_zero, List.getD_cons_succ]; omega)
    | 13, _ => exact (numAt_in _ hz 15 0 8 (by omega)).trans (by simp only [wid, List.getD_cons_zero, List.getD_cons_succ]; omega)
    | i + 14, hi => omega

theorem enc_5_1 (s : Sm) (f : s.fmt = 5) (k : s.h.kind = 1) : encH s = [209, s.h.kind, s.h.frm / 16777216 % 256, s.h.frm / 65536 % 256, s.h.frm / 256 % 256, s.h.frm % 256, s.h.to / 16777216 % 256, s.h.to / 65536 % 256, s.h.to / 256 % 256, s.h.to % 256, s.h.fromPort / 256 % 256, s.h.fromPort % 256, s.h.toPort / 256 % 256, s.h.toPort % 256, s.h.tos, s.h.ttl, flagV s, s.h.id / 256 % 256, s.h.id % 256, s.chk] := by
  unfold encH; rw [f]; simp [k, putB2, putB4, dynL]
set_option maxHeartbeats 6400000 in
theorem pack_5_1 (s : Sm) (f : s.fmt = 5) (k : s.h.kind = 1) (v : OkS s) (ck : Int) (hck : ck = if s.h.check = 0 then 0 else 1) : PackOk (fWs 5 1) (fVs s 209 ck 5 1) (encH s) := by
  rw [enc_5_1 s f k]
  obtain ⟨f', _⟩ | ⟨_, b⟩ | ⟨f', _⟩ := v.arm
  · omega
  rotate_left
  · omega
  obtain ⟨i, g⟩ := b.head
  have a1 := i.tos0
  have a2 := i.tos1
  have a3 := i.ttl0
  have a4 := i.ttl1
  have a5 := i.id0
  have a6 := i.id1
  have a7 := i.fixed0
  have a8 := i.fixed1
  have a9 := b.df
  have a10 := b.chk
  have p0 := i.fromPort0
  have p1 := i.fromPort1
  have p2 := i.toPort0
  have p3 := i.toPort1
  have p4 := i.frm0
  have p5 := i.frm1
  have p6 := i.to0
  have p7 := i.to1
  have m0 : s.h.marker = 0 := by
    obtain ⟨_, p⟩ | ⟨k2, _⟩ := g
    · exact p.marker
    · omega
  have hck0 : ck = 0 ∨ ck = 1 := by rw [hck]; split <;> simp
  have hfl : flagV s = 128 * s.h.fixed + 32 * s.df + 16 * s.h.marker + 64 * ck := by unfold flagV; rw [hck]; split <;> simp
  clear hck
  generalize flagV s = fl at hfl ⊢
  have hz : Bytes [209, s.h.kind, s.h.frm / 16777216 % 256, s.h.frm / 65536 % 256, s.h.frm / 256 % 256, s.h.frm % 256, s.h.to / 16777216 % 256, s.h.to / 65536 % 256, s.h.to / 256 % 256, s.h.to % 256, s.h.fromPort / 256 % 256, s.h.fromPort % 256, s.h.toPort / 256 % 256, s.h.toPort % 256, s.h.tos, s.h.ttl, fl, s.h.id / 256 % 256, s.h.id % 256, s.chk] := bytes_all fun z hz => by
    simp only [List.mem_cons, List.not_mem_nil, or_false] at hz
    rcases hz with rfl | rfl | rfl | rfl | rfl | rfl | rfl | rfl | rfl | rfl | rfl | rfl | rfl | rfl | rfl | rfl | rfl | rfl | rfl | rfl <;> omega
  have hfit : fitsTo [8, 8, 32, 32, 16, 16, 8, 8, 1, 1, 1, 1, 4, 16, 8] [209, s.h.kind, s.h.frm, s.h.to, s.h.fromPort, s.h.toPort, s.h.tos, s.h.ttl, s.h.fixed, ck, s.df, s.h.marker, 0, s.h.id, s.chk] 15 = true := by
    simp only [fitsTo, fitsAt, List.getD_cons_zero, List.getD_cons_succ, Bool.and_eq_true, Bool.true_and]
    exact ⟨⟨⟨⟨⟨⟨⟨⟨⟨⟨⟨⟨⟨⟨fitsB_yes ⟨by decide, by decide, by omega, by decide⟩, fitsB_yes ⟨by decide, by decide, by omega, by simp; omega⟩⟩, fitsB_yes ⟨by decide, by decide, by omega, by simp; omega⟩⟩, fitsB_yes ⟨by decide, by decide, by omega, by simp; omega⟩⟩, fitsB_yes ⟨by decide, by decide, by omega, by simp; omega⟩⟩, fitsB_yes ⟨by decide, by decide, by omega, by simp; omega⟩⟩, fitsB_yes ⟨by decide, by decide, by omega, by simp; omega⟩⟩, fitsB_yes ⟨by decide, by decide, by omega, by simp; omega⟩⟩, fitsB_yes ⟨by decide, by decide, by omega, by simp; omega⟩⟩, fitsB_yes ⟨by decide, by decide, by omega, by simp; omega⟩⟩, fitsB_yes ⟨by decide, by decide, by omega, by simp; omega⟩⟩, fitsB_yes ⟨by decide, by decide, by omega, by simp; omega⟩⟩, fitsB_yes ⟨by decide, by decide, by omega, by decide⟩⟩, fitsB_yes ⟨by decide, by decide, by omega, by simp; omega⟩⟩, fitsB_yes ⟨by decide, by decide, by omega, by simp; omega⟩⟩
  refine ⟨rfl, by decide, hfit, hz, rfl, pack_eq (ws := [8, 8, 32, 32, 16, 16, 8, 8, 1, 1, 1, 1, 4, 16, 8]) (vs := [209, s.h.kind, s.h.frm, s.h.to, s.h.fromPort, s.h.toPort, s.h.tos, s.h.ttl, s.h.fixed, ck, s.df, s.h.marker, 0, s.h.id, s.chk]) (n := 15) rfl rfl (by omega) hfit hz rfl ?_⟩
  · intro i hi
    match i, hi with
    | 0, _ => exact (numAt_in _ hz 0 0 8 (by omega)).trans (by simp only [wid, List.getD_cons_zero]; omega)
    | 1, _ => exact (numAt_in _ hz 1 0 8 (by omega)).trans (by simp only [wid, List.getD_cons_zero, List.getD_cons_succ]; omega)
    | 2, _ => exact (numAt_four _ hz 2).trans (by simp only [wid, List.getD_cons_zero, List.getD_cons_succ]; omega)
    | 3, _ => exact (numAt_four _ hz 6).trans (by simp only [wid, List.getD_cons_zero, List.getD_cons_succ]; omega)
    | 4, _ => exact (numAt_two _ hz 10).trans (by simp only [wid, List.getD_cons_zero, List.getD_cons_succ]; omega)
    | 5, _ => exact (numAt_two _ hz 12).trans (by simp only [wid, List.getD_cons_zero, List.getD_cons_succ]; omega)
    | 6, _ => exact (numAt_in _ hz 14 0 8 (by omega)).trans (by simp only [wid, List.getD_cons_zero, List.getD_cons_succ]; omega)
    | 7, _ => exact (numAt_in _ hz 15 0 8 (by omega)).trans (by simp only [wid, List.getD_cons_zero, List.getD_cons_succ]; omega)
    | 8, _ => exact (numAt_in _ hz 16 0 1 (by omega)).trans (by simp only [wid, List.getD_cons_zero, List.getD_cons_succ]; omega)
    | 9, _ => exact (numAt_in _ hz 16 1 1 (by omega)).trans (by simp only [wid, List.getD_cons_zero, List.getD_cons_succ]; omega)
    | 10, _ => exact (numAt_in _ hz 16 2 1 (by omega)).trans (by simp only [wid, List.getD_cons_zero, List.getD_cons_succ]; omega)
    | 11, _ => exact (numAt_in _ hz 16 3 1 (by omega)).trans (by simp only [wid, List.getD_cons_zero, List.getD_cons_succ]; omega)
    | 12, _ => exact (numAt_in _ hz 16 4 4 (by omega)).trans (by simp only [wid, List.getD_cons_zero, List.getD_cons_succ]; omega)
    | 13, _ => exact (numAt_two _ hz 17).trans (by simp only [wid, List.getD_cons_zero, List.getD_cons_succ]; omega)
    | 14, _ => exact (numAt_in _ hz 19 0 8 (by omega)).trans (by simp only [wid, List.getD_cons_zero, List.getD_cons_succ]; omega)
    | i + 15, hi => omega

theorem enc_5_2 (s : Sm) (f : s.fmt = 5) (k : s.h.kind = 2) : encH s = [209, s.h.kind, s.h.frm / 16777216 % 256, s.h.frm / 65536 % 256, s.h.frm / 256 % 256, s.h.frm % 256, s.h.to / 16777216 % 256, s.h.to / 65536 % 256, s.h.to / 256 % 256, s.h.to % 256, s.h.fromPort / 256 % 256, s.h.fromPort % 256, s.h.toPort / 256 % 256, s.h.toPort % 256, s.h.source / 16777216 % 256, s.h.source / 65536 % 256, s.h.source / 256 % 256, s.h.source % 256, s.h.tos, s.h.ttl, flagV s, s.h.type, s.h.seq / 256 % 256, s.h.seq % 256, s.h.id / 256 % 256, s.h.id % 256, s.h.time / 16777216 % 256, s.h.time / 65536 % 256, s.h.time / 256 % 256, s.h.time % 256, s.ds / 256 % 256, s.ds % 256, s.chk] := by
  unfold encH; rw [f]; simp [k, putB2, putB4, dynL]
set_option maxHeartbeats 6400000 in
theorem pack_5_2 (s : Sm) (f : s.fmt = 5) (k : s.h.kind = 2) (v : OkS s) (ck : Int) (hck : ck = if s.h.check = 0 then 0 else 1) : PackOk (fWs 5 2) (fVs s 209 ck 5 2) (encH s) := by
  rw [enc_5_2 s f k]
  obtain ⟨f', _⟩ | ⟨_, b⟩ | ⟨f', _⟩ := v.arm
  · omega
  rotate_left
  · omega
  obtain ⟨i, g⟩ := b.head
  have a1 := i.tos0
  have a2 := i.tos1
  have a3 := i.ttl0
  have a4 := i.ttl1
  have a5 := i.id0
  have a6 := i.id1
  have a7 := i.fixed0
  have a8 := i.fixed1
  have a9 := b.df
  have a10 := b.chk
  have p0 := i.fromPort0
  have p1 := i.fromPort1
  have p2 := i.toPort0
  have p3 := i.toPort1
  have p4 := i.frm0
  have p5 := i.frm1
  have p6 := i.to0
  have p7 := i.to1
  have b1 := b.ds
  obtain ⟨k2, _⟩ | ⟨_, p⟩ := g
  · omega
  have q0 := p.marker0
  have q1 := p.marker1
  have q2 := p.type0
  have q3 := p.type1
  have q4 := p.seq0
  have q5 := p.seq1
  have q6 := p.time0
  have q7 := p.time1
  have q8 := p.source0
  have q9 := p.source1
  have hck0 : ck = 0 ∨ ck = 1 := by rw [hck]; split <;> simp
  have hfl : flagV s = 128 * s.h.fixed + 32 * s.df + 16 * s.h.marker + 64 * ck := by unfold flagV; rw [hck]; split <;> simp
  clear hck
  generalize flagV s = fl at hfl ⊢
  have hz : Bytes [209, s.h.kind, s.h.frm / 16777216 % 256, s.h.frm / 65536 % 256, s.h.frm / 256 % 256, s.h.frm % 256, s.h.to / 16777216 % 256, s.h.to / 65536 % 256, s.h.to / 256 % 256, s.h.to % 256, s.h.fromPort / 256 % 256, s.h.fromPort % 256, s.h.toPort / 256 % 256, s.h.toPort % 256, s.h.source / 16777216 % 256, s.h.source / 65536 % 256, s.h.source / 256 % 256, s.h.source % 256, s.h.tos, s.h.ttl, fl, s.h.type, s.h.seq / 256 % 256, s.h.seq % 256, s.h.id / 256 % 256, s.h.id % 256, s.h.time / 16777216 % 256, s.h.time / 65536 % 256, s.h.time / 256 % 256, s.h.time % 256, s.ds / 256 % 256, s.ds % 256, s.chk] := bytes_all fun z hz => by
    simp only [List.mem_cons, List.not_mem_nil, or_false] at hz
    rcases hz with rfl | rfl | rfl | rfl | rfl | rfl | rfl | rfl | rfl | rfl | rfl | rfl | rfl | rfl | rfl | rfl | rfl | rfl | rfl | rfl | rfl | rfl | rfl | rfl | rfl | rfl | rfl | rfl | rfl | rfl | rfl | rfl | rfl <;> omega
  have hfit : fitsTo [8, 8, 32, 32, 16, 16, 32, 8, 8, 1, 1, 1, 1, 4, 8, 16, 16, 32, 16, 8] [209, s.h.kind, s.h.frm, s.h.to, s.h.fromPort, s.h.toPort, s.h.source, s.h.tos, s.h.ttl, s.h.fixed, ck, s.df, s.h.marker, 0, s.h.type, s.h.seq, s.h.id, s.h.time, s.ds, s.chk] 20 = true := by
    simp only [fitsTo, fitsAt, List.getD_cons_zero, List.getD_cons_succ, Bool.and_eq_true, Bool.true_and]
    exact ⟨⟨⟨⟨⟨⟨⟨⟨⟨⟨⟨⟨⟨⟨⟨⟨⟨⟨⟨fitsB_yes ⟨by decide, by decide, by omega, by decide⟩, fitsB_yes ⟨by decide, by decide, by omega, by simp; omega⟩⟩, fitsB_yes ⟨by decide, by decide, by omega, by simp; omega⟩⟩, fitsB_yes ⟨by decide, by decide, by omega, by simp; omega⟩⟩, fitsB_yes ⟨by decide, by decide, by omega, by simp; omega⟩⟩, fitsB_yes ⟨by decide, by decide, by omega, by simp; omega⟩⟩, fitsB_yes ⟨by decide, by decide, by omega, by simp; omega⟩⟩, fitsB_yes ⟨by decide, by decide, by omega, by simp; omega⟩⟩, fitsB_yes ⟨by decide, by decide, by omega, by simp; omega⟩⟩, fitsB_yes ⟨by decide, by decide, by omega, by simp; omega⟩⟩, fitsB_yes ⟨by decide, by decide, by omega, by simp; omega⟩⟩, fitsB_yes ⟨by decide, by decide, by omega, by simp; omega⟩⟩, fitsB_yes ⟨by decide, by decide, by omega, by simp; omega⟩⟩, fitsB_yes ⟨by decide, by decide, by omega, by decide⟩⟩, fitsB_yes ⟨by decide, by decide, by omega, by simp; omega⟩⟩, fitsB_yes ⟨by decide, by decide, by omega, by simp; omega⟩⟩, fitsB_yes ⟨by decide, by decide, by omega, by simp; omega⟩⟩, fitsB_yes ⟨by decide, by decide, by omega, by simp; omega⟩⟩, fitsB_yes ⟨by decide, by decide, by omega, by simp; omega⟩⟩, fitsB_yes ⟨by decide, by decide, by omega, by simp; omega⟩⟩
  refine ⟨rfl, by decide, hfit, hz, rfl, pack_eq (ws := [8, 8, 32, 32, 16, 16, 32, 8, 8, 1, 1, 1, 1, 4, 8, 16, 16, 32, 16, 8]) (vs := [209, s.h.kind, s.h.frm, s.h.to, s.h.fromPort, s.h.toPort, s.h.source, s.h.tos, s.h.ttl, s.h.fixed, ck, s.df, s.h.marker, 0, s.h.type, s.h.seq, s.h.id, s.h.time, s.ds, s.chk]) (n := 20) rfl rfl (by omega) hfit hz rfl ?_⟩
  · intro i hi
    match i, hi with
    | 0, _ => exact (numAt_in _ hz 0 0 8 (by omega)).trans (by simp only [wid, List.getD_cons_zero]; omega)
    | 1, _ => exact (numAt_in _ hz 1 0 8 (by omega)).trans (by simp only [wid, List.getD_cons_zero, List.getD_cons_succ]; omega)
    | 2, _ => exact (numAt_four _ hz 2).trans (by simp only [wid, List.getD_cons_zero, List.getD_cons_succ]; omega)
    | 3, _ => exact (numAt_four _ hz 6).trans (by simp only [wid, List.getD_cons_zero, List.getD_cons_succ]; omega)
    | 4, _ => exact (numAt_two _ hz 10).trans (by simp only [wid, List.getD_cons_zero, List.getD_cons_succ]; omega)
    | 5, _ => exact (numAt_two _ hz 12).trans (by simp only [wid, List.getD_cons_zero, List.getD_cons_succ]; omega)
    | 6, _ => exact (numAt_four _ hz 14).trans (by simp only [wid, List.getD_cons_zero, List.getD_cons_succ]; omega)
    | 7, _ => exact (numAt_in _ hz 18 0 8 (by omega)).trans (by simp only [wid, List.getD_cons_zero, List.getD_cons_succ]; omega)
    | 8, _ => exact (numAt_in _ hz 19 0 8 (by omega)).trans (by simp only [wid, List.getD_cons_zero, List.getD_cons_succ]; omega)
    | 9, _ => exact (numAt_in _ hz 20 0 1 (by omega)).trans (by simp only [wid, List.getD_cons_zero, List.getD_cons_succ]; omega)
    | 10, _ => exact (numAt_in _ hz 20 1 1 (by omega)).trans (by simp only [wid, List.getD_cons_zero, List.getD_cons_succ]; omega)
    | 11, _ => exact (numAt_in _ hz 20 2 1 (by omega)).trans (by simp only [wid, List.getD_cons_zero, List.getD_cons_succ]; omega)
    | 12, _ => exact (numAt_in _ hz 20 3 1 (by omega)).trans (by simp only [wid, List.getD_cons_zero, List.getD_cons_succ]; omega)
    | 13, _ => exact (numAt_in _ hz 20 4 4 (by omega)).trans (by simp only [wid, List.getD_cons_zero, List.getD_cons_succ]; omega)
    | 14, _ => exact (numAt_in _ hz 21 0 8 (by omega)).trans (by simp only [wid, List.getD_cons_zero, List.getD_cons_succ]; omega)
    | 15, _ => exact (numAt_two _ hz 22).trans (by simp only [wid, List.getD_cons_zero, List.getD_cons_succ]; omega)
    | 16, _ => exact (numAt_two _ hz 24).trans (by simp only [wid, List.getD_cons_zero, List.getD_cons_succ]; omega)
    | 17, _ => exact (numAt_four _ hz 26).trans (by simp only [wid, List.getD_cons_zero, List.getD_cons_succ]; omega)
    | 18, _ => exact (numAt_two _ hz 30).trans (by simp only [wid, List.getD_cons_zero, List.getD_cons_succ]; omega)
    | 19, _ => exact (numAt_in _ hz 32 0 8 (by omega)).trans (by simp only [wid, List.getD_cons_zero, List.getD_cons_succ]; omega)
    | i + 20, hi => omega

theorem enc_6_0 (s : Sm) (f : s.fmt = 6) (_ : s.h.kind = 0) : encH s = [210] := by
  unfold encH; rw [f]; simp
set_option maxHeartbeats 6400000 in
theorem pack_6_0 (s : Sm) (f : s.fmt = 6) (k : s.h.kind = 0) (_ : OkS s) (ck : Int) (_ : ck = if s.h.check = 0 then 0 else 1) : PackOk (fWs 6 0) (fVs s 210 ck 6 0) (encH s) := by
  rw [enc_6_0 s f k]
  have hz : Bytes [210] := bytes_all fun z hz => by
    simp only [List.mem_cons, List.not_mem_nil, or_false] at hz
    rcases hz with rfl <;> omega
  have hfit : fitsTo [8] [210] 1 = true := by
    simp only [fitsTo, fitsAt, List.getD_cons_zero, Bool.true_and]
    exact fitsB_yes ⟨by decide, by decide, by omega, by decide⟩
  refine ⟨rfl, by decide, hfit, hz, rfl, pack_eq (ws := [8]) (vs := [210]) (n := 1) rfl rfl (by omega) hfit hz rfl ?_⟩
  · intro i hi
    match i, hi with
    | 0, _ => exact (numAt_in _ hz 0 0 8 (by omega)).trans (by simp only [wid, List.getD_cons_zero]; omega)
    | i + 1, hi => omega

theorem pack_ok (s : Sm) (v : OkS s) (ck : Int) (hck : ck = if s.h.check = 0 then 0 else 1) : PackOk (fWs s.fmt s.h.kind) (fVs s (startV s.fmt) ck s.fmt s.h.kind) (encH s) := by
  rcases v.fk with ⟨f, k⟩ | ⟨f, k⟩
  · rcases (show s.fmt = 1 ∨ s.fmt = 2 ∨ s.fmt = 3 ∨ s.fmt = 4 ∨ s.fmt = 5 by omega) with f | f | f | f | f <;> rcases k with k | k
    · have := pack_1_1 s f k v ck hck; rw [f, k]; exact this
    · have := pack_1_2 s f k v ck hck; rw [f, k]; exact this
    · have := pack_2_1 s f k v ck hck; rw [f, k]; exact this
    · have := pack_2_2 s f k v ck hck; rw [f, k]; exact this
    · have := pack_3_1 s f k v ck hck; rw [f, k]; exact this
    · have := pack_3_2 s f k v ck hck; rw [f, k]; exact this
    · have := pack_4_1 s f k v ck hck; rw [f, k]; exact this
    · have := pack_4_2 s f k v ck hck; rw [f, k]; exact this
    · have := pack_5_1 s f k v ck hck; rw [f, k]; exact this
    · have := pack_5_2 s f k v ck hck; rw [f, k]; exact this
  · have := pack_6_0 s f k v ck hck; rw [f, k]; exact this
theorem ckV_range {s : Sm} (v : OkS s) : 0 ≤ ckV s ∧ ckV s ≤ 65535 := by
  unfold ckV
  rcases v.arm with ⟨f, _, b⟩ | ⟨f, b⟩ | ⟨f, r⟩
  · rw [if_neg (by omega)]; exact b.udp
  · rw [if_pos f]; exact ⟨b.head.1.check0, b.head.1.check1⟩
  · rw [if_neg (by omega), r.udp]; omega
/-- with the checksum behind them -/
theorem pack_ck (s : Sm) (v : OkS s) (ck : Int) (hck : ck = if s.h.check = 0 then 0 else 1) :
    packV (fWs s.fmt s.h.kind ++ if ckV s = 0 then [] else [16]) (fVs s (startV s.fmt) ck s.fmt s.h.kind ++ if ckV s = 0 then [] else [ckV s]) = encH s ++ ckL s ∧ Bytes (encH s ++ ckL s) := by
  have p := pack_ok s v ck hck
  have c := ckV_range v
  unfold ckL
  by_cases h : ckV s = 0
  · rw [if_pos h, if_pos h, if_pos h, List.append_nil, List.append_nil, List.append_nil]; exact ⟨p.pack, p.bytes⟩
  · rw [if_neg h, if_neg h, if_neg h]; have l := p.le; exact ⟨pack_two rfl p.len (by omega) p.fits p.bytes p.sum p.pack c.1 c.2, p.bytes.app (two_bytes c.1 c.2)⟩
end Go.Proofs.YtkhcfmnebflgkaaDoor
