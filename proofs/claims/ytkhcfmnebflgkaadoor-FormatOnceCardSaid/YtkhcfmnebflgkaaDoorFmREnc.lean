/-
  The document's own Encode of layer 8, for valid parts. (gen_renc.py writes this text.)
-/
import Derived.Test.YtkhcfmnebflgkaaDoorFmREncX
import Derived.Test.YtkhcfmnebflgkaaDoorFmEncQ
import Derived.Deep.DeepCutAuto
import Derived.Deep.RegionHeld3
import Derived.Deep.CutBlock
import Derived.Test.YtkhcfmnebflgkaaDoorJBase
namespace Go.Proofs.YtkhcfmnebflgkaaDoor
open Go Go.RowKit

set_option maxRecDepth 100000 in
set_option maxHeartbeats 6400000 in
theorem rEnc_no (s : Sm) (w : World) (hf : s.h.Fits) (v : smB s = false) :
    Calls Tryd.prog 11 #[(.agg #[.int .i64 s.ctx, .int .i64 s.fmt, .int .i64 s.num, .int .i64 s.time, .int .i64 s.mark, .int .i64 s.id, .int .i64 s.udp, .int .i64 s.h.kind, .int .i64 s.h.tos, .int .i64 s.h.id, .int .i64 s.h.fixed, .int .i64 s.h.ttl, .int .i64 s.h.frm, .int .i64 s.h.to, .int .i64 s.h.fromPort, .int .i64 s.h.toPort, .int .i64 s.h.check, .int .i64 s.h.marker, .int .i64 s.h.type, .int .i64 s.h.seq, .int .i64 s.h.time, .int .i64 s.h.source, .int .i64 s.ds, .int .i64 s.df, .int .i64 s.chk, .slice s.pa s.pn s.pc])] w fun e w' => e = .returned (.tuple #[.slice none 0 0, .int .i64 1]) ∧ Below w.heap.size w w' := by
  have KA := Lib.hid (heap_alloc_new w (.cells #[.int .i64 s.ctx, .int .i64 s.fmt, .int .i64 s.num, .int .i64 s.time, .int .i64 s.mark, .int .i64 s.id, .int .i64 s.udp, .int .i64 s.h.kind, .int .i64 s.h.tos, .int .i64 s.h.id, .int .i64 s.h.fixed, .int .i64 s.h.ttl, .int .i64 s.h.frm, .int .i64 s.h.to, .int .i64 s.h.fromPort, .int .i64 s.h.toPort, .int .i64 s.h.check, .int .i64 s.h.marker, .int .i64 s.h.type, .int .i64 s.h.seq, .int .i64 s.h.time, .int .i64 s.h.source, .int .i64 s.ds, .int .i64 s.df, .int .i64 s.chk, .slice s.pa s.pn s.pc] 28))
  have BW := Lib.hid ((Below.refl w.heap.size w).alloc (Nat.le_refl _) (.cells #[.int .i64 s.ctx, .int .i64 s.fmt, .int .i64 s.num, .int .i64 s.time, .int .i64 s.mark, .int .i64 s.id, .int .i64 s.udp, .int .i64 s.h.kind, .int .i64 s.h.tos, .int .i64 s.h.id, .int .i64 s.h.fixed, .int .i64 s.h.ttl, .int .i64 s.h.frm, .int .i64 s.h.to, .int .i64 s.h.fromPort, .int .i64 s.h.toPort, .int .i64 s.h.check, .int .i64 s.h.marker, .int .i64 s.h.type, .int .i64 s.h.seq, .int .i64 s.h.time, .int .i64 s.h.source, .int .i64 s.ds, .int .i64 s.df, .int .i64 s.chk, .slice s.pa s.pn s.pc] 28))
  have CV := Lib.hid (fun W => rSmall_any s W hf)
  rw [v] at CV
  clear v hf
  go_enter Tryd.func11, Tryd.ntmps11
  go_upto_region 1 with fail
  refine wp_region_lit ?_
  refine wpList_load_sm KA.out rfl _ rfl rfl ?_
  go_wp2_with (first | (go_at_call 14; ((with_reducible refine (CV.out _).mono ?_); rintro e w2 ⟨rfl, hb⟩)) | fail)
  go_ret2
  exact ⟨rfl, BW.out.trans (hb.mono BW.out.size)⟩

theorem re_ck {s : Sm} (v : OkS s) : ctxL s ++ encH s ++ (if s.udp = 0 then [] else putB 2 s.udp 2) ++ cond ((s.fmt == 4 || s.fmt == 5) && s.h.check != 0) (putB 2 s.h.check 2) [] = ctxL s ++ (encH s ++ ckL s) := by
  have p2 : ∀ x : Int, 0 ≤ x ∧ x ≤ 65535 → putB 2 x 2 = [x / 256, x % 256] := fun x h => by rw [putB2, Int.emod_eq_of_lt (by omega) (by omega : x / 256 < 256)]
  unfold ckL ckV
  rcases v.arm with ⟨f, _, b⟩ | ⟨f, b⟩ | ⟨f, r⟩
  · have e : ((s.fmt == 4 || s.fmt == 5) && s.h.check != 0) = false := by
      have e4 : (s.fmt == 4) = false := by simp; omega
      have e5 : (s.fmt == 5) = false := by simp; omega
      rw [e4, e5]; rfl
    rw [e, if_neg (show ¬ (s.fmt = 4 ∨ s.fmt = 5) by omega), p2 _ b.udp]
    simp
  · have e : (s.fmt == 4 || s.fmt == 5) = true := by rcases f with f | f <;> rw [f] <;> rfl
    rw [e, if_pos f, b.udp, p2 _ ⟨b.head.1.check0, b.head.1.check1⟩]
    by_cases h : s.h.check = 0
    · simp [h]
    · have h2 : (s.h.check != 0) = true := by simpa using h
      simp [h, h2]
  · have e : ((s.fmt == 4 || s.fmt == 5) && s.h.check != 0) = false := by rw [f]; rfl
    rw [e, if_neg (show ¬ (s.fmt = 4 ∨ s.fmt = 5) by omega), r.udp]
    simp

set_option maxRecDepth 100000 in
set_option maxHeartbeats 6400000 in
theorem rEnc_ok (s : Sm) (w : World) (hf : s.h.Fits) (hv : smB s = true) (hin : s.In w) :
    Calls Tryd.prog 11 #[(.agg #[.int .i64 s.ctx, .int .i64 s.fmt, .int .i64 s.num, .int .i64 s.time, .int .i64 s.mark, .int .i64 s.id, .int .i64 s.udp, .int .i64 s.h.kind, .int .i64 s.h.tos, .int .i64 s.h.id, .int .i64 s.h.fixed, .int .i64 s.h.ttl, .int .i64 s.h.frm, .int .i64 s.h.to, .int .i64 s.h.fromPort, .int .i64 s.h.toPort, .int .i64 s.h.check, .int .i64 s.h.marker, .int .i64 s.h.type, .int .i64 s.h.seq, .int .i64 s.h.time, .int .i64 s.h.source, .int .i64 s.ds, .int .i64 s.df, .int .i64 s.chk, .slice s.pa s.pn s.pc])] w (EncR (encL s) w) := by
  have v := ok_of hv
  have KA := Lib.hid (heap_alloc_new w (.cells #[.int .i64 s.ctx, .int .i64 s.fmt, .int .i64 s.num, .int .i64 s.time, .int .i64 s.mark, .int .i64 s.id, .int .i64 s.udp, .int .i64 s.h.kind, .int .i64 s.h.tos, .int .i64 s.h.id, .int .i64 s.h.fixed, .int .i64 s.h.ttl, .int .i64 s.h.frm, .int .i64 s.h.to, .int .i64 s.h.fromPort, .int .i64 s.h.toPort, .int .i64 s.h.check, .int .i64 s.h.marker, .int .i64 s.h.type, .int .i64 s.h.seq, .int .i64 s.h.time, .int .i64 s.h.source, .int .i64 s.ds, .int .i64 s.df, .int .i64 s.chk, .slice s.pa s.pn s.pc] 28))
  have BW := Lib.hid ((Below.refl w.heap.size w).alloc (Nat.le_refl _) (.cells #[.int .i64 s.ctx, .int .i64 s.fmt, .int .i64 s.num, .int .i64 s.time, .int .i64 s.mark, .int .i64 s.id, .int .i64 s.udp, .int .i64 s.h.kind, .int .i64 s.h.tos, .int .i64 s.h.id, .int .i64 s.h.fixed, .int .i64 s.h.ttl, .int .i64 s.h.frm, .int .i64 s.h.to, .int .i64 s.h.fromPort, .int .i64 s.h.toPort, .int .i64 s.h.check, .int .i64 s.h.marker, .int .i64 s.h.type, .int .i64 s.h.seq, .int .i64 s.h.time, .int .i64 s.h.source, .int .i64 s.ds, .int .i64 s.df, .int .i64 s.chk, .slice s.pa s.pn s.pc] 28))
  have CV := Lib.hid (fun W => rSmall_any s W hf)
  rw [hv] at CV
  have HI := Lib.hid hin
  have V := Lib.hid v
  have hc15 := v.ctx.2
  clear hv hf hin v
  go_enter Tryd.func11, Tryd.ntmps11
  go_upto_region 1 with fail
  refine wp_region_lit ?_
  refine wpList_load_sm KA.out rfl _ rfl rfl ?_
  go_upto_region 3 with (first | (go_at_call 14; ((with_reducible refine (CV.out _).mono ?_); rintro e W0 ⟨rfl, hb⟩)) | fail)
  have R0 : Hid (RE w W0 s none 0 0 []) := Lib.hid ⟨Mk.nil _ _ _ _, fun _ => rfl, (fun x e => by cases e), (hb.block _ (lt_of_block KA.out)).trans KA.out, BW.out.trans (hb.mono BW.out.size)⟩
  have k0 := R0.out.cell
  clear hb KA BW CV
  go_upto_if 12 with fail
  go_cut [4] (fun s4 wc => ∃ a n c wx, s4 = .slice a n c ∧ wx = wc ∧ RE w wx s a n c (ctxL s) ∧ n ≤ 1)
  case first =>
    by_cases hc : 0 < s.ctx
    · have HC : Hid (ctxL s = [224 + s.ctx]) := Lib.hid (by unfold ctxL; rw [if_pos hc])
      go_wp2_with (first | (at_builtin; refine wpList_push_re rfl (.tmp 13) (.tmp 18) rfl R0.out (224 + s.ctx) (by omega) (by omega) rfl W0.heap.size rfl rfl (by omega) ?_; intro g1 c1 W1 q; have R1 := Lib.hid q; have k1 := R1.out.cell; clear q) | fail)
      go_meet
      exact ⟨_, _, _, _, rfl, rfl, by rw [HC.out]; exact R1.out, by omega⟩
    · have HC : Hid (ctxL s = []) := Lib.hid (by unfold ctxL; rw [if_neg hc])
      go_wp2_with fail
      go_meet
      exact ⟨_, _, _, _, rfl, rfl, by rw [HC.out]; exact R0.out, by omega⟩
  case rest =>
    obtain ⟨a0, n, c0, W1, rfl, rfl, q1, hn1⟩ := hcut
    clear R0 k0
    have R1 := Lib.hid q1
    have k1 := R1.out.cell
    clear q1
    go_upto_block 0 with fail
    go_cut [4, 5] (fun s4 _ wc => ∃ a n c wx, s4 = .slice a n c ∧ wx = wc ∧ RE w wx s a n c (ctxL s ++ encH s) ∧ n ≤ 102)
    case first =>
      rcases V.out.arm with ⟨f3, kk, b⟩ | ⟨f, b⟩ | ⟨f, b⟩
      · rcases (show s.fmt = 1 ∨ s.fmt = 2 ∨ s.fmt = 3 by have := V.out.fmt; omega) with f | f | f <;> rcases kk with k | k <;> clear f3
        · as_aux_lemma =>
            have f1 : (s.fmt == 1) = true := by rw [f]; rfl
            have f2 : (s.fmt == 2) = false := by rw [f]; rfl
            have f3 : (s.fmt == 3) = false := by rw [f]; rfl
            have f4 : (s.fmt == 4) = false := by rw [f]; rfl
            have f5 : (s.fmt == 5) = false := by rw [f]; rfl
            have f6 : (s.fmt == 6) = false := by rw [f]; rfl
            have K2 : (s.h.kind == 2) = false := by rw [k]; rfl
            have e1 := b.num
            have e2 := b.time
            have e3 := b.mark
            have e4 := b.id
            have e5 := b.chk
            rw [f, k] at e1 e2 e3 e4
            rw [f] at e5
            simp only [smNumM, smTimeM, smMarkM, smIdM, smChkM] at e1 e2 e3 e4 e5
            simp at e1 e2 e3 e4 e5
            have HL : Hid (ctxL s ++ encH s = ctxL s ++ [8 * s.num + s.chk]) := Lib.hid (by unfold encH; rw [f]; simp)
            clear f k b
            go_wp2_with (first | (at_builtin; refine wpList_push_re rfl (.tmp 31) (.tmp 39) rfl R1.out (8 * s.num + s.chk) (by omega) (by omega) rfl W1.heap.size rfl rfl (by omega) ?_; intro g2 c2 W2 q; have R2 := Lib.hid q; have k2 := R2.out.cell; clear q) | fail)
            go_meet
            exact ⟨_, _, _, _, rfl, rfl, by rw [HL.out]; exact R2.out, by omega⟩
        · as_aux_lemma =>
            have f1 : (s.fmt == 1) = true := by rw [f]; rfl
            have f2 : (s.fmt == 2) = false := by rw [f]; rfl
            have f3 : (s.fmt == 3) = false := by rw [f]; rfl
            have f4 : (s.fmt == 4) = false := by rw [f]; rfl
            have f5 : (s.fmt == 5) = false := by rw [f]; rfl
            have f6 : (s.fmt == 6) = false := by rw [f]; rfl
            have K2 : (s.h.kind == 2) = true := by rw [k]; rfl
            have e1 := b.num
            have e2 := b.time
            have e3 := b.mark
            have e4 := b.id
            have e5 := b.chk
            rw [f, k] at e1 e2 e3 e4
            rw [f] at e5
            simp only [smNumM, smTimeM, smMarkM, smIdM, smChkM] at e1 e2 e3 e4 e5
            simp at e1 e2 e3 e4 e5
            have HL : Hid (ctxL s ++ encH s = ctxL s ++ [8 * s.num + s.chk]) := Lib.hid (by unfold encH; rw [f]; simp)
            clear f k b
            go_wp2_with (first | (at_builtin; refine wpList_push_re rfl (.tmp 31) (.tmp 39) rfl R1.out (8 * s.num + s.chk) (by omega) (by omega) rfl W1.heap.size rfl rfl (by omega) ?_; intro g2 c2 W2 q; have R2 := Lib.hid q; have k2 := R2.out.cell; clear q) | fail)
            go_meet
            exact ⟨_, _, _, _, rfl, rfl, by rw [HL.out]; exact R2.out, by omega⟩
        · as_aux_lemma =>
            have f1 : (s.fmt == 1) = false := by rw [f]; rfl
            have f2 : (s.fmt == 2) = true := by rw [f]; rfl
            have f3 : (s.fmt == 3) = false := by rw [f]; rfl
            have f4 : (s.fmt == 4) = false := by rw [f]; rfl
            have f5 : (s.fmt == 5) = false := by rw [f]; rfl
            have f6 : (s.fmt == 6) = false := by rw [f]; rfl
            have K2 : (s.h.kind == 2) = false := by rw [k]; rfl
            have e1 := b.num
            have e2 := b.time
            have e3 := b.mark
            have e4 := b.id
            have e5 := b.chk
            rw [f, k] at e1 e2 e3 e4
            rw [f] at e5
            simp only [smNumM, smTimeM, smMarkM, smIdM, smChkM] at e1 e2 e3 e4 e5
            simp at e1 e2 e3 e4 e5
            have HL : Hid (ctxL s ++ encH s = ctxL s ++ [128 + 32 * s.mark + s.num] ++ [s.chk]) := Lib.hid (by unfold encH; rw [f]; simp [k, List.append_assoc])
            clear f k b
            go_wp2_with (first | (at_builtin; refine wpList_push_re rfl (.tmp 43) (.tmp 52) rfl R1.out (128 + 32 * s.mark + s.num) (by omega) (by omega) rfl W1.heap.size rfl rfl (by omega) ?_; intro g2 c2 W2 q; have R2 := Lib.hid q; have k2 := R2.out.cell; clear q) | (at_builtin; refine wpList_push_re rfl (.tmp 59) (.tmp 63) rfl R2.out (s.chk) (by omega) (by omega) rfl W2.heap.size rfl rfl (by omega) ?_; intro g3 c3 W3 q; have R3 := Lib.hid q; have k3 := R3.out.cell; clear q) | fail)
            go_meet
            exact ⟨_, _, _, _, rfl, rfl, by rw [HL.out]; exact R3.out, by omega⟩
        · as_aux_lemma =>
            have f1 : (s.fmt == 1) = false := by rw [f]; rfl
            have f2 : (s.fmt == 2) = true := by rw [f]; rfl
            have f3 : (s.fmt == 3) = false := by rw [f]; rfl
            have f4 : (s.fmt == 4) = false := by rw [f]; rfl
            have f5 : (s.fmt == 5) = false := by rw [f]; rfl
            have f6 : (s.fmt == 6) = false := by rw [f]; rfl
            have K2 : (s.h.kind == 2) = true := by rw [k]; rfl
            have e1 := b.num
            have e2 := b.time
            have e3 := b.mark
            have e4 := b.id
            have e5 := b.chk
            rw [f, k] at e1 e2 e3 e4
            rw [f] at e5
            simp only [smNumM, smTimeM, smMarkM, smIdM, smChkM] at e1 e2 e3 e4 e5
            simp at e1 e2 e3 e4 e5
            have HL : Hid (ctxL s ++ encH s = ctxL s ++ [128 + 32 * s.mark + s.num] ++ putB 2 s.time 2 ++ [s.chk]) := Lib.hid (by unfold encH; rw [f]; simp [k, List.append_assoc])
            clear f k b
            go_wp2_with (first | (at_builtin; refine wpList_push_re rfl (.tmp 43) (.tmp 52) rfl R1.out (128 + 32 * s.mark + s.num) (by omega) (by omega) rfl W1.heap.size rfl rfl (by omega) ?_; intro g2 c2 W2 q; have R2 := Lib.hid q; have k2 := R2.out.cell; clear q) | (go_at_call 31; ((with_reducible refine (Put_lit w.heap.size _ (n + 1) _ 2 (n + 1 + 2) 2 (s.time) _ _ R2.out.m R2.out.z R2.out.b.size rfl rfl (by omega) (by omega)).mono ?_); rintro e W3 ⟨a3, c3, rfl, gr, nz⟩; have R3 := Lib.hid (R2.out.put gr nz); have k3 := R3.out.cell; clear gr nz)) | (at_builtin; refine wpList_push_re rfl (.tmp 59) (.tmp 63) rfl R3.out (s.chk) (by omega) (by omega) rfl W3.heap.size rfl rfl (by omega) ?_; intro g4 c4 W4 q; have R4 := Lib.hid q; have k4 := R4.out.cell; clear q) | fail)
            go_meet
            exact ⟨_, _, _, _, rfl, rfl, by rw [HL.out]; exact R4.out, by omega⟩
        · as_aux_lemma =>
            have f1 : (s.fmt == 1) = false := by rw [f]; rfl
            have f2 : (s.fmt == 2) = false := by rw [f]; rfl
            have f3 : (s.fmt == 3) = true := by rw [f]; rfl
            have f4 : (s.fmt == 4) = false := by rw [f]; rfl
            have f5 : (s.fmt == 5) = false := by rw [f]; rfl
            have f6 : (s.fmt == 6) = false := by rw [f]; rfl
            have K2 : (s.h.kind == 2) = false := by rw [k]; rfl
            have e1 := b.num
            have e2 := b.time
            have e3 := b.mark
            have e4 := b.id
            have e5 := b.chk
            rw [f, k] at e1 e2 e3 e4
            rw [f] at e5
            simp only [smNumM, smTimeM, smMarkM, smIdM, smChkM] at e1 e2 e3 e4 e5
            simp at e1 e2 e3 e4 e5
            have HL : Hid (ctxL s ++ encH s = ctxL s ++ [192 + s.mark] ++ putB 2 s.num 2 ++ [s.chk]) := Lib.hid (by unfold encH; rw [f]; simp [k, List.append_assoc])
            clear f k b
            go_wp2_with (first | (at_builtin; refine wpList_push_re rfl (.tmp 67) (.tmp 72) rfl R1.out (192 + s.mark) (by omega) (by omega) rfl W1.heap.size rfl rfl (by omega) ?_; intro g2 c2 W2 q; have R2 := Lib.hid q; have k2 := R2.out.cell; clear q) | (go_at_call 31; ((with_reducible refine (Put_lit w.heap.size _ (n + 1) _ 2 (n + 1 + 2) 2 (s.num) _ _ R2.out.m R2.out.z R2.out.b.size rfl rfl (by omega) (by omega)).mono ?_); rintro e W3 ⟨a3, c3, rfl, gr, nz⟩; have R3 := Lib.hid (R2.out.put gr nz); have k3 := R3.out.cell; clear gr nz)) | (at_builtin; refine wpList_push_re rfl (.tmp 89) (.tmp 93) rfl R3.out (s.chk) (by omega) (by omega) rfl W3.heap.size rfl rfl (by omega) ?_; intro g4 c4 W4 q; have R4 := Lib.hid q; have k4 := R4.out.cell; clear q) | fail)
            go_meet
            exact ⟨_, _, _, _, rfl, rfl, by rw [HL.out]; exact R4.out, by omega⟩
        · as_aux_lemma =>
            have f1 : (s.fmt == 1) = false := by rw [f]; rfl
            have f2 : (s.fmt == 2) = false := by rw [f]; rfl
            have f3 : (s.fmt == 3) = true := by rw [f]; rfl
            have f4 : (s.fmt == 4) = false := by rw [f]; rfl
            have f5 : (s.fmt == 5) = false := by rw [f]; rfl
            have f6 : (s.fmt == 6) = false := by rw [f]; rfl
            have K2 : (s.h.kind == 2) = true := by rw [k]; rfl
            have e1 := b.num
            have e2 := b.time
            have e3 := b.mark
            have e4 := b.id
            have e5 := b.chk
            rw [f, k] at e1 e2 e3 e4
            rw [f] at e5
            simp only [smNumM, smTimeM, smMarkM, smIdM, smChkM] at e1 e2 e3 e4 e5
            simp at e1 e2 e3 e4 e5
            have HL : Hid (ctxL s ++ encH s = ctxL s ++ [192 + s.mark] ++ putB 1 s.num 1 ++ putB 4 s.time 4 ++ putB 2 s.id 2 ++ [s.chk]) := Lib.hid (by unfold encH; rw [f]; simp [k, List.append_assoc])
            clear f k b
            go_upto_region 19 with (first | (at_builtin; refine wpList_push_re rfl (.tmp 67) (.tmp 72) rfl R1.out (192 + s.mark) (by omega) (by omega) rfl W1.heap.size rfl rfl (by omega) ?_; intro g2 c2 W2 q; have R2 := Lib.hid q; have k2 := R2.out.cell; clear q) | fail)
            have RD : Hid (RE w W2.drew s _ _ _ _) := Lib.hid (R2.out.keep ((Below.refl W2.heap.size W2).drew))
            have S2 : W2.drew.cell? ⟨w.heap.size, 2, none⟩ = some (.int .i64 s.num) ∧ W2.drew.cell? ⟨w.heap.size, 3, none⟩ = some (.int .i64 s.time) ∧ W2.drew.cell? ⟨w.heap.size, 5, none⟩ = some (.int .i64 s.id) := ⟨RD.out.cell 2, RD.out.cell 3, RD.out.cell 5⟩
            clear R2 k2
            have R2 := RD
            go_region_held3 (fun W => W.cell? ⟨w.heap.size, 2, none⟩ = some (.int .i64 s.num) ∧ W.cell? ⟨w.heap.size, 3, none⟩ = some (.int .i64 s.time) ∧ W.cell? ⟨w.heap.size, 5, none⟩ = some (.int .i64 s.id)) (first | with_reducible exact S2 | with_reducible exact S3 | with_reducible exact S4 | with_reducible exact S5 | go_keep) (first | (go_at_call 31; ((with_reducible refine (Put_lit w.heap.size _ (n + 1) _ 1 (n + 1 + 1) 1 (s.num) _ _ R2.out.m R2.out.z R2.out.b.size rfl rfl (by omega) (by omega)).mono ?_); rintro e W3 ⟨a3, c3, rfl, gr, nz⟩; have R3 := Lib.hid (R2.out.put gr nz); have k3 := R3.out.cell; have S3 : W3.cell? ⟨w.heap.size, 2, none⟩ = some (.int .i64 s.num) ∧ W3.cell? ⟨w.heap.size, 3, none⟩ = some (.int .i64 s.time) ∧ W3.cell? ⟨w.heap.size, 5, none⟩ = some (.int .i64 s.id) := ⟨R3.out.cell 2, R3.out.cell 3, R3.out.cell 5⟩; clear gr nz)) | (go_at_call 31; ((with_reducible refine (Put_lit w.heap.size _ (n + 2) _ 4 (n + 2 + 4) 4 (s.time) _ _ R3.out.m R3.out.z R3.out.b.size rfl rfl (by omega) (by omega)).mono ?_); rintro e W4 ⟨a4, c4, rfl, gr, nz⟩; have R4 := Lib.hid (R3.out.put gr nz); have k4 := R4.out.cell; have S4 : W4.cell? ⟨w.heap.size, 2, none⟩ = some (.int .i64 s.num) ∧ W4.cell? ⟨w.heap.size, 3, none⟩ = some (.int .i64 s.time) ∧ W4.cell? ⟨w.heap.size, 5, none⟩ = some (.int .i64 s.id) := ⟨R4.out.cell 2, R4.out.cell 3, R4.out.cell 5⟩; clear gr nz)) | (go_at_call 31; ((with_reducible refine (Put_lit w.heap.size _ (n + 6) _ 2 (n + 6 + 2) 2 (s.id) _ _ R4.out.m R4.out.z R4.out.b.size rfl rfl (by omega) (by omega)).mono ?_); rintro e W5 ⟨a5, c5, rfl, gr, nz⟩; have R5 := Lib.hid (R4.out.put gr nz); have k5 := R5.out.cell; have S5 : W5.cell? ⟨w.heap.size, 2, none⟩ = some (.int .i64 s.num) ∧ W5.cell? ⟨w.heap.size, 3, none⟩ = some (.int .i64 s.time) ∧ W5.cell? ⟨w.heap.size, 5, none⟩ = some (.int .i64 s.id) := ⟨R5.out.cell 2, R5.out.cell 3, R5.out.cell 5⟩; clear gr nz)) | fail)
            clear S2 S3 S4 S5
            go_wp2_with (first | (at_builtin; refine wpList_push_re rfl (.tmp 89) (.tmp 93) rfl R5.out (s.chk) (by omega) (by omega) rfl W5.heap.size rfl rfl (by omega) ?_; intro g6 c6 W6 q; have R6 := Lib.hid q; have k6 := R6.out.cell; clear q) | fail)
            go_meet
            exact ⟨_, _, _, _, rfl, rfl, by rw [HL.out]; exact R6.out, by omega⟩
      · rcases f with f | f
        · as_aux_lemma =>
            have f1 : (s.fmt == 1) = false := by rw [f]; rfl
            have f2 : (s.fmt == 2) = false := by rw [f]; rfl
            have f3 : (s.fmt == 3) = false := by rw [f]; rfl
            have f4 : (s.fmt == 4) = true := by rw [f]; rfl
            have f5 : (s.fmt == 5) = false := by rw [f]; rfl
            have f6 : (s.fmt == 6) = false := by rw [f]; rfl
            have HL : Hid (ctxL s ++ encH s = ctxL s ++ [208] ++ dynL s ++ [s.chk]) := Lib.hid (by unfold encH; rw [f]; simp [List.append_assoc])
            have CD := Lib.hid (fun W => rDyn_all s W b)
            have hd14 : dynN s ≤ 14 := by unfold dynN; split <;> omega
            have e5 := b.chk
            obtain ⟨e5a, e5b⟩ := e5
            clear f b
            go_upto_region 23 with fail
            have X1 : Hid (RX w W1.drew s a0 n c0 (ctxL s) []) := Lib.hid ⟨R1.out.keep ((Below.refl W1.heap.size W1).drew), fun t ht => by cases ht⟩
            refine wp_region_noPanic ?_
            refine wp_region_held_drew (S := fun W => Blk 28 W w.heap.size #[.int .i64 s.ctx, .int .i64 s.fmt, .int .i64 s.num, .int .i64 s.time, .int .i64 s.mark, .int .i64 s.id, .int .i64 s.udp, .int .i64 s.h.kind, .int .i64 s.h.tos, .int .i64 s.h.id, .int .i64 s.h.fixed, .int .i64 s.h.ttl, .int .i64 s.h.frm, .int .i64 s.h.to, .int .i64 s.h.fromPort, .int .i64 s.h.toPort, .int .i64 s.h.check, .int .i64 s.h.marker, .int .i64 s.h.type, .int .i64 s.h.seq, .int .i64 s.h.time, .int .i64 s.h.source, .int .i64 s.ds, .int .i64 s.df, .int .i64 s.chk, .slice s.pa s.pn s.pc]) (by kernel_rfl) X1.out.r.p (fun hHeld => ?_)
            generalize hW2 : W1.drew = W2 at X1 hHeld ⊢
            clear hW2 R1 k1
            refine take_lit (i := 0) (v := .slice a0 n c0) 97 rfl rfl (by kernel_rfl) (by kernel_rfl) (by kernel_rfl) (fun _ _ _ h => h) (Or.inl ⟨by rfl, fun w hSw => by go_simp⟩) (by assumption) ?_
            simp only [Act.put, List.setIfInBounds_toArray, List.set_cons_zero, List.set_cons_succ]
            refine take_lit (i := 3) (v := (.agg #[.int .i64 s.ctx, .int .i64 s.fmt, .int .i64 s.num, .int .i64 s.time, .int .i64 s.mark, .int .i64 s.id, .int .i64 s.udp, .int .i64 s.h.kind, .int .i64 s.h.tos, .int .i64 s.h.id, .int .i64 s.h.fixed, .int .i64 s.h.ttl, .int .i64 s.h.frm, .int .i64 s.h.to, .int .i64 s.h.fromPort, .int .i64 s.h.toPort, .int .i64 s.h.check, .int .i64 s.h.marker, .int .i64 s.h.type, .int .i64 s.h.seq, .int .i64 s.h.time, .int .i64 s.h.source, .int .i64 s.ds, .int .i64 s.df, .int .i64 s.chk, .slice s.pa s.pn s.pc])) 100 rfl rfl (by kernel_rfl) (by kernel_rfl) (by kernel_rfl) (fun _ _ _ h => h) (yieldsIf_load_mid (by rfl) _ _ rfl _ _ rfl _ _ (fun W p => sm_range p) Tryd.underlying28 rfl info_sm) (by assumption) ?_
            simp only [Act.put, List.setIfInBounds_toArray, List.set_cons_zero, List.set_cons_succ]
            refine take_lit (i := 6) (v := .pointer (some ⟨w.heap.size, 24, none⟩)) 103 rfl rfl (by kernel_rfl) (by kernel_rfl) (by kernel_rfl) (fun _ _ _ h => h) (Or.inl ⟨by rfl, fun w hSw => by go_simp⟩) (by assumption) ?_
            simp only [Act.put, List.setIfInBounds_toArray, List.set_cons_zero, List.set_cons_succ]
            refine take_lit (i := 7) (v := .int .i64 s.chk) 104 rfl rfl (by kernel_rfl) (by kernel_rfl) (by kernel_rfl) (fun _ _ _ h => h) (Or.inl ⟨by rfl, fun W hS => by have h9 : W.cell? ⟨w.heap.size, 24, none⟩ = some (.int .i64 s.chk) := cells_of hS 24; clear hS; go_simp⟩) (by assumption) ?_
            simp only [Act.put, List.setIfInBounds_toArray, List.set_cons_zero, List.set_cons_succ]
            refine take_lit (i := 8) (v := .int .u8 s.chk) 105 rfl rfl (by kernel_rfl) (by kernel_rfl) (by kernel_rfl) (fun _ _ _ h => h) (Or.inl ⟨by rfl, fun W hS => by have e8 : IntKind.u8.wrap s.chk = s.chk := (by simp [IntKind.wrap, IntKind.signed, IntKind.bits]; omega); clear hS; go_simp; try exact e8⟩) (by assumption) ?_
            simp only [Act.put, List.setIfInBounds_toArray, List.set_cons_zero, List.set_cons_succ]
            refine wpAnyH_ready (rs := [1, 9]) (by kernel_rfl) (by simp) ?_
            refine AllReadyH.cons rfl (fun K hK => ?_) (AllReadyH.cons rfl (fun K hK => ?_) (AllReadyH.nil))
            · go_simp
              have X3 := Lib.hid (X1.out.lit (208) (by omega) (by omega))
              refine hK.out _ _ X3.out.r.p (fun hHeld => ?_)
              clear hK K X1
              generalize hW3 : W2.alloc (.cells #[.int .u8 (208)] 5) = W3 at X3 hHeld ⊢
              clear hW3
              refine wpAnyH_ready (rs := [2, 9]) (by kernel_rfl) (by simp) ?_
              refine AllReadyH.cons rfl (fun K hK => ?_) (AllReadyH.cons rfl (fun K hK => ?_) (AllReadyH.nil))
              · skip
                refine step_rx rfl 99 rfl (.tmp 97) (.tmp 98) rfl X3.out (List.Mem.head _) rfl rfl (by omega) ?_
                intro a4 c4 W4 q
                have X4 := Lib.hid q
                refine hK.out _ _ X4.out.r.p (fun hHeld => ?_)
                clear hK K q X3
                simp only [Act.put, List.setIfInBounds_toArray, List.set_cons_zero, List.set_cons_succ]
                refine wpAnyH_ready (rs := [4, 9]) (by kernel_rfl) (by simp) ?_
                refine AllReadyH.cons rfl (fun K hK => ?_) (AllReadyH.cons rfl (fun K hK => ?_) (AllReadyH.nil))
                · go_simp
                  go_at_call 32
                  with_reducible refine (CD.out _).mono ?_
                  rintro e W5 ⟨g5, p5, rfl, hm, hb⟩
                  have X5 := Lib.hid (X4.out.made hm hb)
                  refine hK.out _ _ X5.out.r.p (fun hHeld => ?_)
                  clear hK K hm hb X4
                  refine wpAnyH_ready (rs := [5, 9]) (by kernel_rfl) (by simp) ?_
                  refine AllReadyH.cons rfl (fun K hK => ?_) (AllReadyH.cons rfl (fun K hK => ?_) (AllReadyH.nil))
                  · skip
                    refine step_rx rfl 102 rfl (.tmp 99) (.tmp 101) rfl X5.out (List.Mem.head _) rfl rfl (by omega) ?_
                    intro a6 c6 W6 q
                    have X6 := Lib.hid q
                    refine hK.out _ _ X6.out.r.p (fun hHeld => ?_)
                    clear hK K q X5
                    simp only [Act.put, List.setIfInBounds_toArray, List.set_cons_zero, List.set_cons_succ]
                    refine wpAnyH_ready (rs := [9]) (by kernel_rfl) (by simp) ?_
                    refine AllReadyH.cons rfl (fun K hK => ?_) (AllReadyH.nil)
                    · go_simp
                      have X7 := Lib.hid (X6.out.lit (s.chk) (by omega) (by omega))
                      refine hK.out _ _ X7.out.r.p (fun hHeld => ?_)
                      clear hK K X6
                      generalize hW7 : W6.alloc (.cells #[.int .u8 (s.chk)] 5) = W7 at X7 hHeld ⊢
                      clear hW7
                      refine wpAnyH_ready (rs := [10]) (by kernel_rfl) (by simp) ?_
                      refine AllReadyH.cons rfl (fun K hK => ?_) (AllReadyH.nil)
                      · skip
                        refine step_rx rfl 107 rfl (.tmp 102) (.tmp 106) rfl X7.out (List.Mem.head _) rfl rfl (by omega) ?_
                        intro a8 c8 W8 q
                        have X8 := Lib.hid q
                        refine hK.out _ _ X8.out.r.p (fun hHeld => ?_)
                        clear hK K q X7
                        simp only [Act.put, List.setIfInBounds_toArray, List.set_cons_zero, List.set_cons_succ]
                        refine take_lit (i := 11) (v := .slice a8 (n + 1 + dynN s + 1) c8) 4 rfl rfl (by kernel_rfl) (by kernel_rfl) (by kernel_rfl) (fun _ _ _ h => h) (Or.inl ⟨by rfl, fun w hSw => by go_simp⟩) (by assumption) ?_
                        simp only [Act.put, List.setIfInBounds_toArray, List.set_cons_zero, List.set_cons_succ]
                        refine wpAnyH_done (by kernel_rfl) ?_ _
                        refine NoPanic.normal ?_
                        go_wp2_with fail
                        go_meet
                        exact ⟨_, _, _, _, rfl, rfl, by rw [HL.out]; exact X8.out.r, by omega⟩
                  · go_simp
                    have X6 := Lib.hid (X5.out.lit (s.chk) (by omega) (by omega))
                    refine hK.out _ _ X6.out.r.p (fun hHeld => ?_)
                    clear hK K X5
                    generalize hW6 : W5.alloc (.cells #[.int .u8 (s.chk)] 5) = W6 at X6 hHeld ⊢
                    clear hW6
                    refine wpAnyH_ready (rs := [5]) (by kernel_rfl) (by simp) ?_
                    refine AllReadyH.cons rfl (fun K hK => ?_) (AllReadyH.nil)
                    · skip
                      refine step_rx rfl 102 rfl (.tmp 99) (.tmp 101) rfl X6.out (List.Mem.tail _ (List.Mem.head _)) rfl rfl (by omega) ?_
                      intro a7 c7 W7 q
                      have X7 := Lib.hid q
                      refine hK.out _ _ X7.out.r.p (fun hHeld => ?_)
                      clear hK K q X6
                      simp only [Act.put, List.setIfInBounds_toArray, List.set_cons_zero, List.set_cons_succ]
                      refine wpAnyH_ready (rs := [10]) (by kernel_rfl) (by simp) ?_
                      refine AllReadyH.cons rfl (fun K hK => ?_) (AllReadyH.nil)
                      · skip
                        refine step_rx rfl 107 rfl (.tmp 102) (.tmp 106) rfl X7.out (List.Mem.head _) rfl rfl (by omega) ?_
                        intro a8 c8 W8 q
                        have X8 := Lib.hid q
                        refine hK.out _ _ X8.out.r.p (fun hHeld => ?_)
                        clear hK K q X7
                        simp only [Act.put, List.setIfInBounds_toArray, List.set_cons_zero, List.set_cons_succ]
                        refine take_lit (i := 11) (v := .slice a8 (n + 1 + dynN s + 1) c8) 4 rfl rfl (by kernel_rfl) (by kernel_rfl) (by kernel_rfl) (fun _ _ _ h => h) (Or.inl ⟨by rfl, fun w hSw => by go_simp⟩) (by assumption) ?_
                        simp only [Act.put, List.setIfInBounds_toArray, List.set_cons_zero, List.set_cons_succ]
                        refine wpAnyH_done (by kernel_rfl) ?_ _
                        refine NoPanic.normal ?_
                        go_wp2_with fail
                        go_meet
                        exact ⟨_, _, _, _, rfl, rfl, by rw [HL.out]; exact X8.out.r, by omega⟩
                · go_simp
                  have X5 := Lib.hid (X4.out.lit (s.chk) (by omega) (by omega))
                  refine hK.out _ _ X5.out.r.p (fun hHeld => ?_)
                  clear hK K X4
                  generalize hW5 : W4.alloc (.cells #[.int .u8 (s.chk)] 5) = W5 at X5 hHeld ⊢
                  clear hW5
                  refine wpAnyH_ready (rs := [4]) (by kernel_rfl) (by simp) ?_
                  refine AllReadyH.cons rfl (fun K hK => ?_) (AllReadyH.nil)
                  · go_simp
                    go_at_call 32
                    with_reducible refine (CD.out _).mono ?_
                    rintro e W6 ⟨g6, p6, rfl, hm, hb⟩
                    have X6 := Lib.hid (X5.out.made hm hb)
                    refine hK.out _ _ X6.out.r.p (fun hHeld => ?_)
                    clear hK K hm hb X5
                    refine wpAnyH_ready (rs := [5]) (by kernel_rfl) (by simp) ?_
                    refine AllReadyH.cons rfl (fun K hK => ?_) (AllReadyH.nil)
                    · skip
                      refine step_rx rfl 102 rfl (.tmp 99) (.tmp 101) rfl X6.out (List.Mem.head _) rfl rfl (by omega) ?_
                      intro a7 c7 W7 q
                      have X7 := Lib.hid q
                      refine hK.out _ _ X7.out.r.p (fun hHeld => ?_)
                      clear hK K q X6
                      simp only [Act.put, List.setIfInBounds_toArray, List.set_cons_zero, List.set_cons_succ]
                      refine wpAnyH_ready (rs := [10]) (by kernel_rfl) (by simp) ?_
                      refine AllReadyH.cons rfl (fun K hK => ?_) (AllReadyH.nil)
                      · skip
                        refine step_rx rfl 107 rfl (.tmp 102) (.tmp 106) rfl X7.out (List.Mem.tail _ (List.Mem.head _)) rfl rfl (by omega) ?_
                        intro a8 c8 W8 q
                        have X8 := Lib.hid q
                        refine hK.out _ _ X8.out.r.p (fun hHeld => ?_)
                        clear hK K q X7
                        simp only [Act.put, List.setIfInBounds_toArray, List.set_cons_zero, List.set_cons_succ]
                        refine take_lit (i := 11) (v := .slice a8 (n + 1 + dynN s + 1) c8) 4 rfl rfl (by kernel_rfl) (by kernel_rfl) (by kernel_rfl) (fun _ _ _ h => h) (Or.inl ⟨by rfl, fun w hSw => by go_simp⟩) (by assumption) ?_
                        simp only [Act.put, List.setIfInBounds_toArray, List.set_cons_zero, List.set_cons_succ]
                        refine wpAnyH_done (by kernel_rfl) ?_ _
                        refine NoPanic.normal ?_
                        go_wp2_with fail
                        go_meet
                        exact ⟨_, _, _, _, rfl, rfl, by rw [HL.out]; exact X8.out.r, by omega⟩
              · go_simp
                have X4 := Lib.hid (X3.out.lit (s.chk) (by omega) (by omega))
                refine hK.out _ _ X4.out.r.p (fun hHeld => ?_)
                clear hK K X3
                generalize hW4 : W3.alloc (.cells #[.int .u8 (s.chk)] 5) = W4 at X4 hHeld ⊢
                clear hW4
                refine wpAnyH_ready (rs := [2]) (by kernel_rfl) (by simp) ?_
                refine AllReadyH.cons rfl (fun K hK => ?_) (AllReadyH.nil)
                · skip
                  refine step_rx rfl 99 rfl (.tmp 97) (.tmp 98) rfl X4.out (List.Mem.tail _ (List.Mem.head _)) rfl rfl (by omega) ?_
                  intro a5 c5 W5 q
                  have X5 := Lib.hid q
                  refine hK.out _ _ X5.out.r.p (fun hHeld => ?_)
                  clear hK K q X4
                  simp only [Act.put, List.setIfInBounds_toArray, List.set_cons_zero, List.set_cons_succ]
                  refine wpAnyH_ready (rs := [4]) (by kernel_rfl) (by simp) ?_
                  refine AllReadyH.cons rfl (fun K hK => ?_) (AllReadyH.nil)
                  · go_simp
                    go_at_call 32
                    with_reducible refine (CD.out _).mono ?_
                    rintro e W6 ⟨g6, p6, rfl, hm, hb⟩
                    have X6 := Lib.hid (X5.out.made hm hb)
                    refine hK.out _ _ X6.out.r.p (fun hHeld => ?_)
                    clear hK K hm hb X5
                    refine wpAnyH_ready (rs := [5]) (by kernel_rfl) (by simp) ?_
                    refine AllReadyH.cons rfl (fun K hK => ?_) (AllReadyH.nil)
                    · skip
                      refine step_rx rfl 102 rfl (.tmp 99) (.tmp 101) rfl X6.out (List.Mem.head _) rfl rfl (by omega) ?_
                      intro a7 c7 W7 q
                      have X7 := Lib.hid q
                      refine hK.out _ _ X7.out.r.p (fun hHeld => ?_)
                      clear hK K q X6
                      simp only [Act.put, List.setIfInBounds_toArray, List.set_cons_zero, List.set_cons_succ]
                      refine wpAnyH_ready (rs := [10]) (by kernel_rfl) (by simp) ?_
                      refine AllReadyH.cons rfl (fun K hK => ?_) (AllReadyH.nil)
                      · skip
                        refine step_rx rfl 107 rfl (.tmp 102) (.tmp 106) rfl X7.out (List.Mem.tail _ (List.Mem.head _)) rfl rfl (by omega) ?_
                        intro a8 c8 W8 q
                        have X8 := Lib.hid q
                        refine hK.out _ _ X8.out.r.p (fun hHeld => ?_)
                        clear hK K q X7
                        simp only [Act.put, List.setIfInBounds_toArray, List.set_cons_zero, List.set_cons_succ]
                        refine take_lit (i := 11) (v := .slice a8 (n + 1 + dynN s + 1) c8) 4 rfl rfl (by kernel_rfl) (by kernel_rfl) (by kernel_rfl) (fun _ _ _ h => h) (Or.inl ⟨by rfl, fun w hSw => by go_simp⟩) (by assumption) ?_
                        simp only [Act.put, List.setIfInBounds_toArray, List.set_cons_zero, List.set_cons_succ]
                        refine wpAnyH_done (by kernel_rfl) ?_ _
                        refine NoPanic.normal ?_
                        go_wp2_with fail
                        go_meet
                        exact ⟨_, _, _, _, rfl, rfl, by rw [HL.out]; exact X8.out.r, by omega⟩
            · go_simp
              have X3 := Lib.hid (X1.out.lit (s.chk) (by omega) (by omega))
              refine hK.out _ _ X3.out.r.p (fun hHeld => ?_)
              clear hK K X1
              generalize hW3 : W2.alloc (.cells #[.int .u8 (s.chk)] 5) = W3 at X3 hHeld ⊢
              clear hW3
              refine wpAnyH_ready (rs := [1]) (by kernel_rfl) (by simp) ?_
              refine AllReadyH.cons rfl (fun K hK => ?_) (AllReadyH.nil)
              · go_simp
                have X4 := Lib.hid (X3.out.lit (208) (by omega) (by omega))
                refine hK.out _ _ X4.out.r.p (fun hHeld => ?_)
                clear hK K X3
                generalize hW4 : W3.alloc (.cells #[.int .u8 (208)] 5) = W4 at X4 hHeld ⊢
                clear hW4
                refine wpAnyH_ready (rs := [2]) (by kernel_rfl) (by simp) ?_
                refine AllReadyH.cons rfl (fun K hK => ?_) (AllReadyH.nil)
                · skip
                  refine step_rx rfl 99 rfl (.tmp 97) (.tmp 98) rfl X4.out (List.Mem.head _) rfl rfl (by omega) ?_
                  intro a5 c5 W5 q
                  have X5 := Lib.hid q
                  refine hK.out _ _ X5.out.r.p (fun hHeld => ?_)
                  clear hK K q X4
                  simp only [Act.put, List.setIfInBounds_toArray, List.set_cons_zero, List.set_cons_succ]
                  refine wpAnyH_ready (rs := [4]) (by kernel_rfl) (by simp) ?_
                  refine AllReadyH.cons rfl (fun K hK => ?_) (AllReadyH.nil)
                  · go_simp
                    go_at_call 32
                    with_reducible refine (CD.out _).mono ?_
                    rintro e W6 ⟨g6, p6, rfl, hm, hb⟩
                    have X6 := Lib.hid (X5.out.made hm hb)
                    refine hK.out _ _ X6.out.r.p (fun hHeld => ?_)
                    clear hK K hm hb X5
                    refine wpAnyH_ready (rs := [5]) (by kernel_rfl) (by simp) ?_
                    refine AllReadyH.cons rfl (fun K hK => ?_) (AllReadyH.nil)
                    · skip
                      refine step_rx rfl 102 rfl (.tmp 99) (.tmp 101) rfl X6.out (List.Mem.head _) rfl rfl (by omega) ?_
                      intro a7 c7 W7 q
                      have X7 := Lib.hid q
                      refine hK.out _ _ X7.out.r.p (fun hHeld => ?_)
                      clear hK K q X6
                      simp only [Act.put, List.setIfInBounds_toArray, List.set_cons_zero, List.set_cons_succ]
                      refine wpAnyH_ready (rs := [10]) (by kernel_rfl) (by simp) ?_
                      refine AllReadyH.cons rfl (fun K hK => ?_) (AllReadyH.nil)
                      · skip
                        refine step_rx rfl 107 rfl (.tmp 102) (.tmp 106) rfl X7.out (List.Mem.tail _ (List.Mem.tail _ (List.Mem.head _))) rfl rfl (by omega) ?_
                        intro a8 c8 W8 q
                        have X8 := Lib.hid q
                        refine hK.out _ _ X8.out.r.p (fun hHeld => ?_)
                        clear hK K q X7
                        simp only [Act.put, List.setIfInBounds_toArray, List.set_cons_zero, List.set_cons_succ]
                        refine take_lit (i := 11) (v := .slice a8 (n + 1 + dynN s + 1) c8) 4 rfl rfl (by kernel_rfl) (by kernel_rfl) (by kernel_rfl) (fun _ _ _ h => h) (Or.inl ⟨by rfl, fun w hSw => by go_simp⟩) (by assumption) ?_
                        simp only [Act.put, List.setIfInBounds_toArray, List.set_cons_zero, List.set_cons_succ]
                        refine wpAnyH_done (by kernel_rfl) ?_ _
                        refine NoPanic.normal ?_
                        go_wp2_with fail
                        go_meet
                        exact ⟨_, _, _, _, rfl, rfl, by rw [HL.out]; exact X8.out.r, by omega⟩
        · rcases (show s.h.kind = 1 ∨ s.h.kind = 2 by obtain ⟨k, _⟩ | ⟨k, _⟩ := b.head.2 <;> omega) with k | k
          · as_aux_lemma =>
              have f1 : (s.fmt == 1) = false := by rw [f]; rfl
              have f2 : (s.fmt == 2) = false := by rw [f]; rfl
              have f3 : (s.fmt == 3) = false := by rw [f]; rfl
              have f4 : (s.fmt == 4) = false := by rw [f]; rfl
              have f5 : (s.fmt == 5) = true := by rw [f]; rfl
              have f6 : (s.fmt == 6) = false := by rw [f]; rfl
              have K2 : (s.h.kind == 2) = false := by rw [k]; rfl
              have HL : Hid (ctxL s ++ encH s = ctxL s ++ [209, s.h.kind] ++ putB 4 s.h.frm 4 ++ putB 4 s.h.to 4 ++ putB 2 s.h.fromPort 2 ++ putB 2 s.h.toPort 2 ++ dynL s ++ [s.chk]) := Lib.hid (by unfold encH; rw [f]; simp [k, List.append_assoc])
              have CD := Lib.hid (fun W => rDyn_all s W b)
              have hd14 : dynN s ≤ 14 := by unfold dynN; split <;> omega
              obtain ⟨e5a, e5b⟩ := b.chk
              have hk1 : 0 ≤ s.h.kind := by omega
              have hk2 : s.h.kind ≤ 255 := by omega
              clear f b k
              go_upto_region 25 with fail
              refine wp_region_lit ?_
              refine wpList_run (.pointer (some ⟨w.heap.size, 7, none⟩)) W1 rfl (by kernel_rfl) ?_
              simp only [Act.put, List.setIfInBounds_toArray, List.set_cons_zero, List.set_cons_succ]
              refine wpList_load_smh R1.out.p rfl _ rfl rfl ?_
              simp only [Act.put, List.setIfInBounds_toArray, List.set_cons_zero, List.set_cons_succ]
              refine wpList_run (.pointer (some ⟨W1.heap.size, 0, none⟩)) (W1.alloc (.cells #[.int .i64 0, .int .i64 0, .int .i64 0, .int .i64 0, .int .i64 0, .int .i64 0, .int .i64 0, .int .i64 0, .int .i64 0, .int .i64 0, .int .i64 0, .int .i64 0, .int .i64 0, .int .i64 0, .int .i64 0] 23)) rfl (by kernel_rfl) ?_
              simp only [Act.put, List.setIfInBounds_toArray, List.set_cons_zero, List.set_cons_succ]
              refine wpList_store_blk (n := 15) (cs := #[.int .i64 s.h.kind, .int .i64 s.h.tos, .int .i64 s.h.id, .int .i64 s.h.fixed, .int .i64 s.h.ttl, .int .i64 s.h.frm, .int .i64 s.h.to, .int .i64 s.h.fromPort, .int .i64 s.h.toPort, .int .i64 s.h.check, .int .i64 s.h.marker, .int .i64 s.h.type, .int .i64 s.h.seq, .int .i64 s.h.time, .int .i64 s.h.source]) rfl rfl (.tmp 6) (.tmp 111) rfl rfl rfl (heap_alloc_new W1 _) rfl rfl info_hdv (by simp [Value.oneCell']) ?_
              intro W2 KH GH
              have Y2 := Lib.hid (R1.out.header KH GH)
              clear KH GH R1 k1
              generalize W1.heap.size = G at Y2 ⊢
              have Q2 := Lib.hid (Y2.out.keep ((Below.refl W2.heap.size W2).alloc (Nat.le_refl _) (.cells #[.int .u8 209, .int .u8 s.h.kind] 5)))
              have L2 := Lib.hid (Mk.lit .u8 5 W2.heap.size W2 [209, s.h.kind] 2 (Nat.le_refl _) rfl (by omega) (fun y hy => by simp only [List.mem_cons, List.not_mem_nil, or_false] at hy; rcases hy with rfl | rfl <;> exact byte_wf (by omega) (by omega))).sl
              have hb2 := Q2.out.r.b.size
              have kY := Y2.out.cell
              go_upto_region 27 with (first | (at_builtin; refine wpList_append_at rfl (.tmp 112) (.tmp 116) 26 rfl .u8 5 w.heap.size 1 Tryd.underlying26 info_u8 (.slice a0 n c0) n (ctxL s) rfl Q2.out.r.m (some ⟨W2.heap.size, 0, none⟩) 2 2 [209, s.h.kind] rfl L2.out (fun h => by cases h) (by omega) (by omega) hb2 ?_; intro a3 c3 W3 hm hg hl hn; have Y3 := Lib.hid (Q2.out.put ⟨hm, hg, hl⟩ (fun e => (hn e).2)); clear hm hg hl hn) | fail)
              clear kY Y2 Q2 L2 hb2
              have RD : Hid (RH w W3.drew s _ _ _ _ G) := Lib.hid (Y3.out.keep ((Below.refl W3.heap.size W3).drew))
              clear Y3
              have Y3 := RD
              have S3 : W3.drew.cell? ⟨G, 5, none⟩ = some (.int .i64 s.h.frm) ∧ W3.drew.cell? ⟨G, 6, none⟩ = some (.int .i64 s.h.to) := ⟨Y3.out.cell 5, Y3.out.cell 6⟩
              clear RD
              go_region_held3 (fun W => W.cell? ⟨G, 5, none⟩ = some (.int .i64 s.h.frm) ∧ W.cell? ⟨G, 6, none⟩ = some (.int .i64 s.h.to)) (first | with_reducible exact S3 | with_reducible exact S4 | with_reducible exact S5 | go_keep) (first | (go_at_call 31; ((with_reducible refine (Put_lit w.heap.size _ (n + 2) _ 4 (n + 2 + 4) 4 (s.h.frm) _ _ Y3.out.r.m Y3.out.r.z Y3.out.r.b.size rfl rfl (by omega) (by omega)).mono ?_); rintro e W4 ⟨a4, c4, rfl, gr, nz⟩; have Y4 := Lib.hid (Y3.out.put gr nz); have S4 : W4.cell? ⟨G, 5, none⟩ = some (.int .i64 s.h.frm) ∧ W4.cell? ⟨G, 6, none⟩ = some (.int .i64 s.h.to) := ⟨Y4.out.cell 5, Y4.out.cell 6⟩; clear gr nz)) | (go_at_call 31; ((with_reducible refine (Put_lit w.heap.size _ (n + 2 + 4) _ 4 (n + 2 + 4 + 4) 4 (s.h.to) _ _ Y4.out.r.m Y4.out.r.z Y4.out.r.b.size rfl rfl (by omega) (by omega)).mono ?_); rintro e W5 ⟨a5, c5, rfl, gr, nz⟩; have Y5 := Lib.hid (Y4.out.put gr nz); have S5 : W5.cell? ⟨G, 5, none⟩ = some (.int .i64 s.h.frm) ∧ W5.cell? ⟨G, 6, none⟩ = some (.int .i64 s.h.to) := ⟨Y5.out.cell 5, Y5.out.cell 6⟩; clear gr nz)) | fail)
              clear S3 S4 S5
              go_upto_region 28 with fail
              have RD : Hid (RH w W5.drew s _ _ _ _ G) := Lib.hid (Y5.out.keep ((Below.refl W5.heap.size W5).drew))
              clear Y5
              have Y5 := RD
              have S5 : W5.drew.cell? ⟨G, 7, none⟩ = some (.int .i64 s.h.fromPort) ∧ W5.drew.cell? ⟨G, 8, none⟩ = some (.int .i64 s.h.toPort) := ⟨Y5.out.cell 7, Y5.out.cell 8⟩
              clear RD
              go_region_held3 (fun W => W.cell? ⟨G, 7, none⟩ = some (.int .i64 s.h.fromPort) ∧ W.cell? ⟨G, 8, none⟩ = some (.int .i64 s.h.toPort)) (first | with_reducible exact S5 | with_reducible exact S6 | with_reducible exact S7 | go_keep) (first | (go_at_call 31; ((with_reducible refine (Put_lit w.heap.size _ (n + 2 + 4 + 4) _ 2 (n + 2 + 4 + 4 + 2) 2 (s.h.fromPort) _ _ Y5.out.r.m Y5.out.r.z Y5.out.r.b.size rfl rfl (by omega) (by omega)).mono ?_); rintro e W6 ⟨a6, c6, rfl, gr, nz⟩; have Y6 := Lib.hid (Y5.out.put gr nz); have S6 : W6.cell? ⟨G, 7, none⟩ = some (.int .i64 s.h.fromPort) ∧ W6.cell? ⟨G, 8, none⟩ = some (.int .i64 s.h.toPort) := ⟨Y6.out.cell 7, Y6.out.cell 8⟩; clear gr nz)) | (go_at_call 31; ((with_reducible refine (Put_lit w.heap.size _ (n + 2 + 4 + 4 + 2) _ 2 (n + 2 + 4 + 4 + 2 + 2) 2 (s.h.toPort) _ _ Y6.out.r.m Y6.out.r.z Y6.out.r.b.size rfl rfl (by omega) (by omega)).mono ?_); rintro e W7 ⟨a7, c7, rfl, gr, nz⟩; have Y7 := Lib.hid (Y6.out.put gr nz); have S7 : W7.cell? ⟨G, 7, none⟩ = some (.int .i64 s.h.fromPort) ∧ W7.cell? ⟨G, 8, none⟩ = some (.int .i64 s.h.toPort) := ⟨Y7.out.cell 7, Y7.out.cell 8⟩; clear gr nz)) | fail)
              clear S5 S6 S7
              have kY := Y7.out.cell
              go_upto_region 31 with fail
              clear kY
              have X1 : Hid (RX w W7.drew s _ _ _ _ []) := Lib.hid ⟨Y7.out.r.keep ((Below.refl W7.heap.size W7).drew), fun t ht => by cases ht⟩
              refine wp_region_noPanic ?_
              refine wp_region_held_drew (S := fun W => Blk 28 W w.heap.size #[.int .i64 s.ctx, .int .i64 s.fmt, .int .i64 s.num, .int .i64 s.time, .int .i64 s.mark, .int .i64 s.id, .int .i64 s.udp, .int .i64 s.h.kind, .int .i64 s.h.tos, .int .i64 s.h.id, .int .i64 s.h.fixed, .int .i64 s.h.ttl, .int .i64 s.h.frm, .int .i64 s.h.to, .int .i64 s.h.fromPort, .int .i64 s.h.toPort, .int .i64 s.h.check, .int .i64 s.h.marker, .int .i64 s.h.type, .int .i64 s.h.seq, .int .i64 s.h.time, .int .i64 s.h.source, .int .i64 s.ds, .int .i64 s.df, .int .i64 s.chk, .slice s.pa s.pn s.pc]) (by kernel_rfl) X1.out.r.p (fun hHeld => ?_)
              generalize hW2 : W7.drew = V2 at X1 hHeld ⊢
              clear hW2 Y7
              refine take_lit (i := 0) (v := .slice a7 (n + 2 + 4 + 4 + 2 + 2) c7) 137 rfl rfl (by kernel_rfl) (by kernel_rfl) (by kernel_rfl) (fun _ _ _ h => h) (Or.inl ⟨by rfl, fun w hSw => by go_simp⟩) (by assumption) ?_
              simp only [Act.put, List.setIfInBounds_toArray, List.set_cons_zero, List.set_cons_succ]
              refine take_lit (i := 1) (v := (.agg #[.int .i64 s.ctx, .int .i64 s.fmt, .int .i64 s.num, .int .i64 s.time, .int .i64 s.mark, .int .i64 s.id, .int .i64 s.udp, .int .i64 s.h.kind, .int .i64 s.h.tos, .int .i64 s.h.id, .int .i64 s.h.fixed, .int .i64 s.h.ttl, .int .i64 s.h.frm, .int .i64 s.h.to, .int .i64 s.h.fromPort, .int .i64 s.h.toPort, .int .i64 s.h.check, .int .i64 s.h.marker, .int .i64 s.h.type, .int .i64 s.h.seq, .int .i64 s.h.time, .int .i64 s.h.source, .int .i64 s.ds, .int .i64 s.df, .int .i64 s.chk, .slice s.pa s.pn s.pc])) 138 rfl rfl (by kernel_rfl) (by kernel_rfl) (by kernel_rfl) (fun _ _ _ h => h) (yieldsIf_load_mid (by rfl) _ _ rfl _ _ rfl _ _ (fun W p => sm_range p) Tryd.underlying28 rfl info_sm) (by assumption) ?_
              simp only [Act.put, List.setIfInBounds_toArray, List.set_cons_zero, List.set_cons_succ]
              refine take_lit (i := 4) (v := .pointer (some ⟨w.heap.size, 24, none⟩)) 141 rfl rfl (by kernel_rfl) (by kernel_rfl) (by kernel_rfl) (fun _ _ _ h => h) (Or.inl ⟨by rfl, fun w hSw => by go_simp⟩) (by assumption) ?_
              simp only [Act.put, List.setIfInBounds_toArray, List.set_cons_zero, List.set_cons_succ]
              refine take_lit (i := 5) (v := .int .i64 s.chk) 142 rfl rfl (by kernel_rfl) (by kernel_rfl) (by kernel_rfl) (fun _ _ _ h => h) (Or.inl ⟨by rfl, fun W hS => by have h9 : W.cell? ⟨w.heap.size, 24, none⟩ = some (.int .i64 s.chk) := cells_of hS 24; clear hS; go_simp⟩) (by assumption) ?_
              simp only [Act.put, List.setIfInBounds_toArray, List.set_cons_zero, List.set_cons_succ]
              refine take_lit (i := 6) (v := .int .u8 s.chk) 143 rfl rfl (by kernel_rfl) (by kernel_rfl) (by kernel_rfl) (fun _ _ _ h => h) (Or.inl ⟨by rfl, fun W hS => by have e8 : IntKind.u8.wrap s.chk = s.chk := (by simp [IntKind.wrap, IntKind.signed, IntKind.bits]; omega); clear hS; go_simp; try exact e8⟩) (by assumption) ?_
              simp only [Act.put, List.setIfInBounds_toArray, List.set_cons_zero, List.set_cons_succ]
              refine wpAnyH_ready (rs := [2, 7]) (by kernel_rfl) (by simp) ?_
              refine AllReadyH.cons rfl (fun K hK => ?_) (AllReadyH.cons rfl (fun K hK => ?_) (AllReadyH.nil))
              · go_simp
                go_at_call 32
                with_reducible refine (CD.out _).mono ?_
                rintro e W21 ⟨g21, p21, rfl, hm, hb⟩
                have X21 := Lib.hid (X1.out.made hm hb)
                refine hK.out _ _ X21.out.r.p (fun hHeld => ?_)
                clear hK K hm hb X1
                refine wpAnyH_ready (rs := [3, 7]) (by kernel_rfl) (by simp) ?_
                refine AllReadyH.cons rfl (fun K hK => ?_) (AllReadyH.cons rfl (fun K hK => ?_) (AllReadyH.nil))
                · skip
                  refine step_rx rfl 140 rfl (.tmp 137) (.tmp 139) rfl X21.out (List.Mem.head _) rfl rfl (by omega) ?_
                  intro a22 c22 W22 q
                  have X22 := Lib.hid q
                  refine hK.out _ _ X22.out.r.p (fun hHeld => ?_)
                  clear hK K q X21
                  simp only [Act.put, List.setIfInBounds_toArray, List.set_cons_zero, List.set_cons_succ]
                  refine wpAnyH_ready (rs := [7]) (by kernel_rfl) (by simp) ?_
                  refine AllReadyH.cons rfl (fun K hK => ?_) (AllReadyH.nil)
                  · go_simp
                    have X23 := Lib.hid (X22.out.lit (s.chk) (by omega) (by omega))
                    refine hK.out _ _ X23.out.r.p (fun hHeld => ?_)
                    clear hK K X22
                    generalize hW23 : W22.alloc (.cells #[.int .u8 (s.chk)] 5) = W23 at X23 hHeld ⊢
                    clear hW23
                    refine wpAnyH_ready (rs := [8]) (by kernel_rfl) (by simp) ?_
                    refine AllReadyH.cons rfl (fun K hK => ?_) (AllReadyH.nil)
                    · skip
                      refine step_rx rfl 145 rfl (.tmp 140) (.tmp 144) rfl X23.out (List.Mem.head _) rfl rfl (by omega) ?_
                      intro a24 c24 W24 q
                      have X24 := Lib.hid q
                      refine hK.out _ _ X24.out.r.p (fun hHeld => ?_)
                      clear hK K q X23
                      simp only [Act.put, List.setIfInBounds_toArray, List.set_cons_zero, List.set_cons_succ]
                      refine take_lit (i := 9) (v := .slice a24 (n + 2 + 4 + 4 + 2 + 2 + dynN s + 1) c24) 4 rfl rfl (by kernel_rfl) (by kernel_rfl) (by kernel_rfl) (fun _ _ _ h => h) (Or.inl ⟨by rfl, fun w hSw => by go_simp⟩) (by assumption) ?_
                      simp only [Act.put, List.setIfInBounds_toArray, List.set_cons_zero, List.set_cons_succ]
                      refine wpAnyH_done (by kernel_rfl) ?_ _
                      refine NoPanic.normal ?_
                      go_wp2_with fail
                      go_meet
                      exact ⟨_, _, _, _, rfl, rfl, by rw [HL.out]; exact X24.out.r, by omega⟩
                · go_simp
                  have X22 := Lib.hid (X21.out.lit (s.chk) (by omega) (by omega))
                  refine hK.out _ _ X22.out.r.p (fun hHeld => ?_)
                  clear hK K X21
                  generalize hW22 : W21.alloc (.cells #[.int .u8 (s.chk)] 5) = W22 at X22 hHeld ⊢
                  clear hW22
                  refine wpAnyH_ready (rs := [3]) (by kernel_rfl) (by simp) ?_
                  refine AllReadyH.cons rfl (fun K hK => ?_) (AllReadyH.nil)
                  · skip
                    refine step_rx rfl 140 rfl (.tmp 137) (.tmp 139) rfl X22.out (List.Mem.tail _ (List.Mem.head _)) rfl rfl (by omega) ?_
                    intro a23 c23 W23 q
                    have X23 := Lib.hid q
                    refine hK.out _ _ X23.out.r.p (fun hHeld => ?_)
                    clear hK K q X22
                    simp only [Act.put, List.setIfInBounds_toArray, List.set_cons_zero, List.set_cons_succ]
                    refine wpAnyH_ready (rs := [8]) (by kernel_rfl) (by simp) ?_
                    refine AllReadyH.cons rfl (fun K hK => ?_) (AllReadyH.nil)
                    · skip
                      refine step_rx rfl 145 rfl (.tmp 140) (.tmp 144) rfl X23.out (List.Mem.head _) rfl rfl (by omega) ?_
                      intro a24 c24 W24 q
                      have X24 := Lib.hid q
                      refine hK.out _ _ X24.out.r.p (fun hHeld => ?_)
                      clear hK K q X23
                      simp only [Act.put, List.setIfInBounds_toArray, List.set_cons_zero, List.set_cons_succ]
                      refine take_lit (i := 9) (v := .slice a24 (n + 2 + 4 + 4 + 2 + 2 + dynN s + 1) c24) 4 rfl rfl (by kernel_rfl) (by kernel_rfl) (by kernel_rfl) (fun _ _ _ h => h) (Or.inl ⟨by rfl, fun w hSw => by go_simp⟩) (by assumption) ?_
                      simp only [Act.put, List.setIfInBounds_toArray, List.set_cons_zero, List.set_cons_succ]
                      refine wpAnyH_done (by kernel_rfl) ?_ _
                      refine NoPanic.normal ?_
                      go_wp2_with fail
                      go_meet
                      exact ⟨_, _, _, _, rfl, rfl, by rw [HL.out]; exact X24.out.r, by omega⟩
              · go_simp
                have X21 := Lib.hid (X1.out.lit (s.chk) (by omega) (by omega))
                refine hK.out _ _ X21.out.r.p (fun hHeld => ?_)
                clear hK K X1
                generalize hW21 : V2.alloc (.cells #[.int .u8 (s.chk)] 5) = W21 at X21 hHeld ⊢
                clear hW21
                refine wpAnyH_ready (rs := [2]) (by kernel_rfl) (by simp) ?_
                refine AllReadyH.cons rfl (fun K hK => ?_) (AllReadyH.nil)
                · go_simp
                  go_at_call 32
                  with_reducible refine (CD.out _).mono ?_
                  rintro e W22 ⟨g22, p22, rfl, hm, hb⟩
                  have X22 := Lib.hid (X21.out.made hm hb)
                  refine hK.out _ _ X22.out.r.p (fun hHeld => ?_)
                  clear hK K hm hb X21
                  refine wpAnyH_ready (rs := [3]) (by kernel_rfl) (by simp) ?_
                  refine AllReadyH.cons rfl (fun K hK => ?_) (AllReadyH.nil)
                  · skip
                    refine step_rx rfl 140 rfl (.tmp 137) (.tmp 139) rfl X22.out (List.Mem.head _) rfl rfl (by omega) ?_
                    intro a23 c23 W23 q
                    have X23 := Lib.hid q
                    refine hK.out _ _ X23.out.r.p (fun hHeld => ?_)
                    clear hK K q X22
                    simp only [Act.put, List.setIfInBounds_toArray, List.set_cons_zero, List.set_cons_succ]
                    refine wpAnyH_ready (rs := [8]) (by kernel_rfl) (by simp) ?_
                    refine AllReadyH.cons rfl (fun K hK => ?_) (AllReadyH.nil)
                    · skip
                      refine step_rx rfl 145 rfl (.tmp 140) (.tmp 144) rfl X23.out (List.Mem.tail _ (List.Mem.head _)) rfl rfl (by omega) ?_
                      intro a24 c24 W24 q
                      have X24 := Lib.hid q
                      refine hK.out _ _ X24.out.r.p (fun hHeld => ?_)
                      clear hK K q X23
                      simp only [Act.put, List.setIfInBounds_toArray, List.set_cons_zero, List.set_cons_succ]
                      refine take_lit (i := 9) (v := .slice a24 (n + 2 + 4 + 4 + 2 + 2 + dynN s + 1) c24) 4 rfl rfl (by kernel_rfl) (by kernel_rfl) (by kernel_rfl) (fun _ _ _ h => h) (Or.inl ⟨by rfl, fun w hSw => by go_simp⟩) (by assumption) ?_
                      simp only [Act.put, List.setIfInBounds_toArray, List.set_cons_zero, List.set_cons_succ]
                      refine wpAnyH_done (by kernel_rfl) ?_ _
                      refine NoPanic.normal ?_
                      go_wp2_with fail
                      go_meet
                      exact ⟨_, _, _, _, rfl, rfl, by rw [HL.out]; exact X24.out.r, by omega⟩
          · as_aux_lemma =>
              have f1 : (s.fmt == 1) = false := by rw [f]; rfl
              have f2 : (s.fmt == 2) = false := by rw [f]; rfl
              have f3 : (s.fmt == 3) = false := by rw [f]; rfl
              have f4 : (s.fmt == 4) = false := by rw [f]; rfl
              have f5 : (s.fmt == 5) = true := by rw [f]; rfl
              have f6 : (s.fmt == 6) = false := by rw [f]; rfl
              have K2 : (s.h.kind == 2) = true := by rw [k]; rfl
              have HL : Hid (ctxL s ++ encH s = ctxL s ++ [209, s.h.kind] ++ putB 4 s.h.frm 4 ++ putB 4 s.h.to 4 ++ putB 2 s.h.fromPort 2 ++ putB 2 s.h.toPort 2 ++ putB 4 s.h.source 4 ++ dynL s ++ [s.chk]) := Lib.hid (by unfold encH; rw [f]; simp [k, List.append_assoc])
              have CD := Lib.hid (fun W => rDyn_all s W b)
              have hd14 : dynN s ≤ 14 := by unfold dynN; split <;> omega
              obtain ⟨e5a, e5b⟩ := b.chk
              have hk1 : 0 ≤ s.h.kind := by omega
              have hk2 : s.h.kind ≤ 255 := by omega
              clear f b k
              go_upto_region 25 with fail
              refine wp_region_lit ?_
              refine wpList_run (.pointer (some ⟨w.heap.size, 7, none⟩)) W1 rfl (by kernel_rfl) ?_
              simp only [Act.put, List.setIfInBounds_toArray, List.set_cons_zero, List.set_cons_succ]
              refine wpList_load_smh R1.out.p rfl _ rfl rfl ?_
              simp only [Act.put, List.setIfInBounds_toArray, List.set_cons_zero, List.set_cons_succ]
              refine wpList_run (.pointer (some ⟨W1.heap.size, 0, none⟩)) (W1.alloc (.cells #[.int .i64 0, .int .i64 0, .int .i64 0, .int .i64 0, .int .i64 0, .int .i64 0, .int .i64 0, .int .i64 0, .int .i64 0, .int .i64 0, .int .i64 0, .int .i64 0, .int .i64 0, .int .i64 0, .int .i64 0] 23)) rfl (by kernel_rfl) ?_
              simp only [Act.put, List.setIfInBounds_toArray, List.set_cons_zero, List.set_cons_succ]
              refine wpList_store_blk (n := 15) (cs := #[.int .i64 s.h.kind, .int .i64 s.h.tos, .int .i64 s.h.id, .int .i64 s.h.fixed, .int .i64 s.h.ttl, .int .i64 s.h.frm, .int .i64 s.h.to, .int .i64 s.h.fromPort, .int .i64 s.h.toPort, .int .i64 s.h.check, .int .i64 s.h.marker, .int .i64 s.h.type, .int .i64 s.h.seq, .int .i64 s.h.time, .int .i64 s.h.source]) rfl rfl (.tmp 6) (.tmp 111) rfl rfl rfl (heap_alloc_new W1 _) rfl rfl info_hdv (by simp [Value.oneCell']) ?_
              intro W2 KH GH
              have Y2 := Lib.hid (R1.out.header KH GH)
              clear KH GH R1 k1
              generalize W1.heap.size = G at Y2 ⊢
              have Q2 := Lib.hid (Y2.out.keep ((Below.refl W2.heap.size W2).alloc (Nat.le_refl _) (.cells #[.int .u8 209, .int .u8 s.h.kind] 5)))
              have L2 := Lib.hid (Mk.lit .u8 5 W2.heap.size W2 [209, s.h.kind] 2 (Nat.le_refl _) rfl (by omega) (fun y hy => by simp only [List.mem_cons, List.not_mem_nil, or_false] at hy; rcases hy with rfl | rfl <;> exact byte_wf (by omega) (by omega))).sl
              have hb2 := Q2.out.r.b.size
              have kY := Y2.out.cell
              go_upto_region 27 with (first | (at_builtin; refine wpList_append_at rfl (.tmp 112) (.tmp 116) 26 rfl .u8 5 w.heap.size 1 Tryd.underlying26 info_u8 (.slice a0 n c0) n (ctxL s) rfl Q2.out.r.m (some ⟨W2.heap.size, 0, none⟩) 2 2 [209, s.h.kind] rfl L2.out (fun h => by cases h) (by omega) (by omega) hb2 ?_; intro a3 c3 W3 hm hg hl hn; have Y3 := Lib.hid (Q2.out.put ⟨hm, hg, hl⟩ (fun e => (hn e).2)); clear hm hg hl hn) | fail)
              clear kY Y2 Q2 L2 hb2
              have RD : Hid (RH w W3.drew s _ _ _ _ G) := Lib.hid (Y3.out.keep ((Below.refl W3.heap.size W3).drew))
              clear Y3
              have Y3 := RD
              have S3 : W3.drew.cell? ⟨G, 5, none⟩ = some (.int .i64 s.h.frm) ∧ W3.drew.cell? ⟨G, 6, none⟩ = some (.int .i64 s.h.to) := ⟨Y3.out.cell 5, Y3.out.cell 6⟩
              clear RD
              go_region_held3 (fun W => W.cell? ⟨G, 5, none⟩ = some (.int .i64 s.h.frm) ∧ W.cell? ⟨G, 6, none⟩ = some (.int .i64 s.h.to)) (first | with_reducible exact S3 | with_reducible exact S4 | with_reducible exact S5 | go_keep) (first | (go_at_call 31; ((with_reducible refine (Put_lit w.heap.size _ (n + 2) _ 4 (n + 2 + 4) 4 (s.h.frm) _ _ Y3.out.r.m Y3.out.r.z Y3.out.r.b.size rfl rfl (by omega) (by omega)).mono ?_); rintro e W4 ⟨a4, c4, rfl, gr, nz⟩; have Y4 := Lib.hid (Y3.out.put gr nz); have S4 : W4.cell? ⟨G, 5, none⟩ = some (.int .i64 s.h.frm) ∧ W4.cell? ⟨G, 6, none⟩ = some (.int .i64 s.h.to) := ⟨Y4.out.cell 5, Y4.out.cell 6⟩; clear gr nz)) | (go_at_call 31; ((with_reducible refine (Put_lit w.heap.size _ (n + 2 + 4) _ 4 (n + 2 + 4 + 4) 4 (s.h.to) _ _ Y4.out.r.m Y4.out.r.z Y4.out.r.b.size rfl rfl (by omega) (by omega)).mono ?_); rintro e W5 ⟨a5, c5, rfl, gr, nz⟩; have Y5 := Lib.hid (Y4.out.put gr nz); have S5 : W5.cell? ⟨G, 5, none⟩ = some (.int .i64 s.h.frm) ∧ W5.cell? ⟨G, 6, none⟩ = some (.int .i64 s.h.to) := ⟨Y5.out.cell 5, Y5.out.cell 6⟩; clear gr nz)) | fail)
              clear S3 S4 S5
              go_upto_region 28 with fail
              have RD : Hid (RH w W5.drew s _ _ _ _ G) := Lib.hid (Y5.out.keep ((Below.refl W5.heap.size W5).drew))
              clear Y5
              have Y5 := RD
              have S5 : W5.drew.cell? ⟨G, 7, none⟩ = some (.int .i64 s.h.fromPort) ∧ W5.drew.cell? ⟨G, 8, none⟩ = some (.int .i64 s.h.toPort) := ⟨Y5.out.cell 7, Y5.out.cell 8⟩
              clear RD
              go_region_held3 (fun W => W.cell? ⟨G, 7, none⟩ = some (.int .i64 s.h.fromPort) ∧ W.cell? ⟨G, 8, none⟩ = some (.int .i64 s.h.toPort)) (first | with_reducible exact S5 | with_reducible exact S6 | with_reducible exact S7 | go_keep) (first | (go_at_call 31; ((with_reducible refine (Put_lit w.heap.size _ (n + 2 + 4 + 4) _ 2 (n + 2 + 4 + 4 + 2) 2 (s.h.fromPort) _ _ Y5.out.r.m Y5.out.r.z Y5.out.r.b.size rfl rfl (by omega) (by omega)).mono ?_); rintro e W6 ⟨a6, c6, rfl, gr, nz⟩; have Y6 := Lib.hid (Y5.out.put gr nz); have S6 : W6.cell? ⟨G, 7, none⟩ = some (.int .i64 s.h.fromPort) ∧ W6.cell? ⟨G, 8, none⟩ = some (.int .i64 s.h.toPort) := ⟨Y6.out.cell 7, Y6.out.cell 8⟩; clear gr nz)) | (go_at_call 31; ((with_reducible refine (Put_lit w.heap.size _ (n + 2 + 4 + 4 + 2) _ 2 (n + 2 + 4 + 4 + 2 + 2) 2 (s.h.toPort) _ _ Y6.out.r.m Y6.out.r.z Y6.out.r.b.size rfl rfl (by omega) (by omega)).mono ?_); rintro e W7 ⟨a7, c7, rfl, gr, nz⟩; have Y7 := Lib.hid (Y6.out.put gr nz); have S7 : W7.cell? ⟨G, 7, none⟩ = some (.int .i64 s.h.fromPort) ∧ W7.cell? ⟨G, 8, none⟩ = some (.int .i64 s.h.toPort) := ⟨Y7.out.cell 7, Y7.out.cell 8⟩; clear gr nz)) | fail)
              clear S5 S6 S7
              have kY := Y7.out.cell
              go_upto_region 31 with (first | (go_at_call 31; ((with_reducible refine (Put_lit w.heap.size _ (n + 2 + 4 + 4 + 2 + 2) _ 4 (n + 2 + 4 + 4 + 2 + 2 + 4) 4 (s.h.source) _ _ Y7.out.r.m Y7.out.r.z Y7.out.r.b.size rfl rfl (by omega) (by omega)).mono ?_); rintro e W8 ⟨a8, c8, rfl, gr, nz⟩; have Y8 := Lib.hid (Y7.out.put gr nz); clear gr nz)) | fail)
              clear kY
              have X1 : Hid (RX w W8.drew s _ _ _ _ []) := Lib.hid ⟨Y8.out.r.keep ((Below.refl W8.heap.size W8).drew), fun t ht => by cases ht⟩
              refine wp_region_noPanic ?_
              refine wp_region_held_drew (S := fun W => Blk 28 W w.heap.size #[.int .i64 s.ctx, .int .i64 s.fmt, .int .i64 s.num, .int .i64 s.time, .int .i64 s.mark, .int .i64 s.id, .int .i64 s.udp, .int .i64 s.h.kind, .int .i64 s.h.tos, .int .i64 s.h.id, .int .i64 s.h.fixed, .int .i64 s.h.ttl, .int .i64 s.h.frm, .int .i64 s.h.to, .int .i64 s.h.fromPort, .int .i64 s.h.toPort, .int .i64 s.h.check, .int .i64 s.h.marker, .int .i64 s.h.type, .int .i64 s.h.seq, .int .i64 s.h.time, .int .i64 s.h.source, .int .i64 s.ds, .int .i64 s.df, .int .i64 s.chk, .slice s.pa s.pn s.pc]) (by kernel_rfl) X1.out.r.p (fun hHeld => ?_)
              generalize hW2 : W8.drew = V2 at X1 hHeld ⊢
              clear hW2 Y8
              refine take_lit (i := 0) (v := .slice a8 (n + 2 + 4 + 4 + 2 + 2 + 4) c8) 137 rfl rfl (by kernel_rfl) (by kernel_rfl) (by kernel_rfl) (fun _ _ _ h => h) (Or.inl ⟨by rfl, fun w hSw => by go_simp⟩) (by assumption) ?_
              simp only [Act.put, List.setIfInBounds_toArray, List.set_cons_zero, List.set_cons_succ]
              refine take_lit (i := 1) (v := (.agg #[.int .i64 s.ctx, .int .i64 s.fmt, .int .i64 s.num, .int .i64 s.time, .int .i64 s.mark, .int .i64 s.id, .int .i64 s.udp, .int .i64 s.h.kind, .int .i64 s.h.tos, .int .i64 s.h.id, .int .i64 s.h.fixed, .int .i64 s.h.ttl, .int .i64 s.h.frm, .int .i64 s.h.to, .int .i64 s.h.fromPort, .int .i64 s.h.toPort, .int .i64 s.h.check, .int .i64 s.h.marker, .int .i64 s.h.type, .int .i64 s.h.seq, .int .i64 s.h.time, .int .i64 s.h.source, .int .i64 s.ds, .int .i64 s.df, .int .i64 s.chk, .slice s.pa s.pn s.pc])) 138 rfl rfl (by kernel_rfl) (by kernel_rfl) (by kernel_rfl) (fun _ _ _ h => h) (yieldsIf_load_mid (by rfl) _ _ rfl _ _ rfl _ _ (fun W p => sm_range p) Tryd.underlying28 rfl info_sm) (by assumption) ?_
              simp only [Act.put, List.setIfInBounds_toArray, List.set_cons_zero, List.set_cons_succ]
              refine take_lit (i := 4) (v := .pointer (some ⟨w.heap.size, 24, none⟩)) 141 rfl rfl (by kernel_rfl) (by kernel_rfl) (by kernel_rfl) (fun _ _ _ h => h) (Or.inl ⟨by rfl, fun w hSw => by go_simp⟩) (by assumption) ?_
              simp only [Act.put, List.setIfInBounds_toArray, List.set_cons_zero, List.set_cons_succ]
              refine take_lit (i := 5) (v := .int .i64 s.chk) 142 rfl rfl (by kernel_rfl) (by kernel_rfl) (by kernel_rfl) (fun _ _ _ h => h) (Or.inl ⟨by rfl, fun W hS => by have h9 : W.cell? ⟨w.heap.size, 24, none⟩ = some (.int .i64 s.chk) := cells_of hS 24; clear hS; go_simp⟩) (by assumption) ?_
              simp only [Act.put, List.setIfInBounds_toArray, List.set_cons_zero, List.set_cons_succ]
              refine take_lit (i := 6) (v := .int .u8 s.chk) 143 rfl rfl (by kernel_rfl) (by kernel_rfl) (by kernel_rfl) (fun _ _ _ h => h) (Or.inl ⟨by rfl, fun W hS => by have e8 : IntKind.u8.wrap s.chk = s.chk := (by simp [IntKind.wrap, IntKind.signed, IntKind.bits]; omega); clear hS; go_simp; try exact e8⟩) (by assumption) ?_
              simp only [Act.put, List.setIfInBounds_toArray, List.set_cons_zero, List.set_cons_succ]
              refine wpAnyH_ready (rs := [2, 7]) (by kernel_rfl) (by simp) ?_
              refine AllReadyH.cons rfl (fun K hK => ?_) (AllReadyH.cons rfl (fun K hK => ?_) (AllReadyH.nil))
              · go_simp
                go_at_call 32
                with_reducible refine (CD.out _).mono ?_
                rintro e W21 ⟨g21, p21, rfl, hm, hb⟩
                have X21 := Lib.hid (X1.out.made hm hb)
                refine hK.out _ _ X21.out.r.p (fun hHeld => ?_)
                clear hK K hm hb X1
                refine wpAnyH_ready (rs := [3, 7]) (by kernel_rfl) (by simp) ?_
                refine AllReadyH.cons rfl (fun K hK => ?_) (AllReadyH.cons rfl (fun K hK => ?_) (AllReadyH.nil))
                · skip
                  refine step_rx rfl 140 rfl (.tmp 137) (.tmp 139) rfl X21.out (List.Mem.head _) rfl rfl (by omega) ?_
                  intro a22 c22 W22 q
                  have X22 := Lib.hid q
                  refine hK.out _ _ X22.out.r.p (fun hHeld => ?_)
                  clear hK K q X21
                  simp only [Act.put, List.setIfInBounds_toArray, List.set_cons_zero, List.set_cons_succ]
                  refine wpAnyH_ready (rs := [7]) (by kernel_rfl) (by simp) ?_
                  refine AllReadyH.cons rfl (fun K hK => ?_) (AllReadyH.nil)
                  · go_simp
                    have X23 := Lib.hid (X22.out.lit (s.chk) (by omega) (by omega))
                    refine hK.out _ _ X23.out.r.p (fun hHeld => ?_)
                    clear hK K X22
                    generalize hW23 : W22.alloc (.cells #[.int .u8 (s.chk)] 5) = W23 at X23 hHeld ⊢
                    clear hW23
                    refine wpAnyH_ready (rs := [8]) (by kernel_rfl) (by simp) ?_
                    refine AllReadyH.cons rfl (fun K hK => ?_) (AllReadyH.nil)
                    · skip
                      refine step_rx rfl 145 rfl (.tmp 140) (.tmp 144) rfl X23.out (List.Mem.head _) rfl rfl (by omega) ?_
                      intro a24 c24 W24 q
                      have X24 := Lib.hid q
                      refine hK.out _ _ X24.out.r.p (fun hHeld => ?_)
                      clear hK K q X23
                      simp only [Act.put, List.setIfInBounds_toArray, List.set_cons_zero, List.set_cons_succ]
                      refine take_lit (i := 9) (v := .slice a24 (n + 2 + 4 + 4 + 2 + 2 + 4 + dynN s + 1) c24) 4 rfl rfl (by kernel_rfl) (by kernel_rfl) (by kernel_rfl) (fun _ _ _ h => h) (Or.inl ⟨by rfl, fun w hSw => by go_simp⟩) (by assumption) ?_
                      simp only [Act.put, List.setIfInBounds_toArray, List.set_cons_zero, List.set_cons_succ]
                      refine wpAnyH_done (by kernel_rfl) ?_ _
                      refine NoPanic.normal ?_
                      go_wp2_with fail
                      go_meet
                      exact ⟨_, _, _, _, rfl, rfl, by rw [HL.out]; exact X24.out.r, by omega⟩
                · go_simp
                  have X22 := Lib.hid (X21.out.lit (s.chk) (by omega) (by omega))
                  refine hK.out _ _ X22.out.r.p (fun hHeld => ?_)
                  clear hK K X21
                  generalize hW22 : W21.alloc (.cells #[.int .u8 (s.chk)] 5) = W22 at X22 hHeld ⊢
                  clear hW22
                  refine wpAnyH_ready (rs := [3]) (by kernel_rfl) (by simp) ?_
                  refine AllReadyH.cons rfl (fun K hK => ?_) (AllReadyH.nil)
                  · skip
                    refine step_rx rfl 140 rfl (.tmp 137) (.tmp 139) rfl X22.out (List.Mem.tail _ (List.Mem.head _)) rfl rfl (by omega) ?_
                    intro a23 c23 W23 q
                    have X23 := Lib.hid q
                    refine hK.out _ _ X23.out.r.p (fun hHeld => ?_)
                    clear hK K q X22
                    simp only [Act.put, List.setIfInBounds_toArray, List.set_cons_zero, List.set_cons_succ]
                    refine wpAnyH_ready (rs := [8]) (by kernel_rfl) (by simp) ?_
                    refine AllReadyH.cons rfl (fun K hK => ?_) (AllReadyH.nil)
                    · skip
                      refine step_rx rfl 145 rfl (.tmp 140) (.tmp 144) rfl X23.out (List.Mem.head _) rfl rfl (by omega) ?_
                      intro a24 c24 W24 q
                      have X24 := Lib.hid q
                      refine hK.out _ _ X24.out.r.p (fun hHeld => ?_)
                      clear hK K q X23
                      simp only [Act.put, List.setIfInBounds_toArray, List.set_cons_zero, List.set_cons_succ]
                      refine take_lit (i := 9) (v := .slice a24 (n + 2 + 4 + 4 + 2 + 2 + 4 + dynN s + 1) c24) 4 rfl rfl (by kernel_rfl) (by kernel_rfl) (by kernel_rfl) (fun _ _ _ h => h) (Or.inl ⟨by rfl, fun w hSw => by go_simp⟩) (by assumption) ?_
                      simp only [Act.put, List.setIfInBounds_toArray, List.set_cons_zero, List.set_cons_succ]
                      refine wpAnyH_done (by kernel_rfl) ?_ _
                      refine NoPanic.normal ?_
                      go_wp2_with fail
                      go_meet
                      exact ⟨_, _, _, _, rfl, rfl, by rw [HL.out]; exact X24.out.r, by omega⟩
              · go_simp
                have X21 := Lib.hid (X1.out.lit (s.chk) (by omega) (by omega))
                refine hK.out _ _ X21.out.r.p (fun hHeld => ?_)
                clear hK K X1
                generalize hW21 : V2.alloc (.cells #[.int .u8 (s.chk)] 5) = W21 at X21 hHeld ⊢
                clear hW21
                refine wpAnyH_ready (rs := [2]) (by kernel_rfl) (by simp) ?_
                refine AllReadyH.cons rfl (fun K hK => ?_) (AllReadyH.nil)
                · go_simp
                  go_at_call 32
                  with_reducible refine (CD.out _).mono ?_
                  rintro e W22 ⟨g22, p22, rfl, hm, hb⟩
                  have X22 := Lib.hid (X21.out.made hm hb)
                  refine hK.out _ _ X22.out.r.p (fun hHeld => ?_)
                  clear hK K hm hb X21
                  refine wpAnyH_ready (rs := [3]) (by kernel_rfl) (by simp) ?_
                  refine AllReadyH.cons rfl (fun K hK => ?_) (AllReadyH.nil)
                  · skip
                    refine step_rx rfl 140 rfl (.tmp 137) (.tmp 139) rfl X22.out (List.Mem.head _) rfl rfl (by omega) ?_
                    intro a23 c23 W23 q
                    have X23 := Lib.hid q
                    refine hK.out _ _ X23.out.r.p (fun hHeld => ?_)
                    clear hK K q X22
                    simp only [Act.put, List.setIfInBounds_toArray, List.set_cons_zero, List.set_cons_succ]
                    refine wpAnyH_ready (rs := [8]) (by kernel_rfl) (by simp) ?_
                    refine AllReadyH.cons rfl (fun K hK => ?_) (AllReadyH.nil)
                    · skip
                      refine step_rx rfl 145 rfl (.tmp 140) (.tmp 144) rfl X23.out (List.Mem.tail _ (List.Mem.head _)) rfl rfl (by omega) ?_
                      intro a24 c24 W24 q
                      have X24 := Lib.hid q
                      refine hK.out _ _ X24.out.r.p (fun hHeld => ?_)
                      clear hK K q X23
                      simp only [Act.put, List.setIfInBounds_toArray, List.set_cons_zero, List.set_cons_succ]
                      refine take_lit (i := 9) (v := .slice a24 (n + 2 + 4 + 4 + 2 + 2 + 4 + dynN s + 1) c24) 4 rfl rfl (by kernel_rfl) (by kernel_rfl) (by kernel_rfl) (fun _ _ _ h => h) (Or.inl ⟨by rfl, fun w hSw => by go_simp⟩) (by assumption) ?_
                      simp only [Act.put, List.setIfInBounds_toArray, List.set_cons_zero, List.set_cons_succ]
                      refine wpAnyH_done (by kernel_rfl) ?_ _
                      refine NoPanic.normal ?_
                      go_wp2_with fail
                      go_meet
                      exact ⟨_, _, _, _, rfl, rfl, by rw [HL.out]; exact X24.out.r, by omega⟩
      · have f1 : (s.fmt == 1) = false := by rw [f]; rfl
        have f2 : (s.fmt == 2) = false := by rw [f]; rfl
        have f3 : (s.fmt == 3) = false := by rw [f]; rfl
        have f4 : (s.fmt == 4) = false := by rw [f]; rfl
        have f5 : (s.fmt == 5) = false := by rw [f]; rfl
        have HL : Hid (ctxL s ++ encH s = ctxL s ++ [210]) := Lib.hid (by unfold encH; rw [f]; simp)
        clear f b
        go_wp2_with (first | (at_builtin; refine wpList_push_re rfl (.tmp 26) (.tmp 27) rfl R1.out (210) (by omega) (by omega) rfl W1.heap.size rfl rfl (by omega) ?_; intro g2 c2 W2 q; have R2 := Lib.hid q; have k2 := R2.out.cell; clear q) | fail)
        go_meet
        exact ⟨_, _, _, _, rfl, rfl, by rw [HL.out]; exact R2.out, by omega⟩
    case rest =>
      obtain ⟨a2, n2, c2, W2, rfl, rfl, q2, hn2⟩ := hcut
      clear R1 k1
      have R2 := Lib.hid q2
      have k2 := R2.out.cell
      clear q2
      go_upto_if 148 with fail
      go_cut [4] (fun s4 wc => ∃ a n c wx, s4 = .slice a n c ∧ wx = wc ∧ RE w wx s a n c (ctxL s ++ encH s ++ if s.udp = 0 then [] else putB 2 s.udp 2) ∧ n ≤ 104)
      case first =>
        by_cases hu : s.udp = 0
        · have u0 : (s.udp != 0) = false := by rw [hu]; rfl
          have HU : Hid ((if s.udp = 0 then ([] : List Int) else putB 2 s.udp 2) = []) := Lib.hid (if_pos hu)
          clear hu
          go_wp2_with fail
          go_meet
          exact ⟨_, _, _, _, rfl, rfl, by rw [HU.out, List.append_nil]; exact R2.out, by omega⟩
        · have u0 : (s.udp != 0) = true := by simpa using hu
          have HU : Hid ((if s.udp = 0 then ([] : List Int) else putB 2 s.udp 2) = putB 2 s.udp 2) := Lib.hid (if_neg hu)
          clear hu
          go_wp2_with (first | (go_at_call 31; ((with_reducible refine (Put_lit w.heap.size _ (n2) _ 2 (n2 + 2) 2 (s.udp) _ _ R2.out.m R2.out.z R2.out.b.size rfl rfl (by omega) (by omega)).mono ?_); rintro e W3 ⟨a3, c3, rfl, gr, nz⟩; have R3 := Lib.hid (R2.out.put gr nz); have k3 := R3.out.cell; clear gr nz)) | fail)
          go_meet
          exact ⟨_, _, _, _, rfl, rfl, by rw [HU.out]; exact R3.out, by omega⟩
      case rest =>
        obtain ⟨a3, n3, c3, W3, rfl, rfl, q3, hn3⟩ := hcut
        clear R2 k2
        have R3 := Lib.hid q3
        have k3 := R3.out.cell
        clear q3
        have CB := Lib.hid (fun W => big_any s.fmt W)
        have HCK : Hid (ctxL s ++ encH s ++ (if s.udp = 0 then [] else putB 2 s.udp 2) ++ cond ((s.fmt == 4 || s.fmt == 5) && s.h.check != 0) (putB 2 s.h.check 2) [] = ctxL s ++ (encH s ++ ckL s)) := Lib.hid (re_ck V.out)
        generalize hbg : (s.fmt == 4 || s.fmt == 5) = bg at CB HCK
        generalize hck : (s.h.check != 0) = ck at HCK
        have HCQ := hck
        clear hbg hck
        cases bg <;> cases ck
        · go_upto_region 36 with (first | (go_at_call 33; ((with_reducible refine (CB.out _).mono ?_); rintro e w' ⟨rfl, rfl⟩)) | fail)
          have hl3 := V.out.pn
          have S3 := Lib.hid (HI.out.sl.keep R3.out.b)
          have NI3 := Lib.hid HI.out.nil
          have hb3 := R3.out.b.size
          go_wp2_with (first | (at_builtin; refine wpList_append_at rfl (.tmp 167) (.tmp 169) 26 rfl .u8 5 w.heap.size 1 Tryd.underlying26 info_u8 (.slice a3 (n3) c3) (n3) _ rfl R3.out.m s.pa s.pn s.pc s.pz rfl S3.out NI3.out (by omega) (by omega) hb3 ?_; intro a9 c9 w9 hm hg hl hn; have M9 := Lib.hid hm; have G9 := Lib.hid hg; have N9 := Lib.hid hn; clear hm hg hl hn) | fail)
          go_ret2
          refine ⟨_, _, _, rfl, (fun h => (N9.out h).2), ?_, R3.out.b.trans (Below.of_row G9.out R3.out.ge hb3)⟩
          have e : ctxL s ++ encH s ++ (if s.udp = 0 then [] else putB 2 s.udp 2) ++ [] = ctxL s ++ (encH s ++ ckL s) := HCK.out
          rw [List.append_nil] at e
          have m := M9.out
          rw [e] at m
          exact m
        · go_upto_region 36 with (first | (go_at_call 33; ((with_reducible refine (CB.out _).mono ?_); rintro e w' ⟨rfl, rfl⟩)) | fail)
          have hl3 := V.out.pn
          have S3 := Lib.hid (HI.out.sl.keep R3.out.b)
          have NI3 := Lib.hid HI.out.nil
          have hb3 := R3.out.b.size
          go_wp2_with (first | (at_builtin; refine wpList_append_at rfl (.tmp 167) (.tmp 169) 26 rfl .u8 5 w.heap.size 1 Tryd.underlying26 info_u8 (.slice a3 (n3) c3) (n3) _ rfl R3.out.m s.pa s.pn s.pc s.pz rfl S3.out NI3.out (by omega) (by omega) hb3 ?_; intro a9 c9 w9 hm hg hl hn; have M9 := Lib.hid hm; have G9 := Lib.hid hg; have N9 := Lib.hid hn; clear hm hg hl hn) | fail)
          go_ret2
          refine ⟨_, _, _, rfl, (fun h => (N9.out h).2), ?_, R3.out.b.trans (Below.of_row G9.out R3.out.ge hb3)⟩
          have e : ctxL s ++ encH s ++ (if s.udp = 0 then [] else putB 2 s.udp 2) ++ [] = ctxL s ++ (encH s ++ ckL s) := HCK.out
          rw [List.append_nil] at e
          have m := M9.out
          rw [e] at m
          exact m
        · go_upto_region 36 with (first | (go_at_call 33; ((with_reducible refine (CB.out _).mono ?_); rintro e w' ⟨rfl, rfl⟩)) | fail)
          have hl3 := V.out.pn
          have S3 := Lib.hid (HI.out.sl.keep R3.out.b)
          have NI3 := Lib.hid HI.out.nil
          have hb3 := R3.out.b.size
          go_wp2_with (first | (at_builtin; refine wpList_append_at rfl (.tmp 167) (.tmp 169) 26 rfl .u8 5 w.heap.size 1 Tryd.underlying26 info_u8 (.slice a3 (n3) c3) (n3) _ rfl R3.out.m s.pa s.pn s.pc s.pz rfl S3.out NI3.out (by omega) (by omega) hb3 ?_; intro a9 c9 w9 hm hg hl hn; have M9 := Lib.hid hm; have G9 := Lib.hid hg; have N9 := Lib.hid hn; clear hm hg hl hn) | fail)
          go_ret2
          refine ⟨_, _, _, rfl, (fun h => (N9.out h).2), ?_, R3.out.b.trans (Below.of_row G9.out R3.out.ge hb3)⟩
          have e : ctxL s ++ encH s ++ (if s.udp = 0 then [] else putB 2 s.udp 2) ++ [] = ctxL s ++ (encH s ++ ckL s) := HCK.out
          rw [List.append_nil] at e
          have m := M9.out
          rw [e] at m
          exact m
        · go_upto_region 36 with (first | (go_at_call 33; ((with_reducible refine (CB.out _).mono ?_); rintro e w' ⟨rfl, rfl⟩)) | (go_at_call 31; ((with_reducible refine (Put_lit w.heap.size _ (n3) _ 2 (n3 + 2) 2 (s.h.check) _ _ R3.out.m R3.out.z R3.out.b.size rfl rfl (by omega) (by omega)).mono ?_); rintro e W4 ⟨a4, c4, rfl, gr, nz⟩; have R4 := Lib.hid (R3.out.put gr nz); have k4 := R4.out.cell; clear gr nz)) | fail)
          have hl4 := V.out.pn
          have S4 := Lib.hid (HI.out.sl.keep R4.out.b)
          have NI4 := Lib.hid HI.out.nil
          have hb4 := R4.out.b.size
          go_wp2_with (first | (at_builtin; refine wpList_append_at rfl (.tmp 167) (.tmp 169) 26 rfl .u8 5 w.heap.size 1 Tryd.underlying26 info_u8 (.slice a4 (n3 + 2) c4) (n3 + 2) _ rfl R4.out.m s.pa s.pn s.pc s.pz rfl S4.out NI4.out (by omega) (by omega) hb4 ?_; intro a9 c9 w9 hm hg hl hn; have M9 := Lib.hid hm; have G9 := Lib.hid hg; have N9 := Lib.hid hn; clear hm hg hl hn) | fail)
          go_ret2
          refine ⟨_, _, _, rfl, (fun h => (N9.out h).2), ?_, R4.out.b.trans (Below.of_row G9.out R4.out.ge hb4)⟩
          have e : ctxL s ++ encH s ++ (if s.udp = 0 then [] else putB 2 s.udp 2) ++ putB 2 s.h.check 2 = ctxL s ++ (encH s ++ ckL s) := HCK.out
          have m := M9.out
          rw [e] at m
          exact m
end Go.Proofs.YtkhcfmnebflgkaaDoor
