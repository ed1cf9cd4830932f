/-
  FormatSizes: made parts have the sizes of their formats; true for every input.
-/
import Derived.Test.YtjmbaajdieiblaaDoorFmAwake
import Derived.Test.YtjmbaajdieiblaaDoorDiceSmall
import Derived.Deep.DeepCutAuto
import Derived.Test.YtjmbaajdieiblaaDoorFmLaid
import Derived.Test.YtjmbaajdieiblaaDoorTie
import Derived.Test.YtjmbaajdieiblaaDoorCards
import Derived.SevenTiedAt
namespace Go.Proofs.YtjmbaajdieiblaaDoor.formatSizes
open Go Go.RowKit Go.ChangeShapes Go.WideShapes Go.ChangeAt

theorem encH_len {s : Sm} (v : OkS s) : (encH s).length = hlen s.fmt s.h.kind := by
  unfold encH hlen
  rcases v.arm with ⟨f, k, _⟩ | ⟨f, b⟩ | ⟨f, b⟩
  · have := v.fmt
    rcases (show s.fmt = 1 ∨ s.fmt = 2 ∨ s.fmt = 3 by omega) with e | e | e <;> rcases k with k | k <;> simp [e, k, putB_len]
  · rcases b.head.2 with ⟨k, _⟩ | ⟨k, _⟩ <;> rcases f with e | e <;> simp [e, k, putB_len, dynL]
  · simp [f]
/-- how many bytes stand ahead of the payload -/
theorem encL_len {s : Sm} (v : OkS s) (hp : s.pz.length = s.pn) : (encL s).length = (if 0 < s.ctx then 1 else 0) + hlen s.fmt s.h.kind + (if ckV s = 0 then 0 else 2) + s.pn := by
  unfold encL
  rw [List.length_append, List.length_append, List.length_append, encH_len v, hp]
  unfold ctxL ckL
  split <;> split <;> simp <;> omega
theorem ck_two {s : Sm} (v : OkS s) : (if ckV s = 0 then 0 else 2) = (if (s.udp != 0 || (s.fmt != 6 && s.h.check != 0)) = true then 2 else 0) := by
  unfold ckV
  rcases v.arm with ⟨f, k, b⟩ | ⟨f, b⟩ | ⟨f, b⟩
  · have hk : s.h.check = 0 := by rw [b.head]; rfl
    rw [if_neg (show ¬ (s.fmt = 4 ∨ s.fmt = 5) by omega), hk]
    by_cases u : s.udp = 0 <;> simp [u]
  · rw [if_pos f, b.udp]
    have f6 : (s.fmt != 6) = true := by rcases f with f | f <;> rw [f] <;> rfl
    rw [f6]
    by_cases u : s.h.check = 0 <;> simp [u]
  · rw [f, b.udp]; simp
theorem hlen_le (f k : Int) : hlen f k ≤ 33 := by
  unfold hlen
  (repeat' split) <;> omega


set_option maxRecDepth 100000 in
set_option maxHeartbeats 64000000 in
theorem walk (w : World) (hst : St w) (a0 : Option Addr) (n cap : Nat) (t : List Int) (hs : Sl .i64 w a0 n t) :
    Calls Tryd.prog 9 #[.slice a0 n cap] w fun e w' => e = .returned (.bool true) ∧ Below w.heap.size w w' := by
  have hr := hs.reach
  have Hs := Lib.hid hs
  have HST := Lib.hid hst
  clear hs hst
  by_cases hn : n ≤ 400
  · have hd : decide (n ≤ 400) = true := decide_eq_true hn
    go_enter Tryd.func9, Tryd.ntmps9
    go_wp2_with (go_at_call 16; refine (light_any _ _ _ _ (by omega)).mono ?_; rintro e w' ⟨rfl, rfl⟩)
    refine (roll_in a0 n cap t _ Hs.out).mono ?_
    rintro e w1 ⟨rfl, hd1, hb1, hz1⟩
    have D1 := Lib.hid hd1
    have B1 := Lib.hid hb1
    have hz1' : w.heap.size < w1.heap.size := by omega
    clear hd1 hb1 hz1 hd Hs hr
    go_wp2_with fail
    refine (small_in _ w1 D1.out).mono ?_
    rintro e w2 ⟨s, rfl, hf, hv, hin, hd, hg⟩
    have B2 := Lib.hid (B1.out.trans (Below.of_row hg (fun g e => by rw [← Option.some.inj e]; exact Nat.le_refl _) (Nat.le_of_lt hz1')))
    have HF := Lib.hid hf
    have HV := Lib.hid hv
    have HI := Lib.hid hin
    have H2 := Lib.hid (HST.out.keep B2.out)
    clear hf hv hin hd hg D1 B1
    dsimp only
    refine ‹∀ (a : Act) (w : World), wpList _ _ _ _ a w → _› _ _ ?_
    refine wpList_run (.pointer (some ⟨w2.heap.size, 0, none⟩)) (w2.alloc (.cells #[.int .i64 0, .int .i64 0, .int .i64 0, .int .i64 0, .int .i64 0, .int .i64 0, .int .i64 0, .int .i64 0, .int .i64 0, .int .i64 0, .int .i64 0, .int .i64 0, .int .i64 0, .int .i64 0, .int .i64 0, .int .i64 0, .int .i64 0, .int .i64 0, .int .i64 0, .int .i64 0, .int .i64 0, .int .i64 0, .int .i64 0, .int .i64 0, .int .i64 0, .slice none 0 0] 28)) rfl (by kernel_rfl) ?_
    refine wpList_store_blk (n := 26) rfl rfl _ _ rfl rfl rfl (heap_alloc_new w2 _) rfl rfl info_sm (by simp [Value.oneCell']) ?_
    intro w3 K3 G3
    simp only [Act.put, List.setIfInBounds_toArray, List.set_cons_zero, List.set_cons_succ]
    have b3 : Below w2.heap.size w2 w3 := ((Below.refl w2.heap.size w2).alloc (Nat.le_refl _) _).trans (Below.of_row G3 (fun g e => by rw [← Option.some.inj e]; exact Nat.le_refl _) (by simp))
    have B3 := Lib.hid (B2.out.trans (b3.mono B2.out.size))
    have H3 := Lib.hid (H2.out.keep b3)
    have P3 : Hid (Blk 28 w3 w2.heap.size #[.int .i64 s.ctx, .int .i64 s.fmt, .int .i64 s.num, .int .i64 s.time, .int .i64 s.mark, .int .i64 s.id, .int .i64 s.udp, .int .i64 s.h.kind, .int .i64 s.h.tos, .int .i64 s.h.id, .int .i64 s.h.fixed, .int .i64 s.h.ttl, .int .i64 s.h.frm, .int .i64 s.h.to, .int .i64 s.h.fromPort, .int .i64 s.h.toPort, .int .i64 s.h.check, .int .i64 s.h.marker, .int .i64 s.h.type, .int .i64 s.h.seq, .int .i64 s.h.time, .int .i64 s.h.source, .int .i64 s.ds, .int .i64 s.df, .int .i64 s.chk, .slice s.pa s.pn s.pc]) := Lib.hid K3
    have I3 := Lib.hid (HI.out.keep b3)
    clear K3 G3 b3 B2 H2 HI
    generalize w2.heap.size = P at P3 ⊢
    go_upto_region 4 with fail
    refine wp_region_lit ?_
    refine wpList_load_sm P3.out rfl _ rfl rfl ?_
    go_upto_region 5 with (first | (go_at_call 10; ((with_reducible refine (enc_ok s w3 HF.out HV.out H3.out I3.out).mono ?_); rintro e w4 ⟨a, m, c, rfl, _, hm, hb⟩; have P4 := Lib.hid (P3.out.keep hb); have H4 := Lib.hid (H3.out.keep hb); have B4 := Lib.hid (B3.out.trans (hb.mono B3.out.size)); have L4 := hm.len; have R4 := hm.reach; rw [encL_len (ok_of HV.out) I3.out.sl.len] at L4; have c4 := cells_of P4.out; clear hm hb P3 H3 B3 HF)) | fail)
    have AW4 := Lib.hid (awake08_any w4 H4.out)
    have OK := Lib.hid (ok_of HV.out)
    clear HV I3
    rw [ck_two OK.out] at L4
    have hc0 := OK.out.ctx
    have hpn := OK.out.pn
    have hl := hlen_le s.fmt s.h.kind
    go_upto_if 28 with fail
    go_cut [6] (fun s6 wc => s6 = .int .i64 ((hlen s.fmt s.h.kind : Int) + (if (s.udp != 0 || (s.fmt != 6 && s.h.check != 0)) = true then 2 else 0)) ∧ wc = w4)
    case first =>
      clear OK AW4 H4 B4
      cases ck : (s.udp != 0 || (s.fmt != 6 && s.h.check != 0)) <;> by_cases c : 0 < s.ctx
      all_goals
        simp only [ck, c, if_true, if_false, Bool.false_eq_true] at L4
        have CK := Lib.hid ck
        clear ck
        go_wp2_with fail
        go_meet
        exact ⟨by rw [CK.out]; congr 1; simp; omega, rfl⟩
    case rest =>
      obtain ⟨rfl, rfl⟩ := hcut
      clear L4 R4
      rcases OK.out.arm with ⟨f3, kk, b⟩ | ⟨f, b⟩ | ⟨f, b⟩
      · have hkc : (s.h.check != 0) = false := by rw [b.head]; rfl
        have hfm := OK.out.fmt
        rcases (show s.fmt = 1 ∨ s.fmt = 2 ∨ s.fmt = 3 by omega) with e | e | e <;> rcases kk with k | k <;> clear b f3 hfm
        · skip
          have h6 : (s.fmt != 6) = true := by rw [e]; rfl
          have K2 : (s.h.kind == 2) = false := by rw [k]; rfl
          have HL : hlen s.fmt s.h.kind = 1 := by rw [e, k]; rfl
          have c1 : wc.cell? ⟨P, 1, none⟩ = some (.int .i64 1) := (c4 1).trans (by rw [e]; rfl)
          clear k
          cases hu : (s.udp != 0)
          · skip
            rw [show ((hlen s.fmt s.h.kind : Nat) : Int) + (if (false || (s.fmt != 6 && s.h.check != 0)) = true then 2 else 0) = 1 from by rw [HL, show (false || (s.fmt != 6 && s.h.check != 0)) = false from by rw [h6, hkc]; rfl]; rfl]
            go_upto_region 10 with fail
            refine wp_region_lit ?_
            refine wpList_run (.agg #[.int .i64 0, .int .i64 1, .int .i64 2, .int .i64 4, .int .i64 7, .int .i64 20, .int .i64 1]) wc rfl (by kernel_rfl) ?_
            refine wpList_run (.pointer (some ⟨P, 1, none⟩)) wc rfl (by kernel_rfl) ?_
            refine wpList_run (.int .i64 1) wc rfl (by go_simp) ?_
            refine wpList_run (.int .i64 1) wc rfl (by kernel_rfl) ?_
            refine wpList_run (.int .i64 1) wc rfl (by kernel_rfl) ?_
            simp only [Act.put, List.setIfInBounds_toArray, List.set_cons_zero, List.set_cons_succ]
            go_wp2_with (first | (go_at_call 12; ((with_reducible refine AW4.out.mono ?_); rintro e w5 ⟨rfl, hb⟩; have B5 := Lib.hid (B4.out.trans (hb.mono B4.out.size)); clear hb)) | fail)
            go_ret
            exact ⟨rfl, B5.out⟩
          · skip
            rw [show ((hlen s.fmt s.h.kind : Nat) : Int) + (if (true || (s.fmt != 6 && s.h.check != 0)) = true then 2 else 0) = 3 from by rw [HL, show (true || (s.fmt != 6 && s.h.check != 0)) = true from by rw [h6, hkc]; rfl]; rfl]
            go_upto_region 10 with fail
            refine wp_region_lit ?_
            refine wpList_run (.agg #[.int .i64 0, .int .i64 1, .int .i64 2, .int .i64 4, .int .i64 7, .int .i64 20, .int .i64 1]) wc rfl (by kernel_rfl) ?_
            refine wpList_run (.pointer (some ⟨P, 1, none⟩)) wc rfl (by kernel_rfl) ?_
            refine wpList_run (.int .i64 1) wc rfl (by go_simp) ?_
            refine wpList_run (.int .i64 1) wc rfl (by kernel_rfl) ?_
            refine wpList_run (.int .i64 1) wc rfl (by kernel_rfl) ?_
            simp only [Act.put, List.setIfInBounds_toArray, List.set_cons_zero, List.set_cons_succ]
            go_wp2_with (first | (go_at_call 12; ((with_reducible refine AW4.out.mono ?_); rintro e w5 ⟨rfl, hb⟩; have B5 := Lib.hid (B4.out.trans (hb.mono B4.out.size)); clear hb)) | fail)
            go_ret
            exact ⟨rfl, B5.out⟩
        · skip
          have h6 : (s.fmt != 6) = true := by rw [e]; rfl
          have K2 : (s.h.kind == 2) = true := by rw [k]; rfl
          have HL : hlen s.fmt s.h.kind = 1 := by rw [e, k]; rfl
          have c1 : wc.cell? ⟨P, 1, none⟩ = some (.int .i64 1) := (c4 1).trans (by rw [e]; rfl)
          clear k
          cases hu : (s.udp != 0)
          · skip
            rw [show ((hlen s.fmt s.h.kind : Nat) : Int) + (if (false || (s.fmt != 6 && s.h.check != 0)) = true then 2 else 0) = 1 from by rw [HL, show (false || (s.fmt != 6 && s.h.check != 0)) = false from by rw [h6, hkc]; rfl]; rfl]
            go_upto_region 10 with fail
            refine wp_region_lit ?_
            refine wpList_run (.agg #[.int .i64 0, .int .i64 1, .int .i64 2, .int .i64 4, .int .i64 7, .int .i64 20, .int .i64 1]) wc rfl (by kernel_rfl) ?_
            refine wpList_run (.pointer (some ⟨P, 1, none⟩)) wc rfl (by kernel_rfl) ?_
            refine wpList_run (.int .i64 1) wc rfl (by go_simp) ?_
            refine wpList_run (.int .i64 1) wc rfl (by kernel_rfl) ?_
            refine wpList_run (.int .i64 1) wc rfl (by kernel_rfl) ?_
            simp only [Act.put, List.setIfInBounds_toArray, List.set_cons_zero, List.set_cons_succ]
            go_upto_region 12 with fail
            refine wp_region_lit ?_
            refine wpList_run (.agg #[.int .i64 0, .int .i64 1, .int .i64 4, .int .i64 9, .int .i64 16, .int .i64 33, .int .i64 1]) wc rfl (by kernel_rfl) ?_
            refine wpList_run (.pointer (some ⟨P, 1, none⟩)) wc rfl (by kernel_rfl) ?_
            refine wpList_run (.int .i64 1) wc rfl (by go_simp) ?_
            refine wpList_run (.int .i64 1) wc rfl (by kernel_rfl) ?_
            refine wpList_run (.int .i64 1) wc rfl (by kernel_rfl) ?_
            simp only [Act.put, List.setIfInBounds_toArray, List.set_cons_zero, List.set_cons_succ]
            go_wp2_with (first | (go_at_call 12; ((with_reducible refine AW4.out.mono ?_); rintro e w5 ⟨rfl, hb⟩; have B5 := Lib.hid (B4.out.trans (hb.mono B4.out.size)); clear hb)) | fail)
            go_ret
            exact ⟨rfl, B5.out⟩
          · skip
            rw [show ((hlen s.fmt s.h.kind : Nat) : Int) + (if (true || (s.fmt != 6 && s.h.check != 0)) = true then 2 else 0) = 3 from by rw [HL, show (true || (s.fmt != 6 && s.h.check != 0)) = true from by rw [h6, hkc]; rfl]; rfl]
            go_upto_region 10 with fail
            refine wp_region_lit ?_
            refine wpList_run (.agg #[.int .i64 0, .int .i64 1, .int .i64 2, .int .i64 4, .int .i64 7, .int .i64 20, .int .i64 1]) wc rfl (by kernel_rfl) ?_
            refine wpList_run (.pointer (some ⟨P, 1, none⟩)) wc rfl (by kernel_rfl) ?_
            refine wpList_run (.int .i64 1) wc rfl (by go_simp) ?_
            refine wpList_run (.int .i64 1) wc rfl (by kernel_rfl) ?_
            refine wpList_run (.int .i64 1) wc rfl (by kernel_rfl) ?_
            simp only [Act.put, List.setIfInBounds_toArray, List.set_cons_zero, List.set_cons_succ]
            go_upto_region 12 with fail
            refine wp_region_lit ?_
            refine wpList_run (.agg #[.int .i64 0, .int .i64 1, .int .i64 4, .int .i64 9, .int .i64 16, .int .i64 33, .int .i64 1]) wc rfl (by kernel_rfl) ?_
            refine wpList_run (.pointer (some ⟨P, 1, none⟩)) wc rfl (by kernel_rfl) ?_
            refine wpList_run (.int .i64 1) wc rfl (by go_simp) ?_
            refine wpList_run (.int .i64 1) wc rfl (by kernel_rfl) ?_
            refine wpList_run (.int .i64 1) wc rfl (by kernel_rfl) ?_
            simp only [Act.put, List.setIfInBounds_toArray, List.set_cons_zero, List.set_cons_succ]
            go_wp2_with (first | (go_at_call 12; ((with_reducible refine AW4.out.mono ?_); rintro e w5 ⟨rfl, hb⟩; have B5 := Lib.hid (B4.out.trans (hb.mono B4.out.size)); clear hb)) | fail)
            go_ret
            exact ⟨rfl, B5.out⟩
        · skip
          have h6 : (s.fmt != 6) = true := by rw [e]; rfl
          have K2 : (s.h.kind == 2) = false := by rw [k]; rfl
          have HL : hlen s.fmt s.h.kind = 2 := by rw [e, k]; rfl
          have c1 : wc.cell? ⟨P, 1, none⟩ = some (.int .i64 2) := (c4 1).trans (by rw [e]; rfl)
          clear k
          cases hu : (s.udp != 0)
          · skip
            rw [show ((hlen s.fmt s.h.kind : Nat) : Int) + (if (false || (s.fmt != 6 && s.h.check != 0)) = true then 2 else 0) = 2 from by rw [HL, show (false || (s.fmt != 6 && s.h.check != 0)) = false from by rw [h6, hkc]; rfl]; rfl]
            go_upto_region 10 with fail
            refine wp_region_lit ?_
            refine wpList_run (.agg #[.int .i64 0, .int .i64 1, .int .i64 2, .int .i64 4, .int .i64 7, .int .i64 20, .int .i64 1]) wc rfl (by kernel_rfl) ?_
            refine wpList_run (.pointer (some ⟨P, 1, none⟩)) wc rfl (by kernel_rfl) ?_
            refine wpList_run (.int .i64 2) wc rfl (by go_simp) ?_
            refine wpList_run (.int .i64 2) wc rfl (by kernel_rfl) ?_
            refine wpList_run (.int .i64 2) wc rfl (by kernel_rfl) ?_
            simp only [Act.put, List.setIfInBounds_toArray, List.set_cons_zero, List.set_cons_succ]
            go_wp2_with (first | (go_at_call 12; ((with_reducible refine AW4.out.mono ?_); rintro e w5 ⟨rfl, hb⟩; have B5 := Lib.hid (B4.out.trans (hb.mono B4.out.size)); clear hb)) | fail)
            go_ret
            exact ⟨rfl, B5.out⟩
          · skip
            rw [show ((hlen s.fmt s.h.kind : Nat) : Int) + (if (true || (s.fmt != 6 && s.h.check != 0)) = true then 2 else 0) = 4 from by rw [HL, show (true || (s.fmt != 6 && s.h.check != 0)) = true from by rw [h6, hkc]; rfl]; rfl]
            go_upto_region 10 with fail
            refine wp_region_lit ?_
            refine wpList_run (.agg #[.int .i64 0, .int .i64 1, .int .i64 2, .int .i64 4, .int .i64 7, .int .i64 20, .int .i64 1]) wc rfl (by kernel_rfl) ?_
            refine wpList_run (.pointer (some ⟨P, 1, none⟩)) wc rfl (by kernel_rfl) ?_
            refine wpList_run (.int .i64 2) wc rfl (by go_simp) ?_
            refine wpList_run (.int .i64 2) wc rfl (by kernel_rfl) ?_
            refine wpList_run (.int .i64 2) wc rfl (by kernel_rfl) ?_
            simp only [Act.put, List.setIfInBounds_toArray, List.set_cons_zero, List.set_cons_succ]
            go_wp2_with (first | (go_at_call 12; ((with_reducible refine AW4.out.mono ?_); rintro e w5 ⟨rfl, hb⟩; have B5 := Lib.hid (B4.out.trans (hb.mono B4.out.size)); clear hb)) | fail)
            go_ret
            exact ⟨rfl, B5.out⟩
        · skip
          have h6 : (s.fmt != 6) = true := by rw [e]; rfl
          have K2 : (s.h.kind == 2) = true := by rw [k]; rfl
          have HL : hlen s.fmt s.h.kind = 4 := by rw [e, k]; rfl
          have c1 : wc.cell? ⟨P, 1, none⟩ = some (.int .i64 2) := (c4 1).trans (by rw [e]; rfl)
          clear k
          cases hu : (s.udp != 0)
          · skip
            rw [show ((hlen s.fmt s.h.kind : Nat) : Int) + (if (false || (s.fmt != 6 && s.h.check != 0)) = true then 2 else 0) = 4 from by rw [HL, show (false || (s.fmt != 6 && s.h.check != 0)) = false from by rw [h6, hkc]; rfl]; rfl]
            go_upto_region 10 with fail
            refine wp_region_lit ?_
            refine wpList_run (.agg #[.int .i64 0, .int .i64 1, .int .i64 2, .int .i64 4, .int .i64 7, .int .i64 20, .int .i64 1]) wc rfl (by kernel_rfl) ?_
            refine wpList_run (.pointer (some ⟨P, 1, none⟩)) wc rfl (by kernel_rfl) ?_
            refine wpList_run (.int .i64 2) wc rfl (by go_simp) ?_
            refine wpList_run (.int .i64 2) wc rfl (by kernel_rfl) ?_
            refine wpList_run (.int .i64 2) wc rfl (by kernel_rfl) ?_
            simp only [Act.put, List.setIfInBounds_toArray, List.set_cons_zero, List.set_cons_succ]
            go_upto_region 12 with fail
            refine wp_region_lit ?_
            refine wpList_run (.agg #[.int .i64 0, .int .i64 1, .int .i64 4, .int .i64 9, .int .i64 16, .int .i64 33, .int .i64 1]) wc rfl (by kernel_rfl) ?_
            refine wpList_run (.pointer (some ⟨P, 1, none⟩)) wc rfl (by kernel_rfl) ?_
            refine wpList_run (.int .i64 2) wc rfl (by go_simp) ?_
            refine wpList_run (.int .i64 4) wc rfl (by kernel_rfl) ?_
            refine wpList_run (.int .i64 4) wc rfl (by kernel_rfl) ?_
            simp only [Act.put, List.setIfInBounds_toArray, List.set_cons_zero, List.set_cons_succ]
            go_wp2_with (first | (go_at_call 12; ((with_reducible refine AW4.out.mono ?_); rintro e w5 ⟨rfl, hb⟩; have B5 := Lib.hid (B4.out.trans (hb.mono B4.out.size)); clear hb)) | fail)
            go_ret
            exact ⟨rfl, B5.out⟩
          · skip
            rw [show ((hlen s.fmt s.h.kind : Nat) : Int) + (if (true || (s.fmt != 6 && s.h.check != 0)) = true then 2 else 0) = 6 from by rw [HL, show (true || (s.fmt != 6 && s.h.check != 0)) = true from by rw [h6, hkc]; rfl]; rfl]
            go_upto_region 10 with fail
            refine wp_region_lit ?_
            refine wpList_run (.agg #[.int .i64 0, .int .i64 1, .int .i64 2, .int .i64 4, .int .i64 7, .int .i64 20, .int .i64 1]) wc rfl (by kernel_rfl) ?_
            refine wpList_run (.pointer (some ⟨P, 1, none⟩)) wc rfl (by kernel_rfl) ?_
            refine wpList_run (.int .i64 2) wc rfl (by go_simp) ?_
            refine wpList_run (.int .i64 2) wc rfl (by kernel_rfl) ?_
            refine wpList_run (.int .i64 2) wc rfl (by kernel_rfl) ?_
            simp only [Act.put, List.setIfInBounds_toArray, List.set_cons_zero, List.set_cons_succ]
            go_upto_region 12 with fail
            refine wp_region_lit ?_
            refine wpList_run (.agg #[.int .i64 0, .int .i64 1, .int .i64 4, .int .i64 9, .int .i64 16, .int .i64 33, .int .i64 1]) wc rfl (by kernel_rfl) ?_
            refine wpList_run (.pointer (some ⟨P, 1, none⟩)) wc rfl (by kernel_rfl) ?_
            refine wpList_run (.int .i64 2) wc rfl (by go_simp) ?_
            refine wpList_run (.int .i64 4) wc rfl (by kernel_rfl) ?_
            refine wpList_run (.int .i64 4) wc rfl (by kernel_rfl) ?_
            simp only [Act.put, List.setIfInBounds_toArray, List.set_cons_zero, List.set_cons_succ]
            go_wp2_with (first | (go_at_call 12; ((with_reducible refine AW4.out.mono ?_); rintro e w5 ⟨rfl, hb⟩; have B5 := Lib.hid (B4.out.trans (hb.mono B4.out.size)); clear hb)) | fail)
            go_ret
            exact ⟨rfl, B5.out⟩
        · skip
          have h6 : (s.fmt != 6) = true := by rw [e]; rfl
          have K2 : (s.h.kind == 2) = false := by rw [k]; rfl
          have HL : hlen s.fmt s.h.kind = 4 := by rw [e, k]; rfl
          have c1 : wc.cell? ⟨P, 1, none⟩ = some (.int .i64 3) := (c4 1).trans (by rw [e]; rfl)
          clear k
          cases hu : (s.udp != 0)
          · skip
            rw [show ((hlen s.fmt s.h.kind : Nat) : Int) + (if (false || (s.fmt != 6 && s.h.check != 0)) = true then 2 else 0) = 4 from by rw [HL, show (false || (s.fmt != 6 && s.h.check != 0)) = false from by rw [h6, hkc]; rfl]; rfl]
            go_upto_region 10 with fail
            refine wp_region_lit ?_
            refine wpList_run (.agg #[.int .i64 0, .int .i64 1, .int .i64 2, .int .i64 4, .int .i64 7, .int .i64 20, .int .i64 1]) wc rfl (by kernel_rfl) ?_
            refine wpList_run (.pointer (some ⟨P, 1, none⟩)) wc rfl (by kernel_rfl) ?_
            refine wpList_run (.int .i64 3) wc rfl (by go_simp) ?_
            refine wpList_run (.int .i64 4) wc rfl (by kernel_rfl) ?_
            refine wpList_run (.int .i64 4) wc rfl (by kernel_rfl) ?_
            simp only [Act.put, List.setIfInBounds_toArray, List.set_cons_zero, List.set_cons_succ]
            go_wp2_with (first | (go_at_call 12; ((with_reducible refine AW4.out.mono ?_); rintro e w5 ⟨rfl, hb⟩; have B5 := Lib.hid (B4.out.trans (hb.mono B4.out.size)); clear hb)) | fail)
            go_ret
            exact ⟨rfl, B5.out⟩
          · skip
            rw [show ((hlen s.fmt s.h.kind : Nat) : Int) + (if (true || (s.fmt != 6 && s.h.check != 0)) = true then 2 else 0) = 6 from by rw [HL, show (true || (s.fmt != 6 && s.h.check != 0)) = true from by rw [h6, hkc]; rfl]; rfl]
            go_upto_region 10 with fail
            refine wp_region_lit ?_
            refine wpList_run (.agg #[.int .i64 0, .int .i64 1, .int .i64 2, .int .i64 4, .int .i64 7, .int .i64 20, .int .i64 1]) wc rfl (by kernel_rfl) ?_
            refine wpList_run (.pointer (some ⟨P, 1, none⟩)) wc rfl (by kernel_rfl) ?_
            refine wpList_run (.int .i64 3) wc rfl (by go_simp) ?_
            refine wpList_run (.int .i64 4) wc rfl (by kernel_rfl) ?_
            refine wpList_run (.int .i64 4) wc rfl (by kernel_rfl) ?_
            simp only [Act.put, List.setIfInBounds_toArray, List.set_cons_zero, List.set_cons_succ]
            go_wp2_with (first | (go_at_call 12; ((with_reducible refine AW4.out.mono ?_); rintro e w5 ⟨rfl, hb⟩; have B5 := Lib.hid (B4.out.trans (hb.mono B4.out.size)); clear hb)) | fail)
            go_ret
            exact ⟨rfl, B5.out⟩
        · skip
          have h6 : (s.fmt != 6) = true := by rw [e]; rfl
          have K2 : (s.h.kind == 2) = true := by rw [k]; rfl
          have HL : hlen s.fmt s.h.kind = 9 := by rw [e, k]; rfl
          have c1 : wc.cell? ⟨P, 1, none⟩ = some (.int .i64 3) := (c4 1).trans (by rw [e]; rfl)
          clear k
          cases hu : (s.udp != 0)
          · skip
            rw [show ((hlen s.fmt s.h.kind : Nat) : Int) + (if (false || (s.fmt != 6 && s.h.check != 0)) = true then 2 else 0) = 9 from by rw [HL, show (false || (s.fmt != 6 && s.h.check != 0)) = false from by rw [h6, hkc]; rfl]; rfl]
            go_upto_region 10 with fail
            refine wp_region_lit ?_
            refine wpList_run (.agg #[.int .i64 0, .int .i64 1, .int .i64 2, .int .i64 4, .int .i64 7, .int .i64 20, .int .i64 1]) wc rfl (by kernel_rfl) ?_
            refine wpList_run (.pointer (some ⟨P, 1, none⟩)) wc rfl (by kernel_rfl) ?_
            refine wpList_run (.int .i64 3) wc rfl (by go_simp) ?_
            refine wpList_run (.int .i64 4) wc rfl (by kernel_rfl) ?_
            refine wpList_run (.int .i64 4) wc rfl (by kernel_rfl) ?_
            simp only [Act.put, List.setIfInBounds_toArray, List.set_cons_zero, List.set_cons_succ]
            go_upto_region 12 with fail
            refine wp_region_lit ?_
            refine wpList_run (.agg #[.int .i64 0, .int .i64 1, .int .i64 4, .int .i64 9, .int .i64 16, .int .i64 33, .int .i64 1]) wc rfl (by kernel_rfl) ?_
            refine wpList_run (.pointer (some ⟨P, 1, none⟩)) wc rfl (by kernel_rfl) ?_
            refine wpList_run (.int .i64 3) wc rfl (by go_simp) ?_
            refine wpList_run (.int .i64 9) wc rfl (by kernel_rfl) ?_
            refine wpList_run (.int .i64 9) wc rfl (by kernel_rfl) ?_
            simp only [Act.put, List.setIfInBounds_toArray, List.set_cons_zero, List.set_cons_succ]
            go_wp2_with (first | (go_at_call 12; ((with_reducible refine AW4.out.mono ?_); rintro e w5 ⟨rfl, hb⟩; have B5 := Lib.hid (B4.out.trans (hb.mono B4.out.size)); clear hb)) | fail)
            go_ret
            exact ⟨rfl, B5.out⟩
          · skip
            rw [show ((hlen s.fmt s.h.kind : Nat) : Int) + (if (true || (s.fmt != 6 && s.h.check != 0)) = true then 2 else 0) = 11 from by rw [HL, show (true || (s.fmt != 6 && s.h.check != 0)) = true from by rw [h6, hkc]; rfl]; rfl]
            go_upto_region 10 with fail
            refine wp_region_lit ?_
            refine wpList_run (.agg #[.int .i64 0, .int .i64 1, .int .i64 2, .int .i64 4, .int .i64 7, .int .i64 20, .int .i64 1]) wc rfl (by kernel_rfl) ?_
            refine wpList_run (.pointer (some ⟨P, 1, none⟩)) wc rfl (by kernel_rfl) ?_
            refine wpList_run (.int .i64 3) wc rfl (by go_simp) ?_
            refine wpList_run (.int .i64 4) wc rfl (by kernel_rfl) ?_
            refine wpList_run (.int .i64 4) wc rfl (by kernel_rfl) ?_
            simp only [Act.put, List.setIfInBounds_toArray, List.set_cons_zero, List.set_cons_succ]
            go_upto_region 12 with fail
            refine wp_region_lit ?_
            refine wpList_run (.agg #[.int .i64 0, .int .i64 1, .int .i64 4, .int .i64 9, .int .i64 16, .int .i64 33, .int .i64 1]) wc rfl (by kernel_rfl) ?_
            refine wpList_run (.pointer (some ⟨P, 1, none⟩)) wc rfl (by kernel_rfl) ?_
            refine wpList_run (.int .i64 3) wc rfl (by go_simp) ?_
            refine wpList_run (.int .i64 9) wc rfl (by kernel_rfl) ?_
            refine wpList_run (.int .i64 9) wc rfl (by kernel_rfl) ?_
            simp only [Act.put, List.setIfInBounds_toArray, List.set_cons_zero, List.set_cons_succ]
            go_wp2_with (first | (go_at_call 12; ((with_reducible refine AW4.out.mono ?_); rintro e w5 ⟨rfl, hb⟩; have B5 := Lib.hid (B4.out.trans (hb.mono B4.out.size)); clear hb)) | fail)
            go_ret
            exact ⟨rfl, B5.out⟩
      · have hu : (s.udp != 0) = false := by rw [b.udp]; rfl
        rcases f with e | e <;> rcases b.head.2 with ⟨k, _⟩ | ⟨k, _⟩ <;> clear b
        · skip
          have h6 : (s.fmt != 6) = true := by rw [e]; rfl
          have K2 : (s.h.kind == 2) = false := by rw [k]; rfl
          have HL : hlen s.fmt s.h.kind = 7 := by rw [e, k]; rfl
          have c1 : wc.cell? ⟨P, 1, none⟩ = some (.int .i64 4) := (c4 1).trans (by rw [e]; rfl)
          clear k
          cases hkc : (s.h.check != 0)
          · skip
            rw [show ((hlen s.fmt s.h.kind : Nat) : Int) + (if (s.udp != 0 || (s.fmt != 6 && false)) = true then 2 else 0) = 7 from by rw [HL, show (s.udp != 0 || (s.fmt != 6 && false)) = false from by rw [hu, h6]; rfl]; rfl]
            go_upto_region 10 with fail
            refine wp_region_lit ?_
            refine wpList_run (.agg #[.int .i64 0, .int .i64 1, .int .i64 2, .int .i64 4, .int .i64 7, .int .i64 20, .int .i64 1]) wc rfl (by kernel_rfl) ?_
            refine wpList_run (.pointer (some ⟨P, 1, none⟩)) wc rfl (by kernel_rfl) ?_
            refine wpList_run (.int .i64 4) wc rfl (by go_simp) ?_
            refine wpList_run (.int .i64 7) wc rfl (by kernel_rfl) ?_
            refine wpList_run (.int .i64 7) wc rfl (by kernel_rfl) ?_
            simp only [Act.put, List.setIfInBounds_toArray, List.set_cons_zero, List.set_cons_succ]
            go_wp2_with (first | (go_at_call 12; ((with_reducible refine AW4.out.mono ?_); rintro e w5 ⟨rfl, hb⟩; have B5 := Lib.hid (B4.out.trans (hb.mono B4.out.size)); clear hb)) | fail)
            go_ret
            exact ⟨rfl, B5.out⟩
          · skip
            rw [show ((hlen s.fmt s.h.kind : Nat) : Int) + (if (s.udp != 0 || (s.fmt != 6 && true)) = true then 2 else 0) = 9 from by rw [HL, show (s.udp != 0 || (s.fmt != 6 && true)) = true from by rw [hu, h6]; rfl]; rfl]
            go_upto_region 10 with fail
            refine wp_region_lit ?_
            refine wpList_run (.agg #[.int .i64 0, .int .i64 1, .int .i64 2, .int .i64 4, .int .i64 7, .int .i64 20, .int .i64 1]) wc rfl (by kernel_rfl) ?_
            refine wpList_run (.pointer (some ⟨P, 1, none⟩)) wc rfl (by kernel_rfl) ?_
            refine wpList_run (.int .i64 4) wc rfl (by go_simp) ?_
            refine wpList_run (.int .i64 7) wc rfl (by kernel_rfl) ?_
            refine wpList_run (.int .i64 7) wc rfl (by kernel_rfl) ?_
            simp only [Act.put, List.setIfInBounds_toArray, List.set_cons_zero, List.set_cons_succ]
            go_wp2_with (first | (go_at_call 12; ((with_reducible refine AW4.out.mono ?_); rintro e w5 ⟨rfl, hb⟩; have B5 := Lib.hid (B4.out.trans (hb.mono B4.out.size)); clear hb)) | fail)
            go_ret
            exact ⟨rfl, B5.out⟩
        · skip
          have h6 : (s.fmt != 6) = true := by rw [e]; rfl
          have K2 : (s.h.kind == 2) = true := by rw [k]; rfl
          have HL : hlen s.fmt s.h.kind = 16 := by rw [e, k]; rfl
          have c1 : wc.cell? ⟨P, 1, none⟩ = some (.int .i64 4) := (c4 1).trans (by rw [e]; rfl)
          clear k
          cases hkc : (s.h.check != 0)
          · skip
            rw [show ((hlen s.fmt s.h.kind : Nat) : Int) + (if (s.udp != 0 || (s.fmt != 6 && false)) = true then 2 else 0) = 16 from by rw [HL, show (s.udp != 0 || (s.fmt != 6 && false)) = false from by rw [hu, h6]; rfl]; rfl]
            go_upto_region 10 with fail
            refine wp_region_lit ?_
            refine wpList_run (.agg #[.int .i64 0, .int .i64 1, .int .i64 2, .int .i64 4, .int .i64 7, .int .i64 20, .int .i64 1]) wc rfl (by kernel_rfl) ?_
            refine wpList_run (.pointer (some ⟨P, 1, none⟩)) wc rfl (by kernel_rfl) ?_
            refine wpList_run (.int .i64 4) wc rfl (by go_simp) ?_
            refine wpList_run (.int .i64 7) wc rfl (by kernel_rfl) ?_
            refine wpList_run (.int .i64 7) wc rfl (by kernel_rfl) ?_
            simp only [Act.put, List.setIfInBounds_toArray, List.set_cons_zero, List.set_cons_succ]
            go_upto_region 12 with fail
            refine wp_region_lit ?_
            refine wpList_run (.agg #[.int .i64 0, .int .i64 1, .int .i64 4, .int .i64 9, .int .i64 16, .int .i64 33, .int .i64 1]) wc rfl (by kernel_rfl) ?_
            refine wpList_run (.pointer (some ⟨P, 1, none⟩)) wc rfl (by kernel_rfl) ?_
            refine wpList_run (.int .i64 4) wc rfl (by go_simp) ?_
            refine wpList_run (.int .i64 16) wc rfl (by kernel_rfl) ?_
            refine wpList_run (.int .i64 16) wc rfl (by kernel_rfl) ?_
            simp only [Act.put, List.setIfInBounds_toArray, List.set_cons_zero, List.set_cons_succ]
            go_wp2_with (first | (go_at_call 12; ((with_reducible refine AW4.out.mono ?_); rintro e w5 ⟨rfl, hb⟩; have B5 := Lib.hid (B4.out.trans (hb.mono B4.out.size)); clear hb)) | fail)
            go_ret
            exact ⟨rfl, B5.out⟩
          · skip
            rw [show ((hlen s.fmt s.h.kind : Nat) : Int) + (if (s.udp != 0 || (s.fmt != 6 && true)) = true then 2 else 0) = 18 from by rw [HL, show (s.udp != 0 || (s.fmt != 6 && true)) = true from by rw [hu, h6]; rfl]; rfl]
            go_upto_region 10 with fail
            refine wp_region_lit ?_
            refine wpList_run (.agg #[.int .i64 0, .int .i64 1, .int .i64 2, .int .i64 4, .int .i64 7, .int .i64 20, .int .i64 1]) wc rfl (by kernel_rfl) ?_
            refine wpList_run (.pointer (some ⟨P, 1, none⟩)) wc rfl (by kernel_rfl) ?_
            refine wpList_run (.int .i64 4) wc rfl (by go_simp) ?_
            refine wpList_run (.int .i64 7) wc rfl (by kernel_rfl) ?_
            refine wpList_run (.int .i64 7) wc rfl (by kernel_rfl) ?_
            simp only [Act.put, List.setIfInBounds_toArray, List.set_cons_zero, List.set_cons_succ]
            go_upto_region 12 with fail
            refine wp_region_lit ?_
            refine wpList_run (.agg #[.int .i64 0, .int .i64 1, .int .i64 4, .int .i64 9, .int .i64 16, .int .i64 33, .int .i64 1]) wc rfl (by kernel_rfl) ?_
            refine wpList_run (.pointer (some ⟨P, 1, none⟩)) wc rfl (by kernel_rfl) ?_
            refine wpList_run (.int .i64 4) wc rfl (by go_simp) ?_
            refine wpList_run (.int .i64 16) wc rfl (by kernel_rfl) ?_
            refine wpList_run (.int .i64 16) wc rfl (by kernel_rfl) ?_
            simp only [Act.put, List.setIfInBounds_toArray, List.set_cons_zero, List.set_cons_succ]
            go_wp2_with (first | (go_at_call 12; ((with_reducible refine AW4.out.mono ?_); rintro e w5 ⟨rfl, hb⟩; have B5 := Lib.hid (B4.out.trans (hb.mono B4.out.size)); clear hb)) | fail)
            go_ret
            exact ⟨rfl, B5.out⟩
        · skip
          have h6 : (s.fmt != 6) = true := by rw [e]; rfl
          have K2 : (s.h.kind == 2) = false := by rw [k]; rfl
          have HL : hlen s.fmt s.h.kind = 20 := by rw [e, k]; rfl
          have c1 : wc.cell? ⟨P, 1, none⟩ = some (.int .i64 5) := (c4 1).trans (by rw [e]; rfl)
          clear k
          cases hkc : (s.h.check != 0)
          · skip
            rw [show ((hlen s.fmt s.h.kind : Nat) : Int) + (if (s.udp != 0 || (s.fmt != 6 && false)) = true then 2 else 0) = 20 from by rw [HL, show (s.udp != 0 || (s.fmt != 6 && false)) = false from by rw [hu, h6]; rfl]; rfl]
            go_upto_region 10 with fail
            refine wp_region_lit ?_
            refine wpList_run (.agg #[.int .i64 0, .int .i64 1, .int .i64 2, .int .i64 4, .int .i64 7, .int .i64 20, .int .i64 1]) wc rfl (by kernel_rfl) ?_
            refine wpList_run (.pointer (some ⟨P, 1, none⟩)) wc rfl (by kernel_rfl) ?_
            refine wpList_run (.int .i64 5) wc rfl (by go_simp) ?_
            refine wpList_run (.int .i64 20) wc rfl (by kernel_rfl) ?_
            refine wpList_run (.int .i64 20) wc rfl (by kernel_rfl) ?_
            simp only [Act.put, List.setIfInBounds_toArray, List.set_cons_zero, List.set_cons_succ]
            go_wp2_with (first | (go_at_call 12; ((with_reducible refine AW4.out.mono ?_); rintro e w5 ⟨rfl, hb⟩; have B5 := Lib.hid (B4.out.trans (hb.mono B4.out.size)); clear hb)) | fail)
            go_ret
            exact ⟨rfl, B5.out⟩
          · skip
            rw [show ((hlen s.fmt s.h.kind : Nat) : Int) + (if (s.udp != 0 || (s.fmt != 6 && true)) = true then 2 else 0) = 22 from by rw [HL, show (s.udp != 0 || (s.fmt != 6 && true)) = true from by rw [hu, h6]; rfl]; rfl]
            go_upto_region 10 with fail
            refine wp_region_lit ?_
            refine wpList_run (.agg #[.int .i64 0, .int .i64 1, .int .i64 2, .int .i64 4, .int .i64 7, .int .i64 20, .int .i64 1]) wc rfl (by kernel_rfl) ?_
            refine wpList_run (.pointer (some ⟨P, 1, none⟩)) wc rfl (by kernel_rfl) ?_
            refine wpList_run (.int .i64 5) wc rfl (by go_simp) ?_
            refine wpList_run (.int .i64 20) wc rfl (by kernel_rfl) ?_
            refine wpList_run (.int .i64 20) wc rfl (by kernel_rfl) ?_
            simp only [Act.put, List.setIfInBounds_toArray, List.set_cons_zero, List.set_cons_succ]
            go_wp2_with (first | (go_at_call 12; ((with_reducible refine AW4.out.mono ?_); rintro e w5 ⟨rfl, hb⟩; have B5 := Lib.hid (B4.out.trans (hb.mono B4.out.size)); clear hb)) | fail)
            go_ret
            exact ⟨rfl, B5.out⟩
        · skip
          have h6 : (s.fmt != 6) = true := by rw [e]; rfl
          have K2 : (s.h.kind == 2) = true := by rw [k]; rfl
          have HL : hlen s.fmt s.h.kind = 33 := by rw [e, k]; rfl
          have c1 : wc.cell? ⟨P, 1, none⟩ = some (.int .i64 5) := (c4 1).trans (by rw [e]; rfl)
          clear k
          cases hkc : (s.h.check != 0)
          · skip
            rw [show ((hlen s.fmt s.h.kind : Nat) : Int) + (if (s.udp != 0 || (s.fmt != 6 && false)) = true then 2 else 0) = 33 from by rw [HL, show (s.udp != 0 || (s.fmt != 6 && false)) = false from by rw [hu, h6]; rfl]; rfl]
            go_upto_region 10 with fail
            refine wp_region_lit ?_
            refine wpList_run (.agg #[.int .i64 0, .int .i64 1, .int .i64 2, .int .i64 4, .int .i64 7, .int .i64 20, .int .i64 1]) wc rfl (by kernel_rfl) ?_
            refine wpList_run (.pointer (some ⟨P, 1, none⟩)) wc rfl (by kernel_rfl) ?_
            refine wpList_run (.int .i64 5) wc rfl (by go_simp) ?_
            refine wpList_run (.int .i64 20) wc rfl (by kernel_rfl) ?_
            refine wpList_run (.int .i64 20) wc rfl (by kernel_rfl) ?_
            simp only [Act.put, List.setIfInBounds_toArray, List.set_cons_zero, List.set_cons_succ]
            go_upto_region 12 with fail
            refine wp_region_lit ?_
            refine wpList_run (.agg #[.int .i64 0, .int .i64 1, .int .i64 4, .int .i64 9, .int .i64 16, .int .i64 33, .int .i64 1]) wc rfl (by kernel_rfl) ?_
            refine wpList_run (.pointer (some ⟨P, 1, none⟩)) wc rfl (by kernel_rfl) ?_
            refine wpList_run (.int .i64 5) wc rfl (by go_simp) ?_
            refine wpList_run (.int .i64 33) wc rfl (by kernel_rfl) ?_
            refine wpList_run (.int .i64 33) wc rfl (by kernel_rfl) ?_
            simp only [Act.put, List.setIfInBounds_toArray, List.set_cons_zero, List.set_cons_succ]
            go_wp2_with (first | (go_at_call 12; ((with_reducible refine AW4.out.mono ?_); rintro e w5 ⟨rfl, hb⟩; have B5 := Lib.hid (B4.out.trans (hb.mono B4.out.size)); clear hb)) | fail)
            go_ret
            exact ⟨rfl, B5.out⟩
          · skip
            rw [show ((hlen s.fmt s.h.kind : Nat) : Int) + (if (s.udp != 0 || (s.fmt != 6 && true)) = true then 2 else 0) = 35 from by rw [HL, show (s.udp != 0 || (s.fmt != 6 && true)) = true from by rw [hu, h6]; rfl]; rfl]
            go_upto_region 10 with fail
            refine wp_region_lit ?_
            refine wpList_run (.agg #[.int .i64 0, .int .i64 1, .int .i64 2, .int .i64 4, .int .i64 7, .int .i64 20, .int .i64 1]) wc rfl (by kernel_rfl) ?_
            refine wpList_run (.pointer (some ⟨P, 1, none⟩)) wc rfl (by kernel_rfl) ?_
            refine wpList_run (.int .i64 5) wc rfl (by go_simp) ?_
            refine wpList_run (.int .i64 20) wc rfl (by kernel_rfl) ?_
            refine wpList_run (.int .i64 20) wc rfl (by kernel_rfl) ?_
            simp only [Act.put, List.setIfInBounds_toArray, List.set_cons_zero, List.set_cons_succ]
            go_upto_region 12 with fail
            refine wp_region_lit ?_
            refine wpList_run (.agg #[.int .i64 0, .int .i64 1, .int .i64 4, .int .i64 9, .int .i64 16, .int .i64 33, .int .i64 1]) wc rfl (by kernel_rfl) ?_
            refine wpList_run (.pointer (some ⟨P, 1, none⟩)) wc rfl (by kernel_rfl) ?_
            refine wpList_run (.int .i64 5) wc rfl (by go_simp) ?_
            refine wpList_run (.int .i64 33) wc rfl (by kernel_rfl) ?_
            refine wpList_run (.int .i64 33) wc rfl (by kernel_rfl) ?_
            simp only [Act.put, List.setIfInBounds_toArray, List.set_cons_zero, List.set_cons_succ]
            go_wp2_with (first | (go_at_call 12; ((with_reducible refine AW4.out.mono ?_); rintro e w5 ⟨rfl, hb⟩; have B5 := Lib.hid (B4.out.trans (hb.mono B4.out.size)); clear hb)) | fail)
            go_ret
            exact ⟨rfl, B5.out⟩
      · have hu : (s.udp != 0) = false := by rw [b.udp]; rfl
        have hkc : (s.h.check != 0) = false := by rw [b.head]; rfl
        have e := f
        have k : s.h.kind = 0 := by rw [b.head]; rfl
        clear b f
        have h6 : (s.fmt != 6) = false := by rw [e]; rfl
        have K2 : (s.h.kind == 2) = false := by rw [k]; rfl
        have HL : hlen s.fmt s.h.kind = 1 := by rw [e, k]; rfl
        have c1 : wc.cell? ⟨P, 1, none⟩ = some (.int .i64 6) := (c4 1).trans (by rw [e]; rfl)
        clear k
        rw [show ((hlen s.fmt s.h.kind : Nat) : Int) + (if (s.udp != 0 || (s.fmt != 6 && s.h.check != 0)) = true then 2 else 0) = 1 from by rw [HL, show (s.udp != 0 || (s.fmt != 6 && s.h.check != 0)) = false from by rw [hu, h6, hkc]; rfl]; rfl]
        go_upto_region 10 with fail
        refine wp_region_lit ?_
        refine wpList_run (.agg #[.int .i64 0, .int .i64 1, .int .i64 2, .int .i64 4, .int .i64 7, .int .i64 20, .int .i64 1]) wc rfl (by kernel_rfl) ?_
        refine wpList_run (.pointer (some ⟨P, 1, none⟩)) wc rfl (by kernel_rfl) ?_
        refine wpList_run (.int .i64 6) wc rfl (by go_simp) ?_
        refine wpList_run (.int .i64 1) wc rfl (by kernel_rfl) ?_
        refine wpList_run (.int .i64 1) wc rfl (by kernel_rfl) ?_
        simp only [Act.put, List.setIfInBounds_toArray, List.set_cons_zero, List.set_cons_succ]
        go_wp2_with (first | (go_at_call 12; ((with_reducible refine AW4.out.mono ?_); rintro e w5 ⟨rfl, hb⟩; have B5 := Lib.hid (B4.out.trans (hb.mono B4.out.size)); clear hb)) | fail)
        go_ret
        exact ⟨rfl, B5.out⟩

  · have hd : decide (n ≤ 400) = false := decide_eq_false hn
    have AW := Lib.hid (awake08_any w HST.out)
    go_enter Tryd.func9, Tryd.ntmps9
    go_wp2_with (first
      | (go_at_call 16; refine (light_any _ _ _ _ (by omega)).mono ?_; rintro e w' ⟨rfl, rfl⟩)
      | (go_at_call 12; refine AW.out.mono ?_; rintro e w2 ⟨rfl, hb⟩; have B2 := Lib.hid hb; clear hb)
      | fail)
    go_ret
    exact ⟨rfl, B2.out⟩

theorem own : ownKnob Tryd.prog.godebug = none := by kernel_rfl
theorem laidOut : laidOutB Tryd.prog = true := by kernel_rfl
theorem read_ints : Tryd.prog.readableRec 35 = true := by kernel_rfl
theorem cells_i : Tryd.prog.cellsOf 3 = 1 := by kernel_rfl
theorem bytes_i : Tryd.prog.bytesOf 3 = 8 := by kernel_rfl
theorem lt_ints : 35 < Tryd.prog.types.size := of_decide_eq_true (by kernel_rfl)

set_option maxRecDepth 100000 in
theorem lifted (os : Os) (started : os.Started) (H : Type) (enc : TypeId × Value → H) :
    ReturnsInHanded {} Tryd.checked os 9 .any (fun w args => (Rows.formatSizesSpec.pre enc Tryd.prog Tryd.f9 [] false w args ∧ laidMetH Tryd.prog laid08 w) ∧ sizedMet enc Tryd.prog Tryd.f9 (OpenSpec.ofChange Rows.formatSizesSpec) false w args) (Rows.formatSizesSpec.post enc Tryd.prog Tryd.f9 false true false false) := by
  refine law_lifted_laid (laid := laid08) (C := Tryd.checked) (rt := 4) [35] own started (by kernel_rfl) Tryd.func9 laidOut (by rw [Tryd.params9])
    (fun t ht => by simp only [List.mem_cons, List.not_mem_nil, or_false] at ht; rcases ht with rfl <;> first | exact ⟨read_ints, lt_ints⟩) rfl Tryd.underlying4 rfl
    (fun ds h => by match ds, h with | [d0], _ => rfl)
    (ChangeSpec.witness_shaped (enc := enc) (C := Tryd.checked) (os := os) (X := fun w _ => laidMetH Tryd.prog laid08 w) false (World.doorLaid Tryd.prog 400 os) #[.slice none 0 0] 8 rfl (World.shaped_of_RefB (by kernel_rfl) (by kernel_rfl)) (by kernel_rfl) (by kernel_rfl) (by kernel_rfl) (door_met08 os _)) ?_
  intro W base args ds p hval hA hsz hL
  obtain ⟨v0, vs0, d0, ds0, p0, q0, hargs, rfl, rfl, h0, r0⟩ := trodAll_cons hA
  obtain ⟨rfl, rfl, rfl⟩ := trodAll_nil r0
  obtain rfl : args = #[v0] := by cases args; simp_all
  obtain ⟨a0, n0, c0, z0, rfl, s0, nn0⟩ := open_slr Tryd.underlying35 Tryd.underlying3 cells_i (by rw [bytes_i]; omega) (hval 0 _ v0 rfl rfl) h0 (fun el spa hd => sized_slice hsz (j := 0) rfl (by rw [hd]; rfl) Tryd.underlying35)
  exact walk W (st_of_laid hL) a0 n0 c0 z0 s0

/-- THE ROW -/
theorem rowProved : Rows.FormatSizesSaid :=
  OpenClaim.holds_of_wide 9 Tryd.f9 rfl rfl rfl rfl rfl rfl rfl ⟨rfl, rfl, rfl, rfl, rfl⟩ rfl rfl rfl rfl rfl (by kernel_rfl) Tryd.func9 (by kernel_rfl)
    (of_decide_eq_true (by kernel_rfl)) (by unfold Func.isWrapper; first | (rw [if_pos (by decide +kernel)]; kernel_rfl) | (rw [if_neg (by decide +kernel)]; exact ⟨rfl, rfl⟩))
    (fun os started H enc _ => lifted os started H enc)
set_option maxRecDepth 100000 in
/-- THE STATEMENT: the card -/
theorem proved : Rows.FormatSizesCardSaid :=
  Claim7.holds_tied_plain_at .later [] [.data] true Rows.formatSizesCard.stood.harness false
    rowProved (fun _ h => by cases h) (by kernel_rfl) (fun _ h => by cases h) formatSizes_row_tie rfl ⟨rfl, rfl⟩ (by kernel_rfl) rfl
    (fun f fn hf hfn => by
      obtain rfl : f = 9 := Option.some.inj ((show Tryd.prog.funcNamed "radiolink/radiolinklaw08.FormatSizes" = some 9 by kernel_rfl).symm.trans hf) |>.symm
      obtain rfl : fn = Tryd.f9 := (Option.some.inj (Tryd.func9.symm.trans hfn)).symm
      exact ⟨by kernel_rfl, fun j t ht => by
        rw [Tryd.params9] at ht
        have hm : t ∈ [35] := by simpa using Array.mem_of_getElem? ht
        have hall : ([35].all fun u => !Tryd.prog.wantsStandIn u) = true := by kernel_rfl
        exact (show Tryd.prog.wantsStandIn t = false by simpa using List.all_eq_true.1 hall t hm)⟩)
    (by kernel_rfl)
#print axioms proved
end Go.Proofs.YtjmbaajdieiblaaDoor.formatSizes
